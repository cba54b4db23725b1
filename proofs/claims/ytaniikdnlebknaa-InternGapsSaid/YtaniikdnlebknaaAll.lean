/- Proved here: contracts of package intern: All. -/
import Derived.Test.YtaniikdnlebknaaNums
namespace Go.Proofs.Ytaniikdnlebknaa
open Go.RowKit Go.Maps Go.WideMaps
set_option linter.unusedVariables false

/-- A slice of numbers that reads as xs. -/
def Nums (w : World) (B : Nat) (A : Option Addr) (n : Nat) (xs : List Int) : Prop := Reads w B A n (xs.map fun x => .int .i64 x)
/-- A slice of slices of numbers. -/
def RowsN (w : World) (B : Nat) (A : Option Addr) (n : Nat) (rows : List (Option Addr × Nat × Nat)) (xss : List (List Int)) : Prop :=
  Reads w B A n (rows.map fun r => .slice r.1 r.2.1 r.2.2) ∧ rows.length = xss.length ∧ ∀ (k : Nat) (r : Option Addr × Nat × Nat) (xs : List Int), rows[k]? = some r → xss[k]? = some xs → Nums w B r.1 r.2.1 xs

theorem Nums.len {w : World} {B n : Nat} {A : Option Addr} {xs : List Int} (h : Nums w B A n xs) : xs.length = n := by have := h.1; simpa using this
theorem Nums.at_ {w : World} {B n : Nat} {A : Option Addr} {xs : List Int} {k : Nat} (h : Nums w B A n xs) (hk : k < n) :
    ∃ b o x, A = some ⟨b, o, none⟩ ∧ b < B ∧ xs[k]? = some x ∧ w.cell? ⟨b, o + k, none⟩ = some (.int .i64 x) := by
  obtain ⟨b, o, u, e, hb, hu, hc⟩ := Reads.at_ h hk
  rw [List.getElem?_map] at hu
  cases h : xs[k]? with
  | none => rw [h] at hu; cases hu
  | some t => rw [h] at hu; exact ⟨b, o, t, e, hb, rfl, by rw [hc]; simpa using hu.symm⟩
theorem RowsN.at_ {w : World} {B n k : Nat} {A : Option Addr} {rows : List (Option Addr × Nat × Nat)} {xss : List (List Int)} (h : RowsN w B A n rows xss) (hk : k < n) :
    ∃ b o A' n' c' xs, A = some ⟨b, o, none⟩ ∧ b < B ∧ xss[k]? = some xs ∧ w.cell? ⟨b, o + k, none⟩ = some (.slice A' n' c') ∧ Nums w B A' n' xs := by
  obtain ⟨b, o, u, e, hb, hu, hc⟩ := Reads.at_ h.1 hk
  rw [List.getElem?_map] at hu
  cases hr : rows[k]? with
  | none => rw [hr] at hu; cases hu
  | some r =>
    rw [hr] at hu
    have hlt : k < xss.length := by have := (List.getElem?_eq_some_iff.1 hr).1; have := h.2.1; omega
    exact ⟨b, o, r.1, r.2.1, r.2.2, xss[k], e, hb, List.getElem?_eq_getElem hlt, by rw [hc]; simpa using hu.symm, h.2.2 k r _ hr (List.getElem?_eq_getElem hlt)⟩
theorem RowsN.len {w : World} {B n : Nat} {A : Option Addr} {rows : List (Option Addr × Nat × Nat)} {xss : List (List Int)} (h : RowsN w B A n rows xss) : xss.length = n := by
  have := h.1.1; have := h.2.1; simp at *; omega
theorem Nums.below {w w' : World} {B n : Nat} {A : Option Addr} {xs : List Int} (h : Nums w B A n xs) (hb : Below B w w') : Nums w' B A n xs := Reads.below h hb
theorem Nums.more {w : World} {B B' n : Nat} {A : Option Addr} {xs : List Int} (h : Nums w B A n xs) (hb : B ≤ B') : Nums w B' A n xs := Reads.more h hb
theorem RowsN.below {w w' : World} {B n : Nat} {A : Option Addr} {rows : List (Option Addr × Nat × Nat)} {xss : List (List Int)} (h : RowsN w B A n rows xss) (hb : Below B w w') : RowsN w' B A n rows xss :=
  ⟨h.1.below hb, h.2.1, fun k r ss h1 h2 => Reads.below (h.2.2 k r ss h1 h2) hb⟩
theorem RowsN.more {w : World} {B B' n : Nat} {A : Option Addr} {rows : List (Option Addr × Nat × Nat)} {xss : List (List Int)} (h : RowsN w B A n rows xss) (hb : B ≤ B') : RowsN w B' A n rows xss :=
  ⟨Reads.more h.1 hb, h.2.1, fun k r ss h1 h2 => Reads.more (h.2.2 k r ss h1 h2) hb⟩
theorem RowsN.drewN {w : World} {B n : Nat} {A : Option Addr} {rows : List (Option Addr × Nat × Nat)} {xss : List (List Int)} (h : RowsN w B A n rows xss) (q : Nat) : RowsN (w.drewN q) B A n rows xss :=
  ⟨Reads.keep h.1 fun _ _ => rfl, h.2.1, fun k r ss h1 h2 => Reads.keep (h.2.2 k r ss h1 h2) fun _ _ => rfl⟩
theorem reads_of_row {w : World} {b n : Nat} {t : TypeId} {f : Nat → Value} (h : w.rowIs b t n f) (xs : List Value) (hl : xs.length = n) (hx : ∀ i u, xs[i]? = some u → f i = u) : Reads w w.heap.size (some ⟨b, 0, none⟩) n xs :=
  ⟨hl, fun _ => ⟨b, 0, rfl, h.lt, fun j u hu => by
    have hj : j < n := by have := (List.getElem?_eq_some_iff.1 hu).1; omega
    rw [Nat.zero_add, h.cell hj, hx j u hu]⟩⟩

/-- The numbers of all texts of the files. -/
def numsL (fin : List (List UInt8)) (files : List (List (List UInt8))) : List (List Int) := files.map fun f => f.map fun s => (numOf fin s : Int)

/-- How far All has come. -/
def AllIn (w wr : World) (T g n : Nat) (F : Nat → Prop) (files : List (List (List UInt8))) (fin : List (List UInt8)) (k : Nat) : Prop :=
  ∃ (Fr : Nat → Prop) (bs : Nat → Nat), Tab wr T Fr (withAll [] (files.take k).flatten) ∧ But (fun j => F j ∨ j = g) w wr ∧ (∀ j, Fr j → F j ∨ w.heap.size ≤ j) ∧
    wr.rowIs g 39 n (fun i => if i < k then .slice (some ⟨bs i, 0, none⟩) (files.getD i []).length (files.getD i []).length else .slice none 0 0) ∧
    ∀ i, i < k → ¬ Fr (bs i) ∧ bs i ≠ g ∧ wr.rowIs (bs i) 3 (files.getD i []).length (fun j => .int .i64 (numOf fin ((files.getD i []).getD j [])))

section
variable {w wr w' : World} {T b g n k : Nat} {F Fr : Nat → Prop} {files : List (List (List UInt8))} {file fin : List (List UInt8)} {bs : Nat → Nat}
theorem all_step (hk : files[k]? = some file) (hg : g < w.heap.size) (hgF : ¬ F g) (hT : Tab wr T Fr (withAll [] (files.take k).flatten)) (hbut : But (fun j => F j ∨ j = g) w wr) (hFr : ∀ j, Fr j → F j ∨ w.heap.size ≤ j)
    (hrow : wr.rowIs g 39 n (fun i => if i < k then .slice (some ⟨bs i, 0, none⟩) (files.getD i []).length (files.getD i []).length else .slice none 0 0))
    (hrows : ∀ i, i < k → ¬ Fr (bs i) ∧ bs i ≠ g ∧ wr.rowIs (bs i) 3 (files.getD i []).length (fun j => .int .i64 (numOf fin ((files.getD i []).getD j []))))
    (hbw : wr.heap.size ≤ b) (hrb : w'.rowIs b 3 file.length (fun j => .int .i64 (numOf fin (file.getD j []))))
    (hF' : ∃ F', Tab w' T F' (withAll (withAll [] (files.take k).flatten) file) ∧ ¬ F' b ∧ But Fr wr w' ∧ ∀ j, F' j → Fr j ∨ wr.heap.size ≤ j) :
    w'.rowIs g 39 n (fun i => if i < k then .slice (some ⟨bs i, 0, none⟩) (files.getD i []).length (files.getD i []).length else .slice none 0 0) ∧
      AllIn w (w'.setCell ⟨g, k, none⟩ (.slice (some ⟨b, 0, none⟩) file.length file.length)) T g n F files fin (k + 1) := by
  obtain ⟨F', hT', hb', hb'w, hF'⟩ := hF'
  have hgr : g < wr.heap.size := hrow.lt
  have hgFr : ¬ Fr g := fun h => (hFr g h).elim hgF (fun h => by omega)
  have hgF' : ¬ F' g := fun h => (hF' g h).elim hgFr (fun h => by omega)
  have hrow' := hrow.of_block (hb'w.block g hgr hgFr)
  have hta : withAll [] (files.take (k + 1)).flatten = withAll (withAll [] (files.take k).flatten) file := by
    rw [take_at hk, List.flatten_append, withAll_app]; simp
  have hfk : files.getD k [] = file := by simp [List.getD, hk]
  refine ⟨hrow', F', fun i => if i = k then b else bs i, ?_, ?_, ?_, ?_, ?_⟩
  · rw [hta]
    exact hT'.but (.setCell w' (F := fun j => j = g) (p := ⟨g, k, none⟩) rfl _) (fun j hj e => hgF' (e ▸ hj))
  · exact (hbut.trans hb'w (fun j hj => (hFr j hj).elim (fun h => .inl (.inl h)) .inr)).trans (.setCell w' (F := fun j => j = g) (p := ⟨g, k, none⟩) rfl _) (fun j hj => .inl (.inr hj))
  · intro j hj
    rcases hF' j hj with h | h
    · exact hFr j h
    · exact .inr (by have := hbut.size; omega)
  · refine (hrow'.set k _).congr fun j hj => ?_
    rcases Nat.lt_trichotomy j k with h | rfl | h
    · rw [if_neg (by omega), if_pos h, if_pos (by omega)]; dsimp only; rw [if_neg (by omega)]
    · rw [if_pos rfl, if_pos (by omega)]; dsimp only; rw [if_pos rfl, hfk]
    · rw [if_neg (by omega), if_neg (by omega), if_neg (by omega)]
  · intro i hi
    by_cases e : i = k
    · subst e
      dsimp only
      rw [if_pos rfl, hfk]
      exact ⟨hb', by omega, hrb.setOther (by show b ≠ g; omega) _⟩
    · dsimp only
      rw [if_neg e]
      obtain ⟨h1, h2, h3⟩ := hrows i (by omega)
      refine ⟨fun h => (hF' _ h).elim h1 (fun h => by have := h3.lt; omega), h2, ?_⟩
      exact (h3.of_block (hb'w.block _ h3.lt h1)).setOther h2 _
end

/-- The numbers of all texts were given. -/
def AllOut (w w' : World) (e : Ending) (xss : List (List Int)) : Prop :=
  ∃ A n c rows, e = .returned (.slice A n c) ∧ n ≤ c ∧ c ≤ maxLen ∧ RowsN w' w'.heap.size A n rows xss ∧ Below w.heap.size w w'

theorem all_out {w wn wr : World} {g n : Nat} {F : Nat → Prop} {files : List (List (List UInt8))} {fin : List (List UInt8)} (hn : files.length = n) (hm : n ≤ maxLen) (hw : Below w.heap.size w wn) (hg : w.heap.size ≤ g) (hF : ∀ j, F j → w.heap.size ≤ j)
    (h : AllIn wn wr w.heap.size g n F files fin n) : AllOut w wr (.returned (.slice (some ⟨g, 0, none⟩) n n)) (numsL fin files) := by
  obtain ⟨Fr, bs, hT, hbut, hFr, hrow, hrows⟩ := h
  refine ⟨_, n, n, (List.range n).map fun i => (some ⟨bs i, 0, none⟩, (files.getD i []).length, (files.getD i []).length), rfl, Nat.le_refl _, hm, ⟨?_, ?_, ?_⟩, ?_⟩
  · refine reads_of_row hrow _ (by simp) fun i u hu => ?_
    have hi : i < n := by have := (List.getElem?_eq_some_iff.1 hu).1; simpa using this
    rw [if_pos hi, ← Option.some_inj, ← hu]
    simp [hi]
  · simp [numsL, hn]
  · intro k r xs hr hx
    have hk : k < n := by have := (List.getElem?_eq_some_iff.1 hr).1; simpa using this
    simp [hk] at hr
    subst hr
    have hfk : files[k]? = some (files.getD k []) := by simp [List.getD, List.getElem?_eq_getElem (show k < files.length by omega)]
    unfold numsL at hx
    rw [List.getElem?_map, hfk] at hx
    simp only [Option.map_some, Option.some.injEq] at hx
    subst hx
    refine reads_of_row (hrows k hk).2.2 _ (by simp) fun i u hu => ?_
    rw [List.getElem?_map, List.getElem?_map] at hu
    cases hs : (files.getD k [])[i]? with
    | none => rw [hs] at hu; simp at hu
    | some s =>
      rw [hs] at hu
      simp only [Option.map_some, Option.some.injEq] at hu
      subst hu
      simp only [List.getD] at hs ⊢
      rw [hs]; rfl
  · exact hw.trans (hbut.below hw.size (fun j hj => hj.elim (hF j) (fun h => by omega)))

theorem sum_le : ∀ (l : List (List (List UInt8))) (m : Nat), (∀ f ∈ l, f.length ≤ m) → (l.map List.length).sum ≤ l.length * m
  | [], _, _ => by simp
  | f :: r, m, h => by
    have h1 := h f (by simp)
    have h2 := sum_le r m (fun g hg => h g (by simp [hg]))
    simp only [List.map_cons, List.sum_cons, List.length_cons, Nat.add_mul]
    omega
theorem info39 : (Try.prog.info? 39).map (fun i => (i.zero, i.size, i.bytes)) = some (some (.slice none 0 0), 1, 24) := by kernel_rfl

set_option maxHeartbeats 400000 in
theorem All_any (A : Option Addr) (n c : Nat) (rows : List (Option Addr × Nat × Nat)) (files : List (List (List UInt8))) (w : World) (hA : Rows2 w w.heap.size A n rows files)
    (hl : ∀ f ∈ files, ∀ s ∈ f, s.length ≤ maxLen) (hn : n ≤ 1000) (hn2 : ∀ f ∈ files, f.length ≤ 900) :
    Calls Try.prog 16 #[.slice A n c] w fun e w' => AllOut w w' e (numsL (withAll [] files.flatten) files) := by
  have hlen : files.length = n := by have := hA.1.1; have := hA.2.1; simp at *; omega
  obtain ⟨fin, hfin⟩ : ∃ fin, fin = withAll [] files.flatten := ⟨_, rfl⟩
  rw [← hfin]
  have hfh := Lib.hid hfin
  clear hfin
  have hmk := run_make_row' (P := Try.prog) 35 39 (.slice none 0 0) 24 Try.underlying35 info39 rfl .i64 .i64 n (by omega) (by omega)
  have hm : n ≤ maxLen := by unfold maxLen; omega
  go_enter Try.func16, Try.ntmps16
  go_wp2_with (go_at_call 10; refine (New_any _).mono ?_; rintro e w0 ⟨rfl, hT0, hB0, hs0⟩; have hs0' := Lib.hid hs0; clear hs0)
  have hsz : Hid ((w0.alloc (.cells (madeCells #[.slice none 0 0] n) 39)).heap.size = w0.heap.size + 1) := Lib.hid (by simp)
  have hsw : w.heap.size ≤ w0.heap.size := hB0.size
  have hgne : ¬ (w0.heap.size = w.heap.size) := by have := hs0'.out; omega
  have hB1 : Below w.heap.size w (w0.alloc (.cells (madeCells #[.slice none 0 0] n) 39)) := hB0.alloc hsw _
  have h0 : AllIn (w0.alloc (.cells (madeCells #[.slice none 0 0] n) 39)) (w0.alloc (.cells (madeCells #[.slice none 0 0] n) 39)) w.heap.size w0.heap.size n (· = w.heap.size) files fin 0 :=
    ⟨(· = w.heap.size), fun _ => 0, (hT0.but (F := (· = w.heap.size)) (G := fun _ => False) (.alloc w0 _) (fun _ _ h => h)), .refl _ _, fun j hj => .inl hj, (World.rowIs_made w0 (.slice none 0 0) n _).congr fun j _ => by rw [if_neg (by omega)], fun i hi => by omega⟩
  go_loopw [13] (fun i wr => ∃ k : Nat, k ≤ n ∧ i = .int .i64 k ∧ AllIn (w0.alloc (.cells (madeCells #[.slice none 0 0] n) 39)) wr w.heap.size w0.heap.size n (· = w.heap.size) files fin k) (fun i _ => n - (intOf i).toNat)
  case atStart => exact ⟨0, Nat.zero_le _, rfl, h0⟩
  case round =>
    obtain ⟨k, hk, rfl, hN⟩ := hrel
    obtain ⟨wo, rfl⟩ : ∃ wo : World, wo = wr := ⟨_, rfl⟩
    by_cases hlt : k < n
    · obtain ⟨Fr, bs, hT, hbut, hFr, hrow, hrows⟩ := hN
      have hbel : Below w.heap.size w wo := hB1.trans (hbut.below hB1.size (fun j hj => hj.elim (fun h => by omega) (fun h => by omega)))
      obtain ⟨b, o, A', n', c', ff, rfl, hb, ht, hc, hst⟩ := (hA.below hbel).at_ (k := k) hlt
      have hmem := List.mem_of_getElem? ht
      have hfl := hl ff hmem
      have hf9 := hn2 ff hmem
      have hffl := hst.len
      have hcount : (withAll [] (files.take k).flatten).length + n' < 1000000 := by
        have h1 := withAll_len (files.take k).flatten []
        have h2 : (files.take k).flatten.length ≤ k * 900 := by
          rw [List.length_flatten]
          clear h1 hn
          refine Nat.le_trans (sum_le (files.take k) 900 (fun f hf => hn2 f (List.mem_of_mem_take hf))) ?_
          exact Nat.mul_le_mul_right _ (List.length_take_le _ _)
        rw [List.length_nil, Nat.zero_add] at h1
        omega
      have hpre : withAll (withAll [] (files.take k).flatten) ff <+: fin := by
        rw [hfh.out, ← withAll_app]
        have : files.flatten = ((files.take k).flatten ++ ff) ++ (files.drop (k + 1)).flatten := by
          conv => lhs; rw [← List.take_append_drop k files, drop_at ht]
          simp
        conv => rhs; rw [this, withAll_app]
        exact withAll_pre _ _
      have hcount' := Lib.hid hcount
      have hpre' := Lib.hid hpre
      have hffl' := Lib.hid hffl
      have hfl' := Lib.hid hfl
      clear hcount hpre hmem hffl hfl hl hn2 h0
      go_wp2_with fail
      refine (numbers_any Fr w.heap.size w.heap.size _ ff fin A' n' c' _ hT (Nat.le_refl _) hst hfl'.out hcount'.out hpre'.out).mono ?_
      rintro e w' ⟨bn, rfl, hbn, hrb, hF'⟩
      have hst2 := all_step (F := (· = w.heap.size)) ht (by rw [hsz.out]; omega) hgne hT hbut hFr hrow hrows hbn hrb hF'
      have hck : w'.cell? ⟨w0.heap.size, k, none⟩ = some (.slice none 0 0) := (by rw [hst2.1.cell (i := k) hlt]; simp)
      have hfk := hst2.1.frozen k
      have hN' := Lib.hid hst2.2
      clear hst2 hrows hF'
      go_wp2
      go_roundw
      case rel => exact ⟨k + 1, by omega, by go_num, hN'.out⟩
      case measure => simp [intOf]; omega
    · obtain rfl : k = n := by omega
      go_wp2
      go_ret
      exact all_out hlen hm hB1 hsw (fun j hj => by omega) hN
end Go.Proofs.Ytaniikdnlebknaa
