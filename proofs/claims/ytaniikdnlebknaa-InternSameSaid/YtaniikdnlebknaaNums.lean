/- Proved here: contracts of package intern: numbers. -/
import Derived.Test.YtaniikdnlebknaaAddN
import Derived.Deep.OwnRows
namespace Go.Proofs.Ytaniikdnlebknaa
open Go.RowKit Go.Maps Go.WideMaps
set_option linter.unusedVariables false

theorem take_at {α : Type} {ss : List α} {k : Nat} {s : α} (h : ss[k]? = some s) : ss.take (k + 1) = ss.take k ++ [s] := by
  obtain ⟨hk, rfl⟩ := List.getElem?_eq_some_iff.1 h
  rw [List.take_succ_eq_append_getElem hk]
theorem drop_at {α : Type} {ss : List α} {k : Nat} {s : α} (h : ss[k]? = some s) : ss.drop k = s :: ss.drop (k + 1) := by
  obtain ⟨hk, rfl⟩ := List.getElem?_eq_some_iff.1 h
  exact (List.drop_eq_getElem_cons hk)

/-- The texts of a table behind all of l were asked, in turn. -/
def withAll (ts l : List (List UInt8)) : List (List UInt8) := l.foldl withText ts

theorem withText_pre (ts : List (List UInt8)) (s : List UInt8) : ts <+: withText ts s := by
  unfold withText; split
  · exact List.prefix_refl _
  · exact List.prefix_append _ _
theorem withText_mem (ts : List (List UInt8)) (s : List UInt8) : s ∈ withText ts s := by
  unfold withText; split
  · assumption
  · simp
theorem withAll_pre (l : List (List UInt8)) : ∀ ts, ts <+: withAll ts l := by
  induction l with
  | nil => exact fun ts => List.prefix_refl _
  | cons s r ih => exact fun ts => (withText_pre ts s).trans (ih _)
theorem withAll_app (ts l l' : List (List UInt8)) : withAll ts (l ++ l') = withAll (withAll ts l) l' := by unfold withAll; rw [List.foldl_append]
theorem withAll_len (l : List (List UInt8)) : ∀ ts, (withAll ts l).length ≤ ts.length + l.length := by
  induction l with
  | nil => exact fun ts => by simp [withAll]
  | cons s r ih =>
    intro ts
    have h1 := ih (withText ts s)
    have h2 : (withText ts s).length ≤ ts.length + 1 := by unfold withText; split <;> simp
    show (withAll (withText ts s) r).length ≤ _
    simp only [List.length_cons]
    omega
theorem numOf_pre {ts fin : List (List UInt8)} {s : List UInt8} (h : withText ts s <+: fin) : numOf ts s = numOf fin s := by
  obtain ⟨r, rfl⟩ := h
  have hm := withText_mem ts s
  unfold numOf
  rw [List.idxOf_append, if_pos hm]
  unfold withText
  split
  · rfl
  · rename_i hn
    rw [List.idxOf_append, if_neg hn, List.idxOf_eq_length hn]
    simp
theorem numOf_le (ts : List (List UInt8)) (s : List UInt8) : numOf ts s ≤ ts.length := List.idxOf_le_length

/-- How far numbers has come: block b holds the numbers of k texts. -/
def NumsIn (w wr : World) (T b n : Nat) (F : Nat → Prop) (ts file fin : List (List UInt8)) (k : Nat) : Prop :=
  ∃ Fr, Tab wr T Fr (withAll ts (file.take k)) ∧ But (fun j => F j ∨ j = b) w wr ∧ (∀ j, Fr j → F j ∨ w.heap.size ≤ j) ∧ wr.rowIs b 3 n (fun j => .int .i64 (if j < k then (numOf fin (file.getD j []) : Int) else 0))

section
variable {w wr w' : World} {T b n k : Nat} {F Fr : Nat → Prop} {ts file fin : List (List UInt8)} {s : List UInt8}
theorem nums_step (hk : file[k]? = some s) (hb : b < w.heap.size) (hbF : ¬ F b) (hT : Tab wr T Fr (withAll ts (file.take k))) (hbut : But (fun j => F j ∨ j = b) w wr) (hFr : ∀ j, Fr j → F j ∨ w.heap.size ≤ j)
    (hrow : wr.rowIs b 3 n (fun j => .int .i64 (if j < k then (numOf fin (file.getD j []) : Int) else 0))) (haf : After wr w' T Fr (withText (withAll ts (file.take k)) s)) (hfin : withAll ts file <+: fin) :
    w'.rowIs b 3 n (fun j => .int .i64 (if j < k then (numOf fin (file.getD j []) : Int) else 0)) ∧ NumsIn w (w'.setCell ⟨b, k, none⟩ (.int .i64 (numOf (withAll ts (file.take k)) s))) T b n F ts file fin (k + 1) := by
  obtain ⟨F', hT', hb', hF'⟩ := haf
  have hbr : b < wr.heap.size := hrow.lt
  have hbFr : ¬ Fr b := fun h => (hFr b h).elim hbF (fun h => by omega)
  have hbF' : ¬ F' b := fun h => (hF' b h).elim hbFr (fun h => by omega)
  have hrow' : w'.rowIs b 3 n (fun j => .int .i64 (if j < k then (numOf fin (file.getD j []) : Int) else 0)) := hrow.of_block (hb'.block b hbr hbFr)
  have hta : withAll ts (file.take (k + 1)) = withText (withAll ts (file.take k)) s := by
    rw [take_at hk, withAll_app]; rfl
  have hnum : numOf (withAll ts (file.take k)) s = numOf fin s := by
    refine numOf_pre (List.IsPrefix.trans ?_ hfin)
    rw [← hta]
    conv => rhs; rw [← List.take_append_drop (k + 1) file, withAll_app]
    exact withAll_pre _ _
  refine ⟨hrow', F', ?_, ?_, ?_, ?_⟩
  · rw [hta]
    exact hT'.but (.setCell w' (F := fun j => j = b) (p := ⟨b, k, none⟩) rfl _) (fun j hj e => hbF' (e ▸ hj))
  · exact (hbut.trans hb' (fun j hj => (hFr j hj).elim (fun h => .inl (.inl h)) .inr)).trans (.setCell w' (F := fun j => j = b) (p := ⟨b, k, none⟩) rfl _) (fun j hj => .inl (.inr hj))
  · intro j hj
    rcases hF' j hj with h | h
    · exact hFr j h
    · exact .inr (by have := hbut.size; omega)
  · refine (hrow'.set k _).congr fun j hj => ?_
    rcases Nat.lt_trichotomy j k with h | rfl | h
    · rw [if_neg (by omega), if_pos h, if_pos (by omega)]
    · rw [if_pos rfl, if_pos (by omega), hnum]
      simp [List.getD, hk]
    · rw [if_neg (by omega), if_neg (by omega), if_neg (by omega)]
end

/-- Numbers were given: the slice that came back reads as them. -/
def NumsOut (w w' : World) (e : Ending) (T : Nat) (F : Nat → Prop) (ts file fin : List (List UInt8)) : Prop :=
  ∃ b, e = .returned (.slice (some ⟨b, 0, none⟩) file.length file.length) ∧ w.heap.size ≤ b ∧ w'.rowIs b 3 file.length (fun j => .int .i64 (numOf fin (file.getD j []))) ∧
    ∃ F', Tab w' T F' (withAll ts file) ∧ ¬ F' b ∧ But F w w' ∧ ∀ j, F' j → F j ∨ w.heap.size ≤ j

theorem info3 : (Try.prog.info? 3).map (fun i => (i.zero, i.size, i.bytes)) = some (some (.int .i64 0), 1, 8) := by kernel_rfl

theorem nums_out {w wr : World} {T n : Nat} {F : Nat → Prop} {ts file fin : List (List UInt8)} (o : Obj) (hlen : file.length = n) (hb : ¬ F w.heap.size) (h : NumsIn (w.alloc o) wr T w.heap.size n F ts file fin n) :
    NumsOut w wr (.returned (.slice (some ⟨w.heap.size, 0, none⟩) n n)) T F ts file fin := by
  subst hlen
  obtain ⟨Fr, hT, hbut, hFr, hrow⟩ := h
  rw [List.take_length] at hT
  have hs : (w.alloc o).heap.size = w.heap.size + 1 := by simp
  refine ⟨w.heap.size, rfl, Nat.le_refl _, hrow.congr fun j hj => by rw [if_pos hj], Fr, hT, fun h => (hFr _ h).elim hb (fun h => by omega), ?_, fun j hj => (hFr j hj).elim .inl (fun h => .inr (by omega))⟩
  exact ⟨hbut.os, hbut.tape, hbut.output, by have := hbut.size; omega, fun k hk hn => (hbut.block k (by omega) (fun h => h.elim hn (fun h => by omega))).trans (Below.heap_alloc _ _ _ hk)⟩

set_option maxHeartbeats 400000 in
theorem numbers_any (F : Nat → Prop) (T B : Nat) (ts file fin : List (List UInt8)) (A : Option Addr) (n c : Nat) (w : World) (h : Tab w T F ts) (hB : B ≤ T) (hA : Strs w B A n file)
    (hl : ∀ s ∈ file, s.length ≤ maxLen) (hn : ts.length + n < 1000000) (hfin : withAll ts file <+: fin) :
    Calls Try.prog 21 #[.pointer (some ⟨T, 0, none⟩), .slice A n c] w fun e w' => NumsOut w w' e T F ts file fin := by
  have hlen := hA.len
  have hbF : ¬ F w.heap.size := fun hf => by have := (h.lies _ hf).2; omega
  have hmk := run_make_row' (P := Try.prog) 39 3 (.int .i64 0) 8 Try.underlying39 info3 rfl .i64 .i64 n (by omega) (by omega)
  have hsw : (w.alloc (.cells (madeCells #[.int .i64 0] n) 3)).heap.size = w.heap.size + 1 := by simp
  have h0 : NumsIn (w.alloc (.cells (madeCells #[.int .i64 0] n) 3)) (w.alloc (.cells (madeCells #[.int .i64 0] n) 3)) T w.heap.size n F ts file fin 0 :=
    ⟨F, (h.but (F := F) (G := fun _ => False) (.alloc w _) (fun _ _ h => h)), .refl _ _, fun j hj => .inl hj, (World.rowIs_made w (.int .i64 0) n _).congr fun j _ => by rw [if_neg (by omega)]⟩
  have hswh := Lib.hid hsw
  have hTF := h.lies T h.head
  have hlies := h.lies
  clear hsw
  go_enter Try.func21, Try.ntmps21
  go_wp2
  go_loopw [13] (fun i wr => ∃ k : Nat, k ≤ n ∧ i = .int .i64 k ∧ NumsIn (w.alloc (.cells (madeCells #[.int .i64 0] n) 3)) wr T w.heap.size n F ts file fin k) (fun i _ => n - (intOf i).toNat)
  case atStart => exact ⟨0, Nat.zero_le _, rfl, h0⟩
  case round =>
    obtain ⟨k, hk, rfl, hN⟩ := hrel
    obtain ⟨wo, rfl⟩ : ∃ wo : World, wo = wr := ⟨_, rfl⟩
    by_cases hlt : k < n
    · obtain ⟨Fr, hT, hbut, hFr, hrow⟩ := hN
      obtain ⟨b, o, t, rfl, hb, ht, hc0⟩ := hA.at_ (k := k) hlt
      have htl : t.length ≤ maxLen := hl t (List.mem_of_getElem? ht)
      have hc : wo.cell? ⟨b, o + k, none⟩ = some (.string (str t)) := by
        rw [World.cell?_of_block (w := w.alloc (.cells (madeCells #[.int .i64 0] n) 3)) (hbut.block b (by rw [hswh.out]; omega) (fun h => h.elim (fun h => by have := (hlies _ h).1; omega) (fun h => by omega))), World.cell?_alloc_lt _ _ _ (by show b < _; omega)]
        exact hc0
      have hfew : (withAll ts (file.take k)).length < 1000000 := by
        have := withAll_len (file.take k) ts
        have := List.length_take_le k file
        omega
      clear hc0
      go_wp2_with (go_at_call 12; refine (Id_tab Fr T _ t _ hT htl hfew).mono ?_; rintro e w' ⟨rfl, haf⟩; have hst := nums_step ht (by rw [hswh.out]; omega) hbF hT hbut hFr hrow haf hfin; have hck : w'.cell? ⟨w.heap.size, k, none⟩ = some (.int .i64 0) := (by rw [hst.1.cell (i := k) hlt]; simp); have hfk := hst.1.frozen k; have hN' := Lib.hid hst.2; clear hst)
      go_roundw
      case rel => exact ⟨k + 1, by omega, by go_num, hN'.out⟩
      case measure => simp [intOf]; omega
    · obtain rfl : k = n := by omega
      go_wp2
      go_ret
      exact nums_out _ hlen hbF hN
end Go.Proofs.Ytaniikdnlebknaa
