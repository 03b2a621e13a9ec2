/- Things told once, in the order in which they come first, and where each stands: plain lists. No condition; no model's run. -/
/- What is wrong with texts, plainly; things told once that stand once. No condition; no model's run. -/
/- Rows of texts in memory; sst.checkTexts by its contract. Conditions: the texts read as such; none is too long; utf8.ValidString keeps its contract. -/
import Derived.WalkKit
import Derived.Test.YtllcecnkbndokaaGreatDoorStr0
import Derived.Test.YtllcecnkbndokaaGreatDoorUnits
namespace Go.Proofs.YtllcecnkbndokaaGreatDoor

section
variable {α : Type} [BEq α] [LawfulBEq α]
/-- With what comes behind it, each once. -/
def ddGo (T : List α) (l : List α) : List α := l.foldl (fun T s => if s ∈ T then T else T ++ [s]) T
def ddT (l : List α) : List α := ddGo [] l
/-- Where each stands. -/
def atT (l : List α) : List Nat := l.map fun s => (ddT l).idxOf s

theorem ddGo_cons (T : List α) (s : α) (l : List α) : ddGo T (s :: l) = ddGo (if s ∈ T then T else T ++ [s]) l := rfl
theorem ddGo_app (T l m : List α) : ddGo T (l ++ m) = ddGo (ddGo T l) m := by unfold ddGo; rw [List.foldl_append]
theorem dd_snoc (l : List α) (s : α) : ddT (l ++ [s]) = if s ∈ ddT l then ddT l else ddT l ++ [s] := by
  unfold ddT
  rw [ddGo_app, ddGo_cons]
  rfl
/-- What stands there stays. -/
theorem ddGo_ext : ∀ (l T : List α), ∃ m, ddGo T l = T ++ m
  | [], T => ⟨[], by simp [ddGo]⟩
  | s :: l, T => by
    rw [ddGo_cons]
    obtain ⟨m, hm⟩ := ddGo_ext l (if s ∈ T then T else T ++ [s])
    rw [hm]
    split
    · exact ⟨m, rfl⟩
    · exact ⟨[s] ++ m, by simp⟩
theorem mem_ddGo : ∀ (l T : List α) (x : α), x ∈ ddGo T l ↔ x ∈ T ∨ x ∈ l
  | [], T, x => by simp [ddGo]
  | s :: l, T, x => by
    rw [ddGo_cons, mem_ddGo l]
    split
    · rename_i h
      constructor
      · rintro (h1 | h1)
        · exact .inl h1
        · exact .inr (List.mem_cons_of_mem _ h1)
      · rintro (h1 | h1)
        · exact .inl h1
        · rcases List.mem_cons.1 h1 with rfl | h1
          · exact .inl h
          · exact .inr h1
    · simp [or_assoc]
theorem mem_dd (l : List α) (x : α) : x ∈ ddT l ↔ x ∈ l := by unfold ddT; rw [mem_ddGo]; simp
theorem nodup_ddGo : ∀ (l T : List α), T.Nodup → (ddGo T l).Nodup
  | [], _, h => h
  | s :: l, T, h => by
    rw [ddGo_cons]
    refine nodup_ddGo l _ ?_
    split
    · exact h
    · rename_i hn
      rw [List.nodup_append]
      refine ⟨h, by simp, fun a ha b hb => ?_⟩
      simp at hb
      rintro rfl
      exact hn (hb ▸ ha)
theorem nodup_dd (l : List α) : (ddT l).Nodup := nodup_ddGo l [] .nil
theorem dd_len (l : List α) : (ddT l).length ≤ l.length := by
  suffices ∀ (l T : List α), (ddGo T l).length ≤ T.length + l.length by simpa [ddT] using this l []
  intro l
  induction l with
  | nil => intro T; simp [ddGo]
  | cons s l ih =>
    intro T
    rw [ddGo_cons]
    by_cases h : s ∈ T
    · rw [if_pos h]
      have := ih T
      simp only [List.length_cons]
      omega
    · rw [if_neg h]
      have := ih (T ++ [s])
      rw [List.length_append, List.length_singleton] at this
      simp only [List.length_cons]
      omega
theorem len_of_sub : ∀ (a b : List α), a.Nodup → (∀ x ∈ a, x ∈ b) → a.length ≤ b.length
  | [], _, _, _ => Nat.zero_le _
  | x :: a, b, hn, hs => by
    rw [List.nodup_cons] at hn
    have hx := hs x (by simp)
    have := len_of_sub a (b.erase x) hn.2 fun y hy => (List.mem_erase_of_ne (by rintro rfl; exact hn.1 hy)).2 (hs y (List.mem_cons_of_mem _ hy))
    rw [List.length_erase_of_mem hx] at this
    have := List.length_pos_of_mem hx
    simp only [List.length_cons]
    omega
theorem idxOf_ext {T : List α} (m : List α) {x : α} (h : x ∈ T) : (T ++ m).idxOf x = T.idxOf x := by
  rw [List.idxOf_append, if_pos h]
theorem dd_ext (l m : List α) : ∃ r, ddT (l ++ m) = ddT l ++ r := by
  unfold ddT
  rw [ddGo_app]
  exact ddGo_ext m _
/-- Where a thing stands is told when it comes first. -/
theorem idx_ext (l m : List α) {x : α} (h : x ∈ l) : (ddT (l ++ m)).idxOf x = (ddT l).idxOf x := by
  obtain ⟨r, hr⟩ := dd_ext l m
  rw [hr, idxOf_ext r ((mem_dd l x).2 h)]
theorem atT_snoc (l : List α) (s : α) : atT (l ++ [s]) = atT l ++ [(ddT (l ++ [s])).idxOf s] := by
  unfold atT
  rw [List.map_append]
  congr 1
  exact List.map_congr_left fun x hx => idx_ext l [s] hx
theorem atT_len (l : List α) : (atT l).length = l.length := by simp [atT]
theorem atT_at (l : List α) (i : Nat) (h : i < l.length) : (atT l)[i]? = some ((ddT l).idxOf l[i]) ∧ (ddT l)[(ddT l).idxOf l[i]]? = some l[i] := by
  have hm : l[i] ∈ ddT l := (mem_dd l _).2 (List.getElem_mem h)
  refine ⟨by simp [atT, h], ?_⟩
  have h1 := List.idxOf_lt_length_of_mem hm
  rw [List.getElem?_eq_getElem h1, List.getElem_idxOf h1]
/-- Told twice over it is the same. -/
theorem ddGo_same : ∀ (l T : List α), (∀ x ∈ l, x ∈ T) → ddGo T l = T
  | [], _, _ => rfl
  | s :: l, T, h => by
    rw [ddGo_cons, if_pos (h s (by simp))]
    exact ddGo_same l T fun x hx => h x (List.mem_cons_of_mem _ hx)
theorem dd_twice (l : List α) : ddT (l ++ l) = ddT l := by
  unfold ddT
  rw [ddGo_app]
  exact ddGo_same l _ fun x hx => (mem_dd l x).2 hx
theorem at_twice (l : List α) : atT (l ++ l) = atT l ++ atT l := by unfold atT; rw [dd_twice, List.map_append]
/-- In the other order there are as many. -/
theorem dd_rev (l : List α) : (ddT l.reverse).length = (ddT l).length := by
  apply Nat.le_antisymm
  · exact len_of_sub _ _ (nodup_dd _) fun x hx => (mem_dd l x).2 (by simpa using (mem_dd l.reverse x).1 hx)
  · exact len_of_sub _ _ (nodup_dd _) fun x hx => (mem_dd l.reverse x).2 (by simpa using (mem_dd l x).1 hx)
end
end Go.Proofs.YtllcecnkbndokaaGreatDoor
namespace Go.Proofs.YtllcecnkbndokaaGreatDoor
open Go.Lib

/-- What is wrong with the first text that is. -/
def ckT : List (List UInt8) → Int
  | [] => 0
  | l :: ls => if uE l = 0 then ckT ls else uE l
theorem ckT_drop {L : List (List UInt8)} {i : Nat} {l : List UInt8} (h : L[i]? = some l) : ckT (L.drop i) = if uE l = 0 then ckT (L.drop (i + 1)) else uE l := by
  have hi := (List.getElem?_eq_some_iff.1 h).1
  rw [List.drop_eq_getElem_cons hi, (List.getElem?_eq_some_iff.1 h).2]
  rfl
theorem ckT_zero : ∀ (L : List (List UInt8)), ckT L = 0 ↔ ∀ l ∈ L, uE l = 0
  | [] => by simp [ckT]
  | l :: L => by
    rw [ckT]
    by_cases h : uE l = 0
    · rw [if_pos h, ckT_zero L]
      constructor
      · intro h1 x hx
        rcases List.mem_cons.1 hx with rfl | hx
        · exact h
        · exact h1 x hx
      · exact fun h1 x hx => h1 x (List.mem_cons_of_mem _ hx)
    · rw [if_neg h]
      constructor
      · exact fun h1 => absurd h1 h
      · exact fun h1 => absurd (h1 l (by simp)) h
theorem ckT_cases : ∀ (L : List (List UInt8)), ckT L = 0 ∨ ckT L = 2 ∨ ckT L = 4
  | [] => .inl rfl
  | l :: L => by
    rw [ckT]
    split
    · exact ckT_cases L
    · exact uE_cases l
theorem dd_all {α : Type} [BEq α] [LawfulBEq α] {L : List α} (h : ¬ (ddT L).length < L.length) : ddT L = L := by
  suffices ∀ (l T : List α), T.length + l.length ≤ (ddGo T l).length → ddGo T l = T ++ l by
    have := this L [] (by simpa [ddT] using (by omega : L.length ≤ (ddT L).length))
    simpa [ddT] using this
  intro l
  induction l with
  | nil => intro T _; simp [ddGo]
  | cons s l ih =>
    intro T hT
    rw [ddGo_cons] at hT ⊢
    by_cases hm : s ∈ T
    · rw [if_pos hm] at hT
      exfalso
      have : (ddGo T l).length ≤ T.length + l.length := by
        clear hT ih hm
        induction l generalizing T with
        | nil => simp [ddGo]
        | cons x l ih =>
          rw [ddGo_cons]
          split
          · have := ih T; simp only [List.length_cons]; omega
          · have := ih (T ++ [x]); rw [List.length_append, List.length_singleton] at this; simp only [List.length_cons]; omega
      simp only [List.length_cons] at hT
      omega
    · rw [if_neg hm] at hT ⊢
      rw [ih (T ++ [s]) (by rw [List.length_append, List.length_singleton]; simp only [List.length_cons] at hT; omega), List.append_assoc]
      rfl
end Go.Proofs.YtllcecnkbndokaaGreatDoor
namespace Go.Proofs.YtllcecnkbndokaaGreatDoor
open Go.RowKit Go.Lib

/-- A text as a value. -/
def tv (l : List UInt8) : Value := .string ⟨l.toArray⟩
theorem tv_str (s : ByteArray) : tv s.data.toList = .string s := by cases s; rfl
theorem back_str (s : ByteArray) : (⟨s.data.toList.toArray⟩ : ByteArray) = s := by cases s; simp

theorem Rd.tlen {w : World} {B n : Nat} {A : Option Addr} {L : List (List UInt8)} (h : Rd w B 1 A n (L.map tv)) : L.length = n := by have := h.len; simp at this; exact this
theorem Rd.strAt {w : World} {B n i : Nat} {A : Option Addr} {L : List (List UInt8)} (h : Rd w B 1 A n (L.map tv)) (hi : i < n) : ∃ (a : Addr) (s : ByteArray), A = some a ∧ a.block < B ∧ L[i]? = some s.data.toList ∧ w.cell? (a.add i) = some (.string s) := by
  obtain ⟨a, u, ha, hb, hu, hc⟩ := h.cell hi
  have hl : i < L.length := by have := h.tlen; omega
  rw [List.getElem?_map, List.getElem?_eq_getElem hl] at hu
  exact ⟨a, ⟨L[i].toArray⟩, ha, hb, List.getElem?_eq_getElem hl, by rw [hc]; simpa [tv] using hu.symm⟩
theorem cell_keep {w1 w2 : World} {p : Addr} {u : Value} {i : Nat} (hc : w1.cell? (p.add i) = some u) (hb : Below w1.heap.size w1 w2) (hp : p.block < w1.heap.size) : w2.cell? (p.add i) = some u := by
  rw [hb.cell (by rw [add_block]; exact hp)]
  exact hc

set_option maxHeartbeats 4000000 in
set_option maxRecDepth 100000 in
theorem checkTexts_any {w : World} {B n c : Nat} {A : Option Addr} {L : List (List UInt8)} (HV : Val w) (h : Rd w B 1 A n (L.map tv)) (hB : B ≤ w.heap.size) (hn : n ≤ 1000000) (hs : ∀ l ∈ L, l.length ≤ 100000) :
    Calls Tryz.prog 30 #[.slice A n c] w fun e w' => e = .returned (.int .i64 (ckT L)) ∧ Below w.heap.size w w' := by
  obtain ⟨E, hE⟩ : ∃ E, ckT L = E := ⟨_, rfl⟩
  have H0 := Lib.hid hE
  rw [hE]
  clear hE
  have HVV := Lib.hid HV
  clear HV
  have hl := h.tlen
  go_enter Tryz.func30, Tryz.ntmps30
  go_wp2
  go_loopw [9] (fun i wr => ∃ k : Nat, k ≤ n ∧ i = .int .i64 k ∧ Below w.heap.size w wr ∧ Hid (ckT (L.drop k) = E)) (fun i _ => n - (Go.RowKit.intOf i).toNat)
  case atStart => exact ⟨0, Nat.zero_le _, rfl, Below.refl _ _, Lib.hid (by rw [List.drop_zero, H0.out])⟩
  case round =>
    obtain ⟨k, hk, rfl, hbel, HE⟩ := hrel
    have hsz := hbel.size
    by_cases hkn : k < n
    · have hkn' : (k : Int) < (n : Int) := by omega
      obtain ⟨a, s, rfl, hab, hsi, hcell⟩ := (h.belowMono hbel hB).strAt hkn
      have hst := ckT_drop hsi
      have hss : s.size ≤ 100000 := by have := hs _ (List.mem_of_getElem? hsi); simpa using this
      have hU := fun (W : World) (hb : Below w.heap.size w W) => units_any (HVV.out.below hb) s (by omega)
      clear hsi hs H0 h hss
      by_cases h0 : uE s.data.toList = 0
      · rw [h0] at hU
        have HU := Lib.hid hU
        have HE2 : Hid (ckT (L.drop (k + 1)) = E) := Lib.hid (by rw [← HE.out, hst, if_pos h0])
        clear hU hst h0 HE
        generalize uV s.data.toList = V at *
        go_wp2_with fail
        refine (HU.out wr hbel).mono ?_
        rintro e w2 ⟨rfl, hb2⟩
        have hbel2 := hbel.trans (hb2.mono hbel.size)
        clear HU hcell hb2
        go_wp2
        go_roundw
        case rel => exact ⟨k + 1, by omega, by go_num, hbel2, HE2⟩
        case measure => simp [Go.RowKit.intOf]; omega
      · have he : uE s.data.toList = E := by rw [← HE.out, hst, if_neg h0]
        rw [he] at hU h0
        have HU := Lib.hid hU
        have hb : (E != 0) = true := by simpa using h0
        clear hU hst h0 HE he
        generalize uV s.data.toList = V at *
        go_wp2_with fail
        refine (HU.out wr hbel).mono ?_
        rintro e w2 ⟨rfl, hb2⟩
        have hbel2 := hbel.trans (hb2.mono hbel.size)
        clear HU hcell hb2
        go_wp2
        go_ret
        exact ⟨rfl, hbel2⟩
    · obtain rfl : k = n := by omega
      have he : E = 0 := by
        rw [← HE.out, List.drop_eq_nil_of_le (by omega)]
        rfl
      subst he
      clear HE H0 hs h
      go_wp2
      go_ret
      exact ⟨rfl, hbel⟩
end Go.Proofs.YtllcecnkbndokaaGreatDoor
