/- FunFolds told plainly: sums in any order, the least and the greatest, the average between them. No program; no condition. -/
/- Steps of FunFolds' walk. No condition. -/
import Derived.Test.YtngkolcpbgibcaaGreatDoorPc0
import Derived.Test.YtngkolcpbgibcaaGreatDoorCh2
set_option linter.unusedVariables false
set_option linter.unusedSimpArgs false
namespace Go.Proofs.YtngkolcpbgibcaaGreatDoor
def zs (l : List Int) : List DP := l.map fun z => (z, 0)
def zv (l : List Int) : List VX := l.map fun z => .num z 0
def zp (l : List Int) : Prop := ∀ z ∈ l, -2147483648 ≤ z ∧ z ≤ 2147483647
theorem gd_z {z : Int} (h0 : -1000000000000000 ≤ z) (h1 : z ≤ 1000000000000000) : Gd z 0 := ⟨by omega, by omega, by omega, .inl rfl⟩
theorem ns_z : ∀ l : List Int, nsX (zv l) = .ok (zs l)
  | [] => rfl
  | z :: l => by
    have h := ns_z l; simp only [zv, zs, List.map_cons] at h ⊢; simp only [nsX, numX, h]
theorem zs_len (l : List Int) : (zs l).length = l.length := List.length_map ..
theorem zs_at {l : List Int} {k : Nat} (hk : k < l.length) : (zs l)[k]? = some (l[k], 0) := by
  unfold zs; rw [List.getElem?_map, List.getElem?_eq_getElem hk]; rfl
def tot : List Int → Int
  | [] => 0
  | z :: l => z + tot l
theorem tot_app : ∀ a b : List Int, tot (a ++ b) = tot a + tot b
  | [], b => by simp [tot]
  | z :: a, b => by
    rw [List.cons_append, tot, tot, tot_app a b]; omega
theorem tot_rev : ∀ l : List Int, tot l.reverse = tot l
  | [] => rfl
  | z :: l => by
    rw [List.reverse_cons, tot_app, tot_rev l]; simp only [tot]; omega
theorem tot_take {l : List Int} {k : Nat} (hk : k < l.length) : tot (l.take (k + 1)) = tot (l.take k) + l[k] := by
  rw [List.take_add_one, List.getElem?_eq_getElem hk, tot_app]; simp [tot]
theorem tot_ge {a : Int} : ∀ l : List Int, (∀ y ∈ l, a ≤ y) → (l.length : Int) * a ≤ tot l
  | [], _ => by simp [tot]
  | z :: l, h => by
    have h1 := tot_ge l fun y hy => h y (List.mem_cons_of_mem _ hy); have h2 := h z (List.mem_cons_self ..); rw [List.length_cons, Int.natCast_add, Int.add_mul, tot]; simp only [Int.natCast_one, Int.one_mul]; omega
theorem tot_le {a : Int} : ∀ l : List Int, (∀ y ∈ l, y ≤ a) → tot l ≤ (l.length : Int) * a
  | [], _ => by simp [tot]
  | z :: l, h => by
    have h1 := tot_le l fun y hy => h y (List.mem_cons_of_mem _ hy); have h2 := h z (List.mem_cons_self ..); rw [List.length_cons, Int.natCast_add, Int.add_mul, tot]; simp only [Int.natCast_one, Int.one_mul]; omega
theorem tot_bd {l : List Int} (h : zp l) (hl : l.length ≤ 28) : -1000000000000 ≤ tot l ∧ tot l ≤ 1000000000000 := by
  have h1 := tot_ge (a := -2147483648) l fun y hy => (h y hy).1; have h2 := tot_le (a := 2147483647) l fun y hy => (h y hy).2; omega
theorem zp_take {l : List Int} (h : zp l) (k : Nat) : zp (l.take k) := fun z hz => h z (List.mem_of_mem_take hz)
theorem zp_rev {l : List Int} (h : zp l) : zp l.reverse := fun z hz => h z (List.mem_reverse.1 hz)
theorem sm_z {l : List Int} (h : zp l) (hl : l.length ≤ 28) : ∀ k, k ≤ l.length → smK (zs l) k = ⟨tot (l.take k), 0, 0⟩
  | 0, _ => rfl
  | k + 1, hk => by
    have ih := sm_z h hl k (by omega); have hb := tot_bd (zp_take h (k + 1)) (by rw [List.length_take]; omega); rw [smK_next (by rw [ih]) (zs_at (by omega)), ih, tot_take (by omega)]; rw [tot_take (by omega)] at hb
    show tl (val (tot (l.take k)) 0 + val l[k] 0) 9 = _
    rw [show val (tot (l.take k)) 0 + val l[k] 0 = val (tot (l.take k) + l[k]) 0 by unfold val; rw [← Int.add_mul], tl_val (gd_z (by omega) (by omega))]
theorem sum_z {l : List Int} (h : zp l) (hl : l.length ≤ 28) : sumN 0 (nsX (zv l)) = .num (tot l) 0 := by
  have := sm_z h hl l.length (Nat.le_refl _); rw [List.take_length] at this; rw [ns_z]; unfold sumN sumX; dsimp only; rw [zs_len, this, if_pos rfl, if_neg (by decide)]
theorem cnt_z (l : List Int) : cntX (zv l) = .num l.length 0 := by
  unfold cntX zv; have e : l.filter (isNB ∘ fun z => VX.num z 0) = l := List.filter_eq_self.2 fun z _ => rfl; rw [List.filter_map, List.length_map, e]
theorem pick_z (l : List Int) : pickL [1] (l.map fun z => (false, [.num z 0])) = zv l := by
  induction l with
  | nil => rfl
  | cons z l ih =>
    show pickA [1] (false, [.num z 0]) ++ pickL [1] (l.map fun z => (false, [.num z 0])) = .num z 0 :: zv l
    rw [ih]; rfl
theorem ex_z {way : Int} (hw : way = -1 ∨ way = 1) {l : List Int} : ∀ k, k < l.length → ∃ z, z ∈ l ∧ exK way (zs l) (k + 1) = (z, 0) ∧ ∀ y ∈ l.take (k + 1), (way = -1 → z ≤ y) ∧ (way = 1 → y ≤ z)
  | 0, hk => by
    refine ⟨l[0], List.getElem_mem .., ?_, fun y hy => ?_⟩
    · rw [exK_next (zs_at hk), if_pos (.inl rfl)]
    · rw [List.take_add_one, List.getElem?_eq_getElem hk] at hy; simp at hy; subst hy; exact ⟨fun _ => Int.le_refl _, fun _ => Int.le_refl _⟩
  | k + 1, hk => by
    obtain ⟨z, hz, he, hy⟩ := ex_z hw (l := l) k (by omega); rw [exK_next (zs_at hk), he]; dsimp only; rw [val_whole, val_whole]
    have hmem : ∀ y ∈ l.take (k + 1 + 1), y ∈ l.take (k + 1) ∨ y = l[k + 1] := fun y hy => by
      rw [List.take_add_one, List.getElem?_eq_getElem hk] at hy
      rcases List.mem_append.1 hy with h | h
      · exact .inl h
      · simp at h; exact .inr h
    by_cases hc : k + 1 = 0 ∨ cmp (l[k + 1] * 1000000000) (z * 1000000000) = way
    · rw [if_pos hc]; refine ⟨l[k + 1], List.getElem_mem .., rfl, fun y hy' => ?_⟩; have hc2 := hc.resolve_left (by omega); unfold cmp at hc2
      rcases hmem y hy' with h | rfl
      · obtain ⟨h1, h2⟩ := hy y h
        rcases hw with rfl | rfl
        · refine ⟨fun _ => ?_, fun h => by omega⟩; have := h1 rfl
          split at hc2
          · omega
          · split at hc2 <;> omega
        · refine ⟨fun h => by omega, fun _ => ?_⟩; have := h2 rfl
          split at hc2
          · omega
          · split at hc2
            · omega
            · omega
      · exact ⟨fun _ => Int.le_refl _, fun _ => Int.le_refl _⟩
    · rw [if_neg hc]; refine ⟨z, hz, rfl, fun y hy' => ?_⟩
      rcases hmem y hy' with h | rfl
      · exact hy y h
      · have hc2 : ¬ cmp (l[k + 1] * 1000000000) (z * 1000000000) = way := fun h => hc (.inr h); unfold cmp at hc2
        rcases hw with rfl | rfl
        · refine ⟨fun _ => ?_, fun h => by omega⟩
          split at hc2
          · omega
          · omega
        · refine ⟨fun h => by omega, fun _ => ?_⟩
          split at hc2
          · omega
          · split at hc2
            · omega
            · omega
theorem min_z {l : List Int} {a : Int} (h0 : 0 < l.length) (ha : a ∈ l) (hm : ∀ y ∈ l, a ≤ y) : exN (-1) (nsX (zv l)) = .num a 0 := by
  obtain ⟨z, hz, he, hy⟩ := ex_z (.inl rfl : (-1 : Int) = -1 ∨ (-1 : Int) = 1) (l := l) (l.length - 1) (by omega); rw [show l.length - 1 + 1 = l.length by omega] at he hy; rw [List.take_length] at hy; have h1 := hm z hz; have h2 := (hy a ha).1 rfl; rw [ns_z]; unfold exN; dsimp only; rw [zs_len, he]; rw [show z = a by omega]
theorem max_z {l : List Int} {a : Int} (h0 : 0 < l.length) (ha : a ∈ l) (hm : ∀ y ∈ l, y ≤ a) : exN 1 (nsX (zv l)) = .num a 0 := by
  obtain ⟨z, hz, he, hy⟩ := ex_z (.inr rfl : (1 : Int) = -1 ∨ (1 : Int) = 1) (l := l) (l.length - 1) (by omega); rw [show l.length - 1 + 1 = l.length by omega] at he hy; rw [List.take_length] at hy; have h1 := hm z hz; have h2 := (hy a ha).2 rfl; rw [ns_z]; unfold exN; dsimp only; rw [zs_len, he]; rw [show z = a by omega]
theorem quo_hi {A n B : Nat} (hn : 0 < n) (h : A ≤ n * B) : quo A n ≤ B := by
  unfold quo; have h1 := Nat.div_add_mod A n; have h2 := Nat.mod_lt A hn
  rcases Nat.lt_or_ge (A / n) B with h3 | h3
  · split <;> omega
  · have h4 : n * B ≤ n * (A / n) := Nat.mul_le_mul_left n h3
    have h5 : A / n ≤ B := by
      have := Nat.div_le_of_le_mul h; exact this
    rw [if_neg (by omega)]; omega
theorem quo_lo {A n B : Nat} (hn : 0 < n) (h : n * B ≤ A) : B ≤ quo A n := by
  unfold quo; have : B ≤ A / n := (Nat.le_div_iff_mul_le hn).2 (by rw [Nat.mul_comm]; exact h); omega
theorem avg_q {S : Int} {n : Nat} {a b : Int} (hn : 0 < n) (ha : (n : Int) * a ≤ S) (hb : S ≤ (n : Int) * b) : a * 1000000000 ≤ sgn (decide (S < 0)) (quo (S.natAbs * 1000000000) n) ∧ sgn (decide (S < 0)) (quo (S.natAbs * 1000000000) n) ≤ b * 1000000000 := by
  have mulc : ∀ s n B : Nat, s ≤ n * B → s * 1000000000 ≤ n * (B * 1000000000) := fun s n B h => by
    rw [← Nat.mul_assoc]; exact Nat.mul_le_mul_right _ h
  have mulc2 : ∀ s n B : Nat, n * B ≤ s → n * (B * 1000000000) ≤ s * 1000000000 := fun s n B h => by
    rw [← Nat.mul_assoc]; exact Nat.mul_le_mul_right _ h
  have pos : ∀ {x : Int}, 0 ≤ (n : Int) * x → 0 ≤ x := fun {x} h => by
    rcases Int.lt_or_le x 0 with h1 | h1
    · have := Int.mul_neg_of_pos_of_neg (show (0 : Int) < n by omega) h1; omega
    · exact h1
  have neg : ∀ {x : Int}, (n : Int) * x < 0 → x < 0 := fun {x} h => by
    rcases Int.lt_or_le x 0 with h1 | h1
    · exact h1
    · have := Int.mul_nonneg (show (0 : Int) ≤ n by omega) h1; omega
  by_cases hS : S < 0
  · obtain ⟨s, rfl⟩ : ∃ s : Nat, S = -(s : Int) := ⟨S.natAbs, by omega⟩
    rw [decide_eq_true hS, show (-(s : Int)).natAbs = s by omega]; have ha0 : a < 0 := neg (by omega); obtain ⟨x, rfl⟩ : ∃ x : Nat, a = -(x : Int) := ⟨a.natAbs, by omega⟩
    have h1 : s ≤ n * x := by
      rw [Int.mul_neg] at ha; have : ((n * x : Nat) : Int) = (n : Int) * x := Int.natCast_mul n x; omega
    have h2 := quo_hi hn (mulc s n x h1); unfold sgn; rw [if_pos rfl]; refine ⟨by omega, ?_⟩
    by_cases hb0 : b < 0
    · obtain ⟨y, rfl⟩ : ∃ y : Nat, b = -(y : Int) := ⟨b.natAbs, by omega⟩
      have h3 : n * y ≤ s := by
        rw [Int.mul_neg] at hb; have : ((n * y : Nat) : Int) = (n : Int) * y := Int.natCast_mul n y; omega
      have h4 := quo_lo hn (mulc2 s n y h3); omega
    · omega
  · obtain ⟨s, rfl⟩ : ∃ s : Nat, S = (s : Int) := ⟨S.natAbs, by omega⟩
    rw [decide_eq_false hS, show (s : Int).natAbs = s by omega]; have hb0 : 0 ≤ b := pos (by omega); obtain ⟨y, rfl⟩ : ∃ y : Nat, b = (y : Int) := ⟨b.natAbs, by omega⟩
    have h1 : s ≤ n * y := by
      have : ((n * y : Nat) : Int) = (n : Int) * y := Int.natCast_mul n y; omega
    have h2 := quo_hi hn (mulc s n y h1); unfold sgn; rw [if_neg (by decide)]; refine ⟨?_, by omega⟩
    by_cases ha0 : 0 ≤ a
    · obtain ⟨x, rfl⟩ : ∃ x : Nat, a = (x : Int) := ⟨a.natAbs, by omega⟩
      have h3 : n * x ≤ s := by
        have : ((n * x : Nat) : Int) = (n : Int) * x := Int.natCast_mul n x; omega
      have h4 := quo_lo hn (mulc2 s n x h3); omega
    · omega
theorem avg_z {l : List Int} (h : zp l) (h0 : 0 < l.length) (hl : l.length ≤ 28) {a b : Int} (ha : ∀ y ∈ l, a ≤ y) (hb : ∀ y ∈ l, y ≤ b) (a0 : a ∈ l) (b0 : b ∈ l) : ∃ m s, sumN 4 (nsX (zv l)) = .num m s ∧ Gd m s ∧ a * 1000000000 ≤ val m s ∧ val m s ≤ b * 1000000000 := by
  have hs := sm_z h hl l.length (Nat.le_refl _); rw [List.take_length] at hs; obtain ⟨q1, q2⟩ := avg_q (S := tot l) (n := l.length) h0 (tot_ge l ha) (tot_le l hb); have ha1 := h a a0; have hb1 := h b b0
  have e : divX (tot l) 0 l.length 0 = tl (sgn (decide (tot l < 0)) (quo ((tot l).natAbs * 1000000000) l.length)) 9 := by
    unfold divX; rw [if_neg (by omega)]; unfold divD; rw [show decide ((l.length : Int) < 0) = false from decide_eq_false (by omega), show ((l.length : Nat) : Int).natAbs = l.length by omega]; simp
  generalize sgn (decide (tot l < 0)) (quo ((tot l).natAbs * 1000000000) l.length) = Q at q1 q2 e; have he : (tl Q 9).e = 0 := tl_small (by omega); obtain ⟨g1, g2⟩ := tl_ok (by omega) he; refine ⟨(tl Q 9).m, (tl Q 9).s, ?_, g1, ?_, ?_⟩
  · rw [ns_z]; unfold sumN sumX; dsimp only; rw [zs_len, hs, if_pos rfl, if_pos rfl]; dsimp only; rw [e]; unfold reckX; rw [if_pos he]
  · rw [g2]
    simpa using q1
  · rw [g2]
    simpa using q2
end Go.Proofs.YtngkolcpbgibcaaGreatDoor
namespace Go.Proofs.YtngkolcpbgibcaaGreatDoor
open Go.RowKit Go.Lib
section
variable {o : Oper} {a : Act} {w W : World} {K : Act → World → Prop} {Q : Exit → Act → World → Prop} {u : Value}
theorem ld32 (x : Operand) {q : Addr} (ho : o.op = .load 21 x) (hx : a.eval x = .pointer (some q)) (c : W.cell? q = some u) (h : K (a.put o.dst u) W) : o.wp Tryz.prog a W K Q := by
  unfold Oper.wp execOp; rw [ho]; simp only [hx]; clear ho hx; go_simp; exact h
theorem run_ld32 {p : Nat} {q : Addr} (ho : o.op = .load 21 (.tmp p)) (hx : a.tmps.getD p undef = .pointer (some q)) (c : W.cell? q = some u) : (execOp a.eval o).run Tryz.prog W = .ok (.value u) W := by
  have h : a.eval (.tmp p) = .pointer (some q) := hx; unfold execOp; rw [ho]; simp only [h]; clear ho hx h; go_simp
end
theorem run_lds {o : Oper} {a : Act} {W : World} {u : Value} {p : Nat} {q : Addr} (ho : o.op = .load 53 (.tmp p)) (hx : a.tmps.getD p undef = .pointer (some q)) (c : W.cell? q = some u) : (execOp a.eval o).run Tryz.prog W = .ok (.value u) W := by
  have h : a.eval (.tmp p) = .pointer (some q) := hx; unfold execOp; rw [ho]; simp only [h]; clear ho hx h; go_simp
theorem rd_one {W : World} {A : Option Addr} {x : VX} (h : RowF valF W (· < W.heap.size) A 1 [x]) : Rd W W.heap.size 6 A 1 (vc x) := by
  obtain ⟨a, rfl, hb, hc⟩ := vals_at h (i := 0) (x := x) rfl; refine ⟨vc_len _, fun _ => ⟨a, rfl, hb, fun j u hu => ?_⟩⟩; have := hc j u hu
  rwa [show a.add (0 * 6) = a by unfold Addr.add; split <;> simp_all] at this
theorem zv_flat {l : List Int} {k : Nat} {z : Int} (h : l[k]? = some z) : (zv (l.take (k + 1))).flatMap vc = (zv (l.take k)).flatMap vc ++ vc (.num z 0) := by
  unfold zv; rw [List.take_add_one, h]; simp
end Go.Proofs.YtngkolcpbgibcaaGreatDoor
