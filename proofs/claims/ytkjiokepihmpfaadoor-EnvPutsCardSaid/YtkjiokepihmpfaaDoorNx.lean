/- expr's stack: next, by its contract. Condition: the stack reads as rows of formulas. -/
import Derived.Test.YtkjiokepihmpfaaDoorSk
set_option linter.unusedVariables false
set_option linter.unusedSimpArgs false
namespace Go.Proofs.YtkjiokepihmpfaaDoor
open Go.RowKit

def zp : Pay := ⟨0, 0, 0, 0, ⟨#[]⟩, false, 0, 0, 0, false, false, 0, 0, false, false, 0, 0⟩
def lenOf : Value → Nat
  | .slice _ n _ => n
  | _ => 0

section
variable {o : Oper} {a : Act} {W : World} {K : Act → World → Prop} {Q : Exit → Act → World → Prop} {g : Nat}
theorem st_z (x y : Operand) {cs : List Value} (ho : o.op = .store 83 x y) (hx : a.eval x = .pointer (some ⟨g, 0, none⟩)) (hy : a.eval y = .agg (ec zp (.slice none 0 0)).toArray)
    (hb : Bk W g 83 cs.toArray) (hl : cs.length = 18) (h : ∀ W', Bk W' g 83 (ec zp (.slice none 0 0)).toArray → Keep (fun i => i = g) W W' → W'.heap.size = W.heap.size → K (a.put o.dst undef) W') : o.wp Tryd.prog a W K Q :=
  st_p x y ho hx hy hb hl h
end

/-- What turns by a call on a stack. -/
def StT (g : Nat) (v : Value) (i : Nat) : Prop := i = g ∨ v.ownBlock = some i

/-- Behind a next. -/
def NxOk (w : World) (B base g : Nat) (v : Value) (K : List (List Tr)) (e : Ending) (W : World) : Prop :=
  Keep (StT g v) w W ∧ ∃ v', v'.ownBlock = v.ownBlock ∧
    ((popR K.reverse = none ∧ e = .returned (.tuple #[.agg (ec zp (.slice none 0 0)).toArray, .bool false]) ∧ Stk W B base g v' []) ∨
    ∃ p ks R A c, popR K.reverse = some (.mk p ks, R) ∧ e = .returned (.tuple #[.agg (ec p (.slice A ks.length c)).toArray, .bool true]) ∧ ks.length ≤ c ∧ RowF treeF W (· < B) A ks.length ks ∧ Stk W B base g v' R.reverse)

theorem rev_snoc {α : Type} {K : List α} {k : Nat} {x : α} (h : K[k]? = some x) : (K.take (k + 1)).reverse = x :: (K.take k).reverse := by
  rw [List.take_add_one, h]
  simp

theorem res_tup {fn : Func} {p q : Tmp} (h : fn.results = #[.cell p 83, .tmp q]) {tmps : Array Value} {w : World} {g : Nat} {cs : Array Value} {b : Value} (hp : tmps.getD p undef = .pointer (some ⟨g, 0, none⟩)) (hq : tmps.getD q undef = b) (hk : Bk w g 83 cs) (hs : cs.size = 18) :
    (results fn tmps).run Tryd.prog w = .ok (.tuple #[.agg cs, b]) w := by
  have hl := run_loadVar_row (P := Tryd.prog) w g 83 83 cs (0, 0) _ hk Tryd.underlying83 rfl (by rw [hs]; kernel_rfl)
  have hp' : tmps[p]?.getD undef = .pointer (some ⟨g, 0, none⟩) := by simpa using hp
  have hq' : tmps[q]?.getD undef = b := by simpa using hq
  simp [results, h, hp', hq', asAddr, hl]

/-- The stack behind a next that took one. -/
theorem nx_end {w wr W2 : World} {B base g s k n c c2 r : Nat} {A2 : Option Addr} {xs : List Value} {K : List (List Tr)} {t : Tr} {ts : List Tr} (hbel : Below r w wr) (hr0 : r = w.heap.size) (hbx : Bk wr g 130 #[.slice (some ⟨s, 0, none⟩) n c]) (ho : wr.ownsRow base 26 1 (.slice (some ⟨s, 0, none⟩) n c) n xs)
    (hh : Hdr wr B xs K) (hn : K.length = n) (hk : k < n) (hB : B ≤ base) (hs : base ≤ s) (hg : B ≤ g) (hsg : s ≠ g) (hgr : g < r) (hsr : s < r) (hx : K[k]? = some (t :: ts)) (hr : RowF treeF wr (· < B) A2 ts.length ts) (hc2 : ts.length ≤ c2)
    (hK : Keep (fun i => i = r) ((wr.setCell ⟨g, 0, none⟩ (.slice (some ⟨s, 0, none⟩) (k + 1) c)).setCell ⟨s, k, none⟩ (.slice A2 ts.length c2)) W2) :
    Below B wr W2 ∧ Keep (StT g (.slice (some ⟨s, 0, none⟩) n c)) w W2 ∧ Stk W2 B base g (.slice (some ⟨s, 0, none⟩) (k + 1) c) (ts :: (K.take k).reverse).reverse := by
  have k1 : Keep (fun i => i = g) wr (wr.setCell ⟨g, 0, none⟩ (.slice (some ⟨s, 0, none⟩) (k + 1) c)) := (Keep.refl (fun i => i = g) wr).setCell (p := ⟨g, 0, none⟩) (fun _ => rfl) _
  have k2 : Keep (fun i => i = s) (wr.setCell ⟨g, 0, none⟩ (.slice (some ⟨s, 0, none⟩) (k + 1) c)) ((wr.setCell ⟨g, 0, none⟩ (.slice (some ⟨s, 0, none⟩) (k + 1) c)).setCell ⟨s, k, none⟩ (.slice A2 ts.length c2)) := (Keep.refl (fun i => i = s) _).setCell (p := ⟨s, k, none⟩) (fun _ => rfl) _
  have b1 := hbx.set_ 0 (.slice (some ⟨s, 0, none⟩) (k + 1) c)
  have o1 := own_put (j := k) (u := .slice A2 ts.length c2) (own_cut (k1.own ho fun i hi e => hsg ((Option.some.inj (show some s = some i from hi)).trans e)) (m := k + 1) (by omega))
  have hbB : Below B wr W2 := (k1.below (B := B) (by have := hbel.size; omega) fun i hi e => by omega).trans ((k2.below (B := B) (by have := hbel.size; have := k1.size; omega) fun i hi e => by omega).trans (hK.below (B := B) (by have := hbel.size; have := k1.size; have := k2.size; omega) fun i hi e => by omega))
  have hl : xs.length = K.length := by rw [ho.1, hn]; omega
  have e : (ts :: (K.take k).reverse).reverse = (K.take (k + 1)).set k ts := by
    rw [List.take_add_one, hx, List.reverse_cons, List.reverse_reverse, List.set_append_right _ _ (by rw [List.length_take]; omega)]
    simp [Nat.min_eq_left (show k ≤ K.length by omega)]
  refine ⟨hbB, ?_, ⟨hK.bk (k2.bk b1 fun e => hsg e.symm) (by omega), (xs.take (k + 1)).set k (.slice A2 ts.length c2), ?_, ?_⟩⟩
  · exact (((Keep.of_below (S := StT g (.slice (some ⟨s, 0, none⟩) n c)) hbel fun i hi h => by omega).trans k1 fun i _ e => .inl e).trans k2 fun i _ e => .inr (by rw [e]; rfl)).trans hK fun i hi e => by omega
  · rw [e, show ((K.take (k + 1)).set k ts).length = k + 1 by simp; omega]
    exact hK.own o1 fun i hi e => by have := Option.some.inj (show some s = some i from hi); omega
  · rw [e]
    exact ((hh.take (k + 1)).below hbB (Nat.le_refl _)).set (by rw [List.length_take, List.length_take, hl]) hc2 (hr.below hbB (Nat.le_refl _))

set_option maxRecDepth 20000 in
set_option maxHeartbeats 1000000 in
theorem next_any {w : World} {B base g : Nat} {v : Value} {K : List (List Tr)} (h : Stk w B base g v K) (hB : B ≤ base) (hg : B ≤ g) :
    Calls Tryd.prog 71 #[.pointer (some ⟨g, 0, none⟩)] w fun e W => NxOk w B base g v K e W := by
  obtain ⟨xs, ho, hh⟩ := h.row
  have hne := h.ne
  have hgl := h.len
  have hbx := h.box
  clear h
  obtain ⟨S, c, rfl, hnc, hcm, hrd⟩ := own_form ho
  generalize hn : K.length = n at *
  obtain ⟨W0, hW0⟩ : ∃ W0, W0 = w.alloc (.cells #[.int .i64 0, .int .i64 0, .int .i64 0, .int .i64 0, .string ⟨#[]⟩, .bool false, .int .i64 0, .int .i64 0, .int .i64 0, .bool false, .bool false, .int .i64 0, .int .i64 0, .bool false, .bool false, .int .i64 0, .int .i64 0, .slice none 0 0] 83) := ⟨_, rfl⟩
  have hbel : Below w.heap.size w W0 := by rw [hW0]; exact bel0 _ _
  have hres : Bk W0 w.heap.size 83 (ec zp (.slice none 0 0)).toArray := by rw [hW0]; exact Bk.new _ _ _
  have hbx0 := hbx.below hbel hgl
  have ho0 : W0.ownsRow base 26 1 (.slice S n c) n xs := (Keep.of_below (S := fun i => w.heap.size ≤ i) hbel fun i _ h => h).own ho fun i hi hh => by have := (ho.lt i hi).2; omega
  have c0 : (w.alloc (.cells #[.int .i64 0, .int .i64 0, .int .i64 0, .int .i64 0, .string ⟨#[]⟩, .bool false, .int .i64 0, .int .i64 0, .int .i64 0, .bool false, .bool false, .int .i64 0, .int .i64 0, .bool false, .bool false, .int .i64 0, .int .i64 0, .slice none 0 0] 83)).cell? ⟨g, 0, none⟩ = some (.slice S n c) := by rw [← hW0]; exact hbx0.cell 0
  have hsz : w.heap.size < W0.heap.size := hres.lt
  go_enter Tryd.func71, Tryd.ntmps71
  repeat' (first | go_values | go_skip | go_guarded | go_step | go_upon)
  rw [← hW0]
  clear c0 hbx hrd
  have hh0 := hh.below hbel (by omega)
  have c0 : W0.cell? ⟨g, 0, none⟩ = some (.slice S n c) := hbx0.cell 0
  have f0 : W0.frozen? ⟨g, 0, none⟩ = false := hbx0.frozen 0
  have hS : n = 0 ∨ ∃ s, S = some ⟨s, 0, none⟩ ∧ base ≤ s ∧ s ≠ g ∧ s < w.heap.size := by
    rcases ho0.2 with ⟨_, h0⟩ | ⟨s, cap, cur, h1, h2, _⟩
    · exact .inl h0
    · injection h1 with h1
      exact .inr ⟨s, h1, h2, fun e => hne (by rw [h1, e]; rfl), (ho.lt s (by rw [h1]; rfl)).2⟩
  have hpb : ∀ i, i < B → ¬ (i = g) := by intro i hi e; omega
  have HBEL := Lib.hid hbel
  have HOL := Lib.hid (fun i (hi : Value.ownBlock (.slice S n c) = some i) => (ho.lt i hi).2)
  have HO := Lib.hid (And.intro ho0 hh0)
  clear hh ho hbel hW0 hh0
  go_loopw [4] (fun l wr => ∃ m : Nat, m ≤ n ∧ l = .slice S m c ∧ wr = W0 ∧ Hid (popR (K.take m).reverse = popR K.reverse)) (fun l _ => lenOf l)
  case atStart => exact ⟨n, Nat.le_refl _, rfl, rfl, Lib.hid (by rw [← hn, List.take_length])⟩
  case round =>
    obtain ⟨m, hm, rfl, hwr, HP⟩ := hrel
    subst hwr
    by_cases h0 : m = 0
    · subst h0
      have hres1 : Bk (wr.setCell ⟨g, 0, none⟩ (.slice S 0 c)) w.heap.size 83 (ec zp (.slice none 0 0)).toArray := (Keep.refl (fun i => i = g) wr).setCell (p := ⟨g, 0, none⟩) (fun _ => rfl) _ |>.bk hres (by omega)
      repeat' (first | ((with_reducible show Oper.wp _ _ _ _ _ _); apply st_z; exact rfl; exact rfl; exact rfl; assumption; exact rfl; (intro W2 hk2 hK2 hz2; go_simp)) | go_values | go_skip | go_guarded | go_step | go_upon)
      refine bodyPost_ret (res_tup rfl rfl rfl hk2 rfl) rfl ?_
      have hb1 : Bk (wr.setCell ⟨g, 0, none⟩ (.slice S 0 c)) g 130 #[.slice S 0 c] := hbx0.set_ 0 _
      refine ⟨?_, .slice S 0 c, by cases S <;> rfl, .inl ⟨by rw [← HP.out]; rfl, rfl, ⟨hK2.bk hb1 (by omega), [], ?_, fun i ts hi => by simp at hi⟩⟩⟩
      · exact ((Keep.of_below (S := StT g (.slice S n c)) HBEL.out fun i hi h => by omega).trans ((Keep.refl (fun i => i = g) wr).setCell (p := ⟨g, 0, none⟩) (fun _ => rfl) _) fun i _ e => .inl e).trans hK2 fun i hi e => by omega
      · refine hK2.own (((Keep.refl (fun i => i = g) wr).setCell (p := ⟨g, 0, none⟩) (fun _ => rfl) _).own (own_cut HO.out.1 (m := 0) (by omega)) fun i hi e => ?_) fun i hi e => ?_
        · subst e
          exact hne (by cases S with | none => cases hi | some x => exact hi)
        · have := HOL.out i (by cases S with | none => cases hi | some x => exact hi)
          omega
    · obtain ⟨k, rfl⟩ : ∃ k, m = k + 1 := ⟨m - 1, by omega⟩
      obtain ⟨s, rfl, hs, hsg, hsl⟩ : ∃ s, S = some ⟨s, 0, none⟩ ∧ base ≤ s ∧ s ≠ g ∧ s < w.heap.size := hS.resolve_left (by omega)
      have hkl : k < K.length := by omega
      obtain ⟨ts, hK1⟩ : ∃ ts, K[k]? = some ts := ⟨_, List.getElem?_eq_getElem hkl⟩
      obtain ⟨A, c', hx, hc', hr⟩ := HO.out.2 k _ hK1
      have HP2 := Lib.hid (And.intro hK1 (rev_snoc hK1))
      have hcl : wr.cell? ⟨s, k, none⟩ = some (.slice A ts.length c') := by
        obtain ⟨A2, c2, e2, -, -, hrd⟩ := own_form ho0
        injection e2 with e2
        subst e2
        obtain ⟨a2, ha2, -, hcell⟩ := hrd.at_ (by omega)
        injection ha2 with ha2
        subst ha2
        have := hcell k _ hx
        rwa [addr_zero] at this
      have hbk : k ≤ 9223372036854775807 := by unfold maxLen at hcm; omega
      have hk0 : (0 : Int) ≤ (k : Int) := by omega
      have hk1 : (k : Int) < (k : Int) + 1 := by omega
      have hfz : wr.frozen? ⟨s, k, none⟩ = false := by
        rcases ho0.2 with ⟨h1, _⟩ | ⟨s', cap, cur, h1, _, hg', _⟩
        · cases h1
        · injection h1 with h1
          injection h1 with h1
          injection h1 with h1
          subst h1
          exact Bk.frozen hg' k
      have hb0 : ((k : Int) + 1 == 0) = false := by rw [beq_eq_false_iff_ne]; omega
      clear hK1 hx ho0 hS hne
      cases ts with
      | nil =>
        clear hr hc'
        simp only [List.length_nil] at hcl
        repeat' (first | go_values | go_skip | go_guarded | go_step | go_upon)
        go_roundw
        case rel => exact ⟨k, by omega, by simp, by simp, Lib.hid (by rw [← HP.out, HP2.out.2]; rfl)⟩
        case measure => simp [lenOf]
      | cons t ts =>
        obtain ⟨p, ks⟩ := t
        obtain ⟨a, rfl, hab, hall⟩ := hr.at_ (by simp)
        obtain ⟨cs, hcs, hcell⟩ := hall 0 (.mk p ks) rfl
        obtain ⟨A1, c1, rfl, hc1, hkr⟩ := tree_mk.1 (show LiT wr (· < B) (.mk p ks) cs from hcs)
        rw [show 0 * treeF.k = 0 from rfl] at hcell
        simp only [Nat.zero_add] at hcell
        have hb2 : ((ts.length : Int) + 1 == 0) = false := by rw [beq_eq_false_iff_ne]; omega
        have hi1 : (0 : Int) < (ts.length : Int) + 1 := by omega
        have HQ := Lib.hid (hr.cut (i := 1) (j := (Tr.mk p ks :: ts).length) (cap := c') (by simp) (Nat.le_refl _) hc')
        simp only [List.length_cons] at hcl hc'
        have HH := Lib.hid (And.intro hcell hkr)
        clear hr hall hcs hcell hkr
        by_cases hc2 : c' = 1
        · subst hc2
          have h0t : ts.length = 0 := by omega
          obtain rfl := List.eq_nil_of_length_eq_zero h0t
          clear h0t HQ
          simp only [List.length_nil] at hcl hb2 hi1
          have HQ1 : RowF treeF wr (· < B) (some a) ([] : List Tr).length [] := RowF.nil _ _ _ _
          repeat' (first | ((with_reducible show Oper.wp _ _ _ _ _ _); apply stop_p; exact rfl) | go_values | go_skip | go_guarded | go_step | go_upon)
          refine Lib.hid ?_
          apply ld_pm
          · exact rfl
          · exact rfl
          · exact fun j u hu => ((((Below.refl B wr).setCell (p := ⟨g, 0, none⟩) hg _).setCell (p := ⟨s, k, none⟩) (by show B ≤ s; omega) _).cell (by rw [add_block]; exact hab)).trans (HH.out.1 j u hu)
          go_simp
          repeat' (first | ((with_reducible show Oper.wp _ _ _ _ _ _); apply stop_s; exact rfl) | go_values | go_skip | go_guarded | go_step | go_upon)
          refine Lib.hid ?_
          apply st_p
          · exact rfl
          · exact rfl
          · exact rfl
          · exact ((Keep.refl (fun i => i = s) _).setCell (p := ⟨s, k, none⟩) (fun _ => rfl) _).bk (((Keep.refl (fun i => i = g) wr).setCell (p := ⟨g, 0, none⟩) (fun _ => rfl) _).bk hres (by omega)) (by omega)
          · exact rfl
          intro W2 hk2 hK2 hz2
          go_simp
          repeat' (first | go_values | go_skip | go_guarded | go_step | go_upon)
          refine bodyPost_ret (res_tup rfl rfl rfl hk2 rfl) rfl ?_
          obtain ⟨e0, e1, e2⟩ := nx_end HBEL.out rfl hbx0 HO.out.1 HO.out.2 hn (by omega) hB hs hg hsg hgl hsl HP2.out.1 HQ1 (c2 := 0) (by simp) hK2
          exact ⟨e1, .slice (some ⟨s, 0, none⟩) (k + 1) c, rfl, .inr ⟨p, ks, _, A1, c1, by rw [← HP.out, HP2.out.2]; rfl, rfl, hc1, HH.out.2.below e0 (Nat.le_refl _), e2⟩⟩
        · have HQ1 : RowF treeF wr (· < B) (some ⟨a.block, a.off + 18, none⟩) ts.length ts := by
            have := HQ.out
            rw [if_neg hc2] at this
            simpa [Addr.add, treeF] using this
          repeat' (first | ((with_reducible show Oper.wp _ _ _ _ _ _); apply stop_p; exact rfl) | go_values | go_skip | go_guarded | go_step | go_upon)
          refine Lib.hid ?_
          apply ld_pm
          · exact rfl
          · exact rfl
          · exact fun j u hu => ((((Below.refl B wr).setCell (p := ⟨g, 0, none⟩) hg _).setCell (p := ⟨s, k, none⟩) (by show B ≤ s; omega) _).cell (by rw [add_block]; exact hab)).trans (HH.out.1 j u hu)
          go_simp
          repeat' (first | ((with_reducible show Oper.wp _ _ _ _ _ _); apply stop_s; exact rfl) | go_values | go_skip | go_guarded | go_step | go_upon)
          refine Lib.hid ?_
          apply st_p
          · exact rfl
          · exact rfl
          · exact rfl
          · exact ((Keep.refl (fun i => i = s) _).setCell (p := ⟨s, k, none⟩) (fun _ => rfl) _).bk (((Keep.refl (fun i => i = g) wr).setCell (p := ⟨g, 0, none⟩) (fun _ => rfl) _).bk hres (by omega)) (by omega)
          · exact rfl
          intro W2 hk2 hK2 hz2
          go_simp
          repeat' (first | go_values | go_skip | go_guarded | go_step | go_upon)
          refine bodyPost_ret (res_tup rfl rfl rfl hk2 rfl) rfl ?_
          obtain ⟨e0, e1, e2⟩ := nx_end HBEL.out rfl hbx0 HO.out.1 HO.out.2 hn (by omega) hB hs hg hsg hgl hsl HP2.out.1 HQ1 (by omega) hK2
          exact ⟨e1, .slice (some ⟨s, 0, none⟩) (k + 1) c, rfl, .inr ⟨p, ks, _, A1, c1, by rw [← HP.out, HP2.out.2]; rfl, rfl, hc1, HH.out.2.below e0 (Nat.le_refl _), e2⟩⟩
end Go.Proofs.YtkjiokepihmpfaaDoor
