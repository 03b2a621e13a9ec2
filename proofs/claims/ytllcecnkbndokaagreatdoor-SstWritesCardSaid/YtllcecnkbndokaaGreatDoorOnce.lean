/- sst.once by its contract: each text once, where each stands. Conditions: the texts read as such; neither they are too many nor one of them too long. -/
import Derived.Test.YtllcecnkbndokaaGreatDoorTx
import Derived.Test.YtllcecnkbndokaaGreatDoorCur
import Derived.Maps.Own
import Derived.Maps.OwnOps
import Derived.Maps.OwnSet
import Derived.Maps.Views
namespace Go.Proofs.YtllcecnkbndokaaGreatDoor
open Go.RowKit Go.Lib Go.Maps Go.WideMaps

theorem intsRow : ElemRow Tryz.prog 28 3 (.int .i64 0) 1 8 := by
  obtain ⟨i, hi, h0, h1, h2⟩ := info_parts (P := Tryz.prog) (e := 3) (z := .int .i64 0) (size := 1) (bytes := 8) (by kernel_rfl)
  exact ⟨Tryz.underlying28, ⟨i, hi, h0, h1, h2⟩, rfl, by omega⟩
theorem strsRow : ElemRow Tryz.prog 22 9 (.string ⟨#[]⟩) 1 16 := by
  obtain ⟨i, hi, h0, h1, h2⟩ := info_parts (P := Tryz.prog) (e := 9) (z := .string ⟨#[]⟩) (size := 1) (bytes := 16) (by kernel_rfl)
  exact ⟨Tryz.underlying22, ⟨i, hi, h0, h1, h2⟩, rfl, by omega⟩
def nv (i : Nat) : Value := .int .i64 i

theorem own_grown {w w' : World} {base n k : Nat} {e : TypeId} {v : Value} {xs : List Value} {r : Option Nat} (h : w.ownsRow base e k v n xs) (hg : w.grownBy w' r) (hne : ∀ i, v.ownBlock = some i → r ≠ some i) : w'.ownsRow base e k v n xs := by
  refine ⟨h.1, ?_⟩
  rcases h.2 with h2 | ⟨b, cap, cur, rfl, hb1, hh, r2⟩
  · exact .inl h2
  · exact .inr ⟨b, cap, cur, rfl, hb1, by rw [hg.block b (Array.getElem?_eq_some_iff.1 hh).1 (fun e => hne b rfl e.symm)]; exact hh, r2⟩
theorem own_ne_map {H : Type} {P : Program} {kt : TypeId} {R : Value → Option (DataW H × List MemPlace)} {w : World} {base n k g m : Nat} {e : TypeId} {v : Value} {xs : List Value} {D : DataW H} (h : w.ownsRow base e k v n xs) (hm : w.ownsMap P kt R g m D) : v.ownBlock ≠ some g := by
  obtain ⟨es, clock, hb, _⟩ := hm
  rcases h.2 with ⟨rfl, _⟩ | ⟨b, cap, cur, rfl, _, hh, _⟩
  · simp [Value.ownBlock]
  · simp only [Value.ownBlock, ne_eq, Option.some.injEq]
    rintro rfl
    rw [hb] at hh
    cases hh

theorem grew_own {w w' : World} {o : Obj} {v v' u : Value} {base base' n k m j : Nat} {e t : TypeId} {xs ys : List Value} (g : Grew (w.alloc o) w' v v') (hv : w.ownsRow base e k v n xs) (hu : w.ownsRow base' t j u m ys) (hne : e ≠ t) : w'.ownsRow base' t j u m ys :=
  own_grown (hu.alloc o) g.grown (fun i hi e' => own_own_ne (hu.alloc o) (hv.alloc o) hne.symm i hi e')
theorem grew_map {H : Type} {P : Program} {kt : TypeId} {R : Value → Option (DataW H × List MemPlace)} {w w' : World} {o : Obj} {v v' : Value} {base n k g m : Nat} {e : TypeId} {xs : List Value} {D : DataW H} (h : Grew (w.alloc o) w' v v') (hv : w.ownsRow base e k v n xs) (hm : w.ownsMap P kt R g m D) : w'.ownsMap P kt R g m D :=
  (hm.alloc o).kept h.grown (fun e => own_ne_map (hv.alloc o) (hm.alloc o) e.symm)

theorem skey : Keyed Tryz.prog 9 := string_keyed Tryz.underlying9
theorem smap : Tryz.prog.underlying 97 = some (.map 9 3) := Tryz.underlying97
theorem szero (w : World) : (zeroValue 3).run Tryz.prog w = .ok (.int .i64 0) w := by kernel_rfl

/-- What the map tells: each text that was met, and where it stands. -/
structure MapOf (D : DataW Unit) (T : List (List UInt8)) : Prop where
  map : IsMap D
  has : ∀ x, Maps.has D (.string x) = decide (x ∈ T)
  at_ : ∀ x, D.atKey (.string x) (.lit (.int .i64 0)) = .lit (.int .i64 (if x ∈ T then (T.idxOf x : Int) else 0))
theorem MapOf.start : MapOf (.map []) [] := ⟨isMap_empty, fun x => rfl, fun x => by simp [DataW.atKey]⟩
theorem str_ne {x s : List UInt8} (h : x ≠ s) : (Lit.string x) ≠ .string s := by
  intro e
  injection e with e
  exact h e
theorem MapOf.put {D : DataW Unit} {T : List (List UInt8)} {s : List UInt8} (h : MapOf D T) (hs : s ∉ T) : MapOf (D.put (.string s) (.lit (.int .i64 T.length))) (T ++ [s]) := by
  refine ⟨h.map.put _ _, fun x => ?_, fun x => ?_⟩
  · by_cases hx : x = s
    · subst hx
      rw [has_put_same h.map (by trivial)]
      simp
    · rw [has_put_other (str_ne hx), h.has]
      simp [hx]
  · by_cases hx : x = s
    · subst hx
      rw [atKey_put_same h.map (by trivial), if_pos (by simp), List.idxOf_append, if_neg hs]
      simp
    · rw [atKey_put_other (str_ne hx), h.at_]
      by_cases hm : x ∈ T
      · rw [if_pos hm, if_pos (by simp [hm]), List.idxOf_append, if_pos hm]
      · rw [if_neg hm, if_neg (by simp [hm, hx])]
set_option maxRecDepth 100000 in
theorem look_in {D : DataW Unit} {T : List (List UInt8)} {w : World} {g m : Nat} (h : MapOf D T) (hown : w.ownsMap Tryz.prog 9 (plainElem Tryz.prog 3) g m D) (s : ByteArray) (hs : s.size ≤ maxLen) :
    (Instr.lookup 97 (.map (some g)) (.string s) true).run Tryz.prog w = .ok (.tuple #[.int .i64 (if s.data.toList ∈ T then (T.idxOf s.data.toList : Int) else 0), .bool (decide (s.data.toList ∈ T))]) w := by
  obtain ⟨v, ps, hrun, hv⟩ := hown.look_ok skey smap (szero w) (plainElem_int Tryz.underlying3 (by decide)) (keyOf_string_mk Tryz.underlying9 hs)
  obtain ⟨c, rfl, hc, _⟩ := plainElem_int_inv Tryz.underlying3 hv
  have := congrArg Prod.fst hc
  simp only at this
  rw [h.at_] at this
  injection this with this
  injection this with _ this
  rw [hrun, h.has, this]

theorem dd_in {l : List (List UInt8)} {s : List UInt8} (h : s ∈ ddT l) : ddT (l ++ [s]) = ddT l ∧ atT (l ++ [s]) = atT l ++ [(ddT l).idxOf s] := by
  have e : ddT (l ++ [s]) = ddT l := by rw [dd_snoc, if_pos h]
  exact ⟨e, by rw [atT_snoc, e]⟩
theorem dd_out {l : List (List UInt8)} {s : List UInt8} (h : s ∉ ddT l) : ddT (l ++ [s]) = ddT l ++ [s] ∧ atT (l ++ [s]) = atT l ++ [(ddT l).length] := by
  have e : ddT (l ++ [s]) = ddT l ++ [s] := by rw [dd_snoc, if_neg h]
  refine ⟨e, ?_⟩
  rw [atT_snoc, e, List.idxOf_append, if_neg h]
  simp

set_option maxHeartbeats 8000000 in
set_option maxRecDepth 100000 in
theorem once_any {w : World} {B n c : Nat} {A : Option Addr} {L : List (List UInt8)} (h : Rd w B 1 A n (L.map tv)) (hB : B ≤ w.heap.size) (hn : n ≤ 1000000) (hs : ∀ l ∈ L, l.length ≤ 100000) :
    Calls Tryz.prog 31 #[.slice A n c] w fun e w' => ∃ v1 v2, e = .returned (.tuple #[v1, v2]) ∧ w'.ownsRow w.heap.size 9 1 v1 (ddT L).length ((ddT L).map tv) ∧ w'.ownsRow w.heap.size 3 1 v2 n ((atT L).map nv) ∧ Below w.heap.size w w' := by
  have hl := h.tlen
  have hmm := @run_makeMap Tryz.prog
  go_enter Tryz.func31, Tryz.ntmps31
  go_wp2
  go_loopw [4, 5, 14] (fun xv av i wr => ∃ (k m : Nat) (D : DataW Unit) (l : List (List UInt8)), k ≤ n ∧ i = .int .i64 k ∧ Hid (l = L.take k) ∧ m ≤ k ∧ wr.ownsRow (w.heap.size + 1) 9 1 xv (ddT l).length ((ddT l).map tv) ∧ wr.ownsRow (w.heap.size + 1) 3 1 av k ((atT l).map nv) ∧
    wr.ownsMap Tryz.prog 9 (plainElem Tryz.prog 3) w.heap.size m D ∧ MapOf D (ddT l) ∧ (ddT l).length ≤ k ∧ Below w.heap.size w wr) (fun _ _ i _ => n - (Go.RowKit.intOf i).toNat)
  case atStart => exact ⟨0, 0, _, [], Nat.zero_le _, rfl, Lib.hid (by simp), Nat.le_refl _, World.ownsRow_nil _ _ _ _, World.ownsRow_nil _ _ _ _, World.ownsMap_made _ _ _ _, MapOf.start, Nat.le_refl _, (Below.refl _ _).alloc (Nat.le_refl _) _⟩
  case round =>
    obtain ⟨k, m, D, l, hk, rfl, HL, hm, ho1, ho2, hM, hD, hdl, hbel⟩ := hrel
    have hsz := hM.lt
    by_cases hkn : k < n
    · have hkn' : (k : Int) < (n : Int) := by omega
      obtain ⟨a, s, rfl, hab, hsi, hcell⟩ := (h.belowMono hbel hB).strAt hkn
      have hss : s.size ≤ 100000 := by have := hs _ (List.mem_of_getElem? hsi); simpa using this
      have hlk := look_in hD hM s (by unfold maxLen; omega)
      have HL2 : Hid (l ++ [s.data.toList] = L.take (k + 1)) := Lib.hid (by
        have hi := (List.getElem?_eq_some_iff.1 hsi)
        rw [HL.out, ← List.take_append_getElem hi.1, hi.2])
      by_cases hin : s.data.toList ∈ ddT l
      · rw [if_pos hin, decide_eq_true hin] at hlk
        obtain ⟨e1, e2⟩ := dd_in hin
        have ho3 := ho1
        have hD3 := hD
        rw [← e1] at ho3 hD3
        generalize (ddT l).idxOf s.data.toList = q at *
        have hdl3 : (ddT (l ++ [s.data.toList])).length ≤ k + 1 := by rw [e1]; omega
        have E2 := Lib.hid e2
        clear hin e1 e2 hsi hs h hD hdl
        go_wp2_with (at_builtin; refine wpList_app intsRow rfl (.tmp 35) (.tmp 37) rfl rfl rfl (ho2.alloc _) (Rd.fresh _ _ 1 1 _ rfl) ?_ ?_ ?_ ?_ ?_)
        · intro u hu; simp at hu; subst hu; rfl
        · unfold maxLen; omega
        · omega
        · simp; omega
        intro v' w' ho g' hb'
        have hbF : Below w.heap.size w w' := hbel.trans ((((Below.refl _ wr).alloc hbel.size _).trans (hb'.mono (Nat.le_succ _))))
        have ho5 := grew_own g' ho2 ho3 (by decide)
        have hM5 := grew_map g' ho2 hM
        have ho6 : w'.ownsRow (w.heap.size + 1) 3 1 v' (k + 1) ((atT (l ++ [s.data.toList])).map nv) := by
          rw [E2.out, List.map_append]
          exact ho
        clear ho ho2 ho3 hM g' hb' hbel hcell hlk E2
        go_wp2
        go_roundw
        case rel => exact ⟨k + 1, m, D, _, by omega, by go_num, HL2, by omega, ho5, ho6, hM5, hD3, hdl3, hbF⟩
        case measure => simp [Go.RowKit.intOf]; omega
      · rw [if_neg hin, decide_eq_false hin] at hlk
        obtain ⟨e1, e2⟩ := dd_out hin
        have hD3 := hD.put hin
        rw [← e1] at hD3
        have hdl3 : (ddT (l ++ [s.data.toList])).length ≤ k + 1 := by rw [e1, List.length_append, List.length_singleton]; omega
        obtain ⟨w2, hrun, hM2, hg2⟩ := hM.update skey smap (by unfold maxLen; omega) (keyOf_string_mk Tryz.underlying9 (s := s) (by unfold maxLen; omega)) (plainElem_int Tryz.underlying3 (a := ((ddT l).length : Int)) (by exact WalkArith.wf_i64 (by omega)))
        have p1 := own_grown ho1 hg2 (fun i hi e => own_ne_map ho1 hM (hi.trans e.symm))
        have p2 := own_grown ho2 hg2 (fun i hi e => own_ne_map ho2 hM (hi.trans e.symm))
        have hb2 : Below w.heap.size w w2 := hbel.trans ((Below.refl _ wr).grown hg2 hbel.size (fun j hj => by cases hj; exact Nat.le_refl _))
        have hs2 : w.heap.size < w2.heap.size := hM2.lt
        obtain ⟨AT, cT, rfl, hcT, -, -⟩ := own_form ho1
        have E1 := Lib.hid e1
        have E2 := Lib.hid e2
        generalize hq : (ddT l).length = q at *
        have HQ := Lib.hid hq
        clear hq
        clear hin e1 e2 hsi hs h hD hM hg2 ho1 ho2 hbel
        go_wp2_with (at_builtin; refine wpList_app strsRow rfl (.tmp 31) (.tmp 33) rfl rfl rfl (p1.alloc _) (Rd.fresh _ _ 1 1 _ rfl) ?_ ?_ ?_ ?_ ?_)
        · intro u hu; simp at hu; subst hu; rfl
        · unfold maxLen; omega
        · omega
        · simp; omega
        intro v3 w3 o3 g3 b3
        have hb3 : Below w.heap.size w w3 := hb2.trans (((Below.refl _ w2).alloc hb2.size _).trans (b3.mono (Nat.le_succ _)))
        have p3 := grew_own g3 p1 p2 (by decide)
        have hM3 := grew_map g3 p1 hM2
        have hs3 : w.heap.size < w3.heap.size := hM3.lt
        clear p1 p2 g3 b3 hM2 hb2 hs2 hcell hlk hrun
        go_wp2_with (at_builtin; refine wpList_app intsRow rfl (.tmp 35) (.tmp 37) rfl rfl rfl (p3.alloc _) (Rd.fresh _ _ 1 1 _ rfl) ?_ ?_ ?_ ?_ ?_)
        · intro u hu; simp at hu; subst hu; rfl
        · unfold maxLen; omega
        · omega
        · simp; omega
        intro v4 w4 o4 g4 b4
        have hbF : Below w.heap.size w w4 := hb3.trans (((Below.refl _ w3).alloc hb3.size _).trans (b4.mono (Nat.le_succ _)))
        have o5 := grew_own g4 p3 o3 (by decide)
        have hM5 := grew_map g4 p3 hM3
        have o6 : w4.ownsRow (w.heap.size + 1) 3 1 v4 (k + 1) ((atT (l ++ [s.data.toList])).map nv) := by
          rw [E2.out, List.map_append]
          exact o4
        have o7 : w4.ownsRow (w.heap.size + 1) 9 1 v3 (ddT (l ++ [s.data.toList])).length ((ddT (l ++ [s.data.toList])).map tv) := by
          rw [E1.out, List.map_append, List.length_append, HQ.out, List.map_cons, List.map_nil, tv_str]
          exact o5
        clear o3 o4 o5 p3 hM3 g4 b4 hb3 E1 E2
        go_wp2
        go_roundw
        case rel => exact ⟨k + 1, m + 1, _, _, by omega, by go_num, HL2, by omega, o7, o6, hM5, hD3, hdl3, hbF⟩
        case measure => simp [Go.RowKit.intOf]; omega
    · obtain rfl : k = n := by omega
      have e : l = L := by rw [HL.out, List.take_of_length_le (by omega)]
      subst e
      clear hmm
      go_wp2
      go_ret2
      exact ⟨_, _, rfl, own_mono ho1 (Nat.le_succ _), own_mono ho2 (Nat.le_succ _), hbel⟩
end Go.Proofs.YtllcecnkbndokaaGreatDoor
