/- cashbooklaw1.RecWrites: for whatever row of records it returns true. Conditions: the row reads as a list; KnownSaid. -/
import Derived.Test.YtpjimppfgmemeaaWriteRecs
import Derived.Test.YtpjimppfgmemeaaJoinsLaw
namespace Go.Proofs.Ytpjimppfgmemeaa
open Go.RowKit

def cutM (r : RecM) : RecM := ⟨r.type, r.data, cutsK ((r.data.length - 1) / 224), r.at_⟩

/-- A record that reads. -/
def RecV (r : RecM) : Value → World → Prop := fun v W => ∃ D dc C cc, v = .agg #[.int .i64 r.type, .slice D r.data.length dc, .slice C r.cuts.length cc, .int .i64 r.at_] ∧ RecRd W W.heap.size r D dc C cc

def EW (W W' : World) : Prop := Below W.heap.size W W'
theorem stab_recV (r : RecM) : Stable EW (RecV r) := fun _ _ _ hE h => by
  obtain ⟨D, dc, C, cc, rfl, hr⟩ := h
  exact ⟨D, dc, C, cc, rfl, (hr.below hE).mono hE.size⟩

theorem recV_own {W : World} {base n m : Nat} {r : RecM} {dv cv : Value} {xs ys : List Value} (hn : n = r.data.length) (hm : m = r.cuts.length) (hx : xs = r.data.map bv) (hy : ys = r.cuts.map iv)
    (od : W.ownsRow base 5 1 dv n xs) (oc : W.ownsRow base 3 1 cv m ys) (f : Fit r.type ∧ r.data.length ≤ 1000000000000000000 ∧ r.cuts.length ≤ 1000000000000000000) :
    RecV r (.agg #[.int .i64 r.type, dv, cv, .int .i64 r.at_]) W := by
  subst hn hm hx hy
  obtain ⟨D, dc, rfl, h1, _, h2⟩ := own_form od
  obtain ⟨C, cc, rfl, h3, _, h4⟩ := own_form oc
  exact ⟨D, dc, C, cc, rfl, h2, h4, ⟨h1, f.2.1⟩, ⟨h3, f.2.2⟩, f.1⟩

theorem back_read (L : List RecM) (h : (writeM L).2 = 0) : ∃ M : List RecM, readAll (writeM L).1 = (M, 0, 0) ∧ M.length = L.length ∧ ∀ (i : Nat) r s, M[i]? = some r → L[i]? = some s → alikeM r s := by
  obtain ⟨M, M', e, l1, l2, al, _, _⟩ := joins_read L [] h rfl
  have h0 : M' = [] := List.eq_nil_of_length_eq_zero l2
  subst h0
  rw [show (writeM []).1 = [] from rfl, List.append_nil, List.append_nil] at e
  exact ⟨M, e, l1, al⟩

theorem list102 {α : Type} (l : List α) (h : l.length = 102) : ∃ y0 y1 y2 y3 y4 y5 y6 y7 y8 y9 y10 y11 y12 y13 y14 y15 y16 y17 y18 y19 y20 y21 y22 y23 y24 y25 y26 y27 y28 y29 y30 y31 y32 y33 y34 y35 y36 y37 y38 y39 y40 y41 y42 y43 y44 y45 y46 y47 y48 y49 y50 y51 y52 y53 y54 y55 y56 y57 y58 y59 y60 y61 y62 y63 y64 y65 y66 y67 y68 y69 y70 y71 y72 y73 y74 y75 y76 y77 y78 y79 y80 y81 y82 y83 y84 y85 y86 y87 y88 y89 y90 y91 y92 y93 y94 y95 y96 y97 y98 y99 y100 y101, l = [y0, y1, y2, y3, y4, y5, y6, y7, y8, y9, y10, y11, y12, y13, y14, y15, y16, y17, y18, y19, y20, y21, y22, y23, y24, y25, y26, y27, y28, y29, y30, y31, y32, y33, y34, y35, y36, y37, y38, y39, y40, y41, y42, y43, y44, y45, y46, y47, y48, y49, y50, y51, y52, y53, y54, y55, y56, y57, y58, y59, y60, y61, y62, y63, y64, y65, y66, y67, y68, y69, y70, y71, y72, y73, y74, y75, y76, y77, y78, y79, y80, y81, y82, y83, y84, y85, y86, y87, y88, y89, y90, y91, y92, y93, y94, y95, y96, y97, y98, y99, y100, y101] := by
  obtain ⟨y0, l0, rfl, h0⟩ := len_succ h
  obtain ⟨y1, l1, rfl, h1⟩ := len_succ h0
  obtain ⟨y2, l2, rfl, h2⟩ := len_succ h1
  obtain ⟨y3, l3, rfl, h3⟩ := len_succ h2
  obtain ⟨y4, l4, rfl, h4⟩ := len_succ h3
  obtain ⟨y5, l5, rfl, h5⟩ := len_succ h4
  obtain ⟨y6, l6, rfl, h6⟩ := len_succ h5
  obtain ⟨y7, l7, rfl, h7⟩ := len_succ h6
  obtain ⟨y8, l8, rfl, h8⟩ := len_succ h7
  obtain ⟨y9, l9, rfl, h9⟩ := len_succ h8
  obtain ⟨y10, l10, rfl, h10⟩ := len_succ h9
  obtain ⟨y11, l11, rfl, h11⟩ := len_succ h10
  obtain ⟨y12, l12, rfl, h12⟩ := len_succ h11
  obtain ⟨y13, l13, rfl, h13⟩ := len_succ h12
  obtain ⟨y14, l14, rfl, h14⟩ := len_succ h13
  obtain ⟨y15, l15, rfl, h15⟩ := len_succ h14
  obtain ⟨y16, l16, rfl, h16⟩ := len_succ h15
  obtain ⟨y17, l17, rfl, h17⟩ := len_succ h16
  obtain ⟨y18, l18, rfl, h18⟩ := len_succ h17
  obtain ⟨y19, l19, rfl, h19⟩ := len_succ h18
  obtain ⟨y20, l20, rfl, h20⟩ := len_succ h19
  obtain ⟨y21, l21, rfl, h21⟩ := len_succ h20
  obtain ⟨y22, l22, rfl, h22⟩ := len_succ h21
  obtain ⟨y23, l23, rfl, h23⟩ := len_succ h22
  obtain ⟨y24, l24, rfl, h24⟩ := len_succ h23
  obtain ⟨y25, l25, rfl, h25⟩ := len_succ h24
  obtain ⟨y26, l26, rfl, h26⟩ := len_succ h25
  obtain ⟨y27, l27, rfl, h27⟩ := len_succ h26
  obtain ⟨y28, l28, rfl, h28⟩ := len_succ h27
  obtain ⟨y29, l29, rfl, h29⟩ := len_succ h28
  obtain ⟨y30, l30, rfl, h30⟩ := len_succ h29
  obtain ⟨y31, l31, rfl, h31⟩ := len_succ h30
  obtain ⟨y32, l32, rfl, h32⟩ := len_succ h31
  obtain ⟨y33, l33, rfl, h33⟩ := len_succ h32
  obtain ⟨y34, l34, rfl, h34⟩ := len_succ h33
  obtain ⟨y35, l35, rfl, h35⟩ := len_succ h34
  obtain ⟨y36, l36, rfl, h36⟩ := len_succ h35
  obtain ⟨y37, l37, rfl, h37⟩ := len_succ h36
  obtain ⟨y38, l38, rfl, h38⟩ := len_succ h37
  obtain ⟨y39, l39, rfl, h39⟩ := len_succ h38
  obtain ⟨y40, l40, rfl, h40⟩ := len_succ h39
  obtain ⟨y41, l41, rfl, h41⟩ := len_succ h40
  obtain ⟨y42, l42, rfl, h42⟩ := len_succ h41
  obtain ⟨y43, l43, rfl, h43⟩ := len_succ h42
  obtain ⟨y44, l44, rfl, h44⟩ := len_succ h43
  obtain ⟨y45, l45, rfl, h45⟩ := len_succ h44
  obtain ⟨y46, l46, rfl, h46⟩ := len_succ h45
  obtain ⟨y47, l47, rfl, h47⟩ := len_succ h46
  obtain ⟨y48, l48, rfl, h48⟩ := len_succ h47
  obtain ⟨y49, l49, rfl, h49⟩ := len_succ h48
  obtain ⟨y50, l50, rfl, h50⟩ := len_succ h49
  obtain ⟨y51, l51, rfl, h51⟩ := len_succ h50
  obtain ⟨y52, l52, rfl, h52⟩ := len_succ h51
  obtain ⟨y53, l53, rfl, h53⟩ := len_succ h52
  obtain ⟨y54, l54, rfl, h54⟩ := len_succ h53
  obtain ⟨y55, l55, rfl, h55⟩ := len_succ h54
  obtain ⟨y56, l56, rfl, h56⟩ := len_succ h55
  obtain ⟨y57, l57, rfl, h57⟩ := len_succ h56
  obtain ⟨y58, l58, rfl, h58⟩ := len_succ h57
  obtain ⟨y59, l59, rfl, h59⟩ := len_succ h58
  obtain ⟨y60, l60, rfl, h60⟩ := len_succ h59
  obtain ⟨y61, l61, rfl, h61⟩ := len_succ h60
  obtain ⟨y62, l62, rfl, h62⟩ := len_succ h61
  obtain ⟨y63, l63, rfl, h63⟩ := len_succ h62
  obtain ⟨y64, l64, rfl, h64⟩ := len_succ h63
  obtain ⟨y65, l65, rfl, h65⟩ := len_succ h64
  obtain ⟨y66, l66, rfl, h66⟩ := len_succ h65
  obtain ⟨y67, l67, rfl, h67⟩ := len_succ h66
  obtain ⟨y68, l68, rfl, h68⟩ := len_succ h67
  obtain ⟨y69, l69, rfl, h69⟩ := len_succ h68
  obtain ⟨y70, l70, rfl, h70⟩ := len_succ h69
  obtain ⟨y71, l71, rfl, h71⟩ := len_succ h70
  obtain ⟨y72, l72, rfl, h72⟩ := len_succ h71
  obtain ⟨y73, l73, rfl, h73⟩ := len_succ h72
  obtain ⟨y74, l74, rfl, h74⟩ := len_succ h73
  obtain ⟨y75, l75, rfl, h75⟩ := len_succ h74
  obtain ⟨y76, l76, rfl, h76⟩ := len_succ h75
  obtain ⟨y77, l77, rfl, h77⟩ := len_succ h76
  obtain ⟨y78, l78, rfl, h78⟩ := len_succ h77
  obtain ⟨y79, l79, rfl, h79⟩ := len_succ h78
  obtain ⟨y80, l80, rfl, h80⟩ := len_succ h79
  obtain ⟨y81, l81, rfl, h81⟩ := len_succ h80
  obtain ⟨y82, l82, rfl, h82⟩ := len_succ h81
  obtain ⟨y83, l83, rfl, h83⟩ := len_succ h82
  obtain ⟨y84, l84, rfl, h84⟩ := len_succ h83
  obtain ⟨y85, l85, rfl, h85⟩ := len_succ h84
  obtain ⟨y86, l86, rfl, h86⟩ := len_succ h85
  obtain ⟨y87, l87, rfl, h87⟩ := len_succ h86
  obtain ⟨y88, l88, rfl, h88⟩ := len_succ h87
  obtain ⟨y89, l89, rfl, h89⟩ := len_succ h88
  obtain ⟨y90, l90, rfl, h90⟩ := len_succ h89
  obtain ⟨y91, l91, rfl, h91⟩ := len_succ h90
  obtain ⟨y92, l92, rfl, h92⟩ := len_succ h91
  obtain ⟨y93, l93, rfl, h93⟩ := len_succ h92
  obtain ⟨y94, l94, rfl, h94⟩ := len_succ h93
  obtain ⟨y95, l95, rfl, h95⟩ := len_succ h94
  obtain ⟨y96, l96, rfl, h96⟩ := len_succ h95
  obtain ⟨y97, l97, rfl, h97⟩ := len_succ h96
  obtain ⟨y98, l98, rfl, h98⟩ := len_succ h97
  obtain ⟨y99, l99, rfl, h99⟩ := len_succ h98
  obtain ⟨y100, l100, rfl, h100⟩ := len_succ h99
  obtain ⟨y101, l101, rfl, h101⟩ := len_succ h100
  have := List.eq_nil_of_length_eq_zero h101
  subst this
  exact ⟨_, _, _, _, _, _, _, _, _, _, _, _, _, _, _, _, _, _, _, _, _, _, _, _, _, _, _, _, _, _, _, _, _, _, _, _, _, _, _, _, _, _, _, _, _, _, _, _, _, _, _, _, _, _, _, _, _, _, _, _, _, _, _, _, _, _, _, _, _, _, _, _, _, _, _, _, _, _, _, _, _, _, _, _, _, _, _, _, _, _, _, _, _, _, _, _, _, _, _, _, _, _, rfl⟩

theorem cutM_fit {r : RecM} (f : Fit r.type) (h : r.data.length ≤ 3000) : Fit (cutM r).type ∧ (cutM r).data.length ≤ 1000000000000000000 ∧ (cutM r).cuts.length ≤ 1000000000000000000 := by
  refine ⟨f, ?_, ?_⟩
  · show r.data.length ≤ _; omega
  · show (cutsK _).length ≤ _; rw [cutsK_len]; omega

theorem recV_cut {W : World} {B base : Nat} {r : RecM} {D C : Option Addr} {dc cc : Nat} {cv : Value} (h : RecRd W B r D dc C cc) (hB : B ≤ W.heap.size)
    (oc : W.ownsRow base 3 1 cv ((r.data.length - 1) / 224) ((cutsK ((r.data.length - 1) / 224)).map iv)) (hn : r.data.length ≤ 3000) : RecV (cutM r) (.agg #[.int .i64 r.type, .slice D r.data.length dc, cv, .int .i64 r.at_]) W := by
  obtain ⟨C', cc', rfl, h3, _, h4⟩ := own_form oc
  have hl := cutsK_len ((r.data.length - 1) / 224)
  refine ⟨D, dc, C', cc', by show _ = Value.agg #[_, _, .slice C' (cutsK ((r.data.length - 1) / 224)).length cc', _]; rw [hl]; rfl, h.data.mono hB, ?_, h.dcap, ⟨?_, ?_⟩, h.fit⟩
  · show Rd W W.heap.size 1 C' (cutsK ((r.data.length - 1) / 224)).length _
    rw [hl]
    exact h4
  · show (cutsK ((r.data.length - 1) / 224)).length ≤ _
    rw [hl]
    exact h3
  · show (cutsK ((r.data.length - 1) / 224)).length ≤ _
    rw [hl]
    omega

set_option maxHeartbeats 8000000 in
set_option maxRecDepth 20000 in
theorem recWrites_any {w : World} {B n c : Nat} {A : Option Addr} {L : List RecM} (h : RecsRd w B A n L) (hB : B ≤ w.heap.size) (hL : ∀ r ∈ L, Wide r) (hn : n ≤ 1000000000000000000) :
    Calls Try.prog 3 #[.slice A n c] w fun e w' => e = .returned (.bool true) ∧ Below w.heap.size w w' := by
  go_enter Try.func3, Try.ntmps3
  go_wp2_with fail
  refine (known_any _).mono ?_
  rintro e w1 ⟨rfl, hb1⟩
  by_cases h20 : (20 : Int) < n
  · go_wp2_with fail
    go_ret
    exact ⟨rfl, hb1⟩
  have h20' : (decide ((20 : Int) < n)) = false := by simpa using h20
  go_wp2_with fail
  go_loopw [3] (fun i wr => ∃ k : Nat, k ≤ n ∧ i = .int .i64 k ∧ Below w.heap.size w wr) (fun i _ => n - (intOf i).toNat)
  case atStart => exact ⟨0, Nat.zero_le _, rfl, hb1⟩
  case round =>
    obtain ⟨k, hk, rfl, hbel⟩ := hrel
    have hll := h.len
    by_cases hkn : k < n
    · obtain ⟨a, rfl, hab, hall⟩ := h.at_ (by omega)
      have hkl : k < L.length := by omega
      obtain ⟨D, dc, C, cc, hr⟩ := hall k L[k] (List.getElem?_eq_getElem hkl)
      have hwd := hL L[k] (List.getElem_mem hkl)
      clear hall
      generalize L[k] = r at hr hwd
      have hr' := hr.below hbel hB
      have c1 := hr'.c1
      have c2 := hr'.c2
      clear hr'
      have hkn' : (k : Int) < (n : Int) := by omega
      have hs := hbel.size
      by_cases h3 : (3000 : Int) < (r.data.length : Int)
      · go_wp2_with fail
        go_ret
        exact ⟨rfl, hbel⟩
      by_cases h4 : (40 : Int) < (r.cuts.length : Int)
      · go_wp2_with fail
        go_ret
        exact ⟨rfl, hbel⟩
      go_wp2_with fail
      refine wp_region_tab (S := fun W => Below w.heap.size w W) (E := EW) [(0, Is (.slice (some a) n c)), (1, Is (undef)), (3, Is (.int .i64 k)), (4, Is (undef)), (5, Is (undef)), (6, Is (undef)), (7, Is (undef)), (8, Is (undef)), (9, Is (undef)), (10, Is (undef)), (11, Is (.bool true)), (12, Is (.bool false)), (13, Is (.slice (some a) n c)), (14, Is (.int .i64 n)), (15, Is (.bool false)), (66, Is (undef)), (67, Is (undef)), (68, Is (undef)), (69, Is (undef)), (70, Is (undef)), (71, Is (undef)), (72, Is (undef)), (73, Is (undef)), (74, Is (undef)), (75, Is (undef)), (76, Is (undef)), (77, Is (undef)), (78, Is (undef)), (79, Is (undef)), (80, Is (undef)), (81, Is (undef)), (82, Is (undef)), (83, Is (undef)), (84, Is (undef)), (85, Is (undef)), (86, Is (undef)), (87, Is (undef)), (88, Is (undef)), (89, Is (undef)), (90, Is (undef)), (91, Is (undef)), (92, Is (undef)), (93, Is (undef)), (94, Is (undef)), (95, Is (undef)), (96, Is (undef)), (97, Is (undef)), (98, Is (undef)), (99, Is (undef)), (100, Is (undef)), (101, Is (undef))] [(38, Is (.slice (some a) n c)), (39, Is (.int .i64 k)), (40, Is (.pointer (some (a.add (k * 4))))), (41, Is (.agg #[.int .i64 r.type, .slice D r.data.length dc, .slice C r.cuts.length cc, .int .i64 r.at_])), (42, RecV r), (43, Is (.int .i64 (checkM r))), (44, Is (.slice (some a) n c)), (45, Is (.int .i64 k)), (46, Is (.pointer (some (a.add (k * 4))))), (47, Is (.agg #[.int .i64 r.type, .slice D r.data.length dc, .slice C r.cuts.length cc, .int .i64 r.at_])), (48, Is (.int .i64 (checkM r))), (49, Is (.bool false)), (50, Is (.bool false)), (51, Is (.slice (some a) n c)), (52, Is (.int .i64 k)), (53, Is (.pointer (some (a.add (k * 4))))), (54, Is (.agg #[.int .i64 r.type, .slice D r.data.length dc, .slice C r.cuts.length cc, .int .i64 r.at_])), (55, RecV r), (56, RecV (cutM r)), (57, RecV (cutM r)), (58, Is (.slice (some a) n c)), (59, Is (.int .i64 k)), (60, Is (.pointer (some (a.add (k * 4))))), (61, Is (.agg #[.int .i64 r.type, .slice D r.data.length dc, .slice C r.cuts.length cc, .int .i64 r.at_])), (62, RecV (cutM r)), (63, Is (.bool true)), (64, Is (.bool false)), (65, Is (.bool false))] [([0], none), ([3], none), ([38, 39], none), ([40], none), ([41], none), ([42], none), ([0], none), ([3], none), ([44, 45], none), ([46], none), ([47], none), ([43, 48], none), ([49], none), ([0, 50], some (50, false)), ([3, 50], some (50, false)), ([51, 52, 50], some (50, false)), ([53, 50], some (50, false)), ([54, 50], some (50, false)), ([55, 50], some (50, false)), ([56, 50], some (50, false)), ([0, 50], some (50, false)), ([3, 50], some (50, false)), ([58, 59, 50], some (50, false)), ([60, 50], some (50, false)), ([61, 50], some (50, false)), ([57, 62, 50], some (50, false)), ([63, 50], some (50, false)), ([50, 64], none)]
        (by as_aux_lemma => kernel_rfl) ?_ ?_ ?_ ⟨stable_is _ _, stable_is _ _, stable_is _ _, stable_is _ _, stable_is _ _, stable_is _ _, stable_is _ _, stable_is _ _, stable_is _ _, stable_is _ _, stable_is _ _, stable_is _ _, stable_is _ _, stable_is _ _, stable_is _ _, stable_is _ _, stable_is _ _, stable_is _ _, stable_is _ _, stable_is _ _, stable_is _ _, stable_is _ _, stable_is _ _, stable_is _ _, stable_is _ _, stable_is _ _, stable_is _ _, stable_is _ _, stable_is _ _, stable_is _ _, stable_is _ _, stable_is _ _, stable_is _ _, stable_is _ _, stable_is _ _, stable_is _ _, stable_is _ _, stable_is _ _, stable_is _ _, stable_is _ _, stable_is _ _, stable_is _ _, stable_is _ _, stable_is _ _, stable_is _ _, stable_is _ _, stable_is _ _, stable_is _ _, stable_is _ _, stable_is _ _, stable_is _ _, stable_is _ _, stable_is _ _, stable_is _ _, stable_is _ _, stab_recV _, stable_is _ _, stable_is _ _, stable_is _ _, stable_is _ _, stable_is _ _, stable_is _ _, stable_is _ _, stable_is _ _, stable_is _ _, stable_is _ _, stable_is _ _, stable_is _ _, stab_recV _, stab_recV _, stab_recV _, stable_is _ _, stable_is _ _, stable_is _ _, stable_is _ _, stab_recV _, stable_is _ _, stable_is _ _, stable_is _ _, trivial⟩ ?_ hbel.drew ?_ ?_
      · as_aux_lemma => kernel_rfl
      · as_aux_lemma => kernel_rfl
      · as_aux_lemma => kernel_rfl
      · exact ⟨rfl, rfl, rfl, rfl, rfl, rfl, rfl, rfl, rfl, rfl, rfl, rfl, rfl, rfl, rfl, rfl, rfl, rfl, rfl, rfl, rfl, rfl, rfl, rfl, rfl, rfl, rfl, rfl, rfl, rfl, rfl, rfl, rfl, rfl, rfl, rfl, rfl, rfl, rfl, rfl, rfl, rfl, rfl, rfl, rfl, rfl, rfl, rfl, rfl, rfl, rfl, trivial⟩
      · refine ⟨?_, ?_, ?_, ?_, ?_, ?_, ?_, ?_, ?_, ?_, ?_, ?_, ?_, ?_, ?_, ?_, ?_, ?_, ?_, ?_, ?_, ?_, ?_, ?_, ?_, ?_, ?_, ?_, trivial⟩
        · as_aux_lemma =>
            intro x W hS hL
            have e0 : x.tmps.getD 0 undef = .slice (some a) n c := hL.1
            clear hL
            go_simp
            exact ⟨⟨fun d hd => by injection hd with hd; subst hd; rfl, fun h => by cases h⟩, hS, Below.refl _ _⟩
        · as_aux_lemma =>
            intro x W hS hL
            have e3 : x.tmps.getD 3 undef = .int .i64 k := hL.1
            clear hL
            go_simp
            exact ⟨⟨fun d hd => by injection hd with hd; subst hd; rfl, fun h => by cases h⟩, hS, Below.refl _ _⟩
        · as_aux_lemma =>
            intro x W hS hL
            have e38 : x.tmps.getD 38 undef = .slice (some a) n c := hL.1
            have e39 : x.tmps.getD 39 undef = .int .i64 k := hL.2.1
            clear hL
            go_simp
            exact ⟨⟨fun d hd => by injection hd with hd; subst hd; rfl, fun h => by cases h⟩, hS, Below.refl _ _⟩
        · as_aux_lemma =>
            intro x W hS hL
            have e40 : x.tmps.getD 40 undef = .pointer (some (a.add (k * 4))) := hL.1
            clear hL
            have hx := hr.below hS hB
            have f0 := hx.c0
            have f1 := hx.c1
            have f2 := hx.c2
            have f3 := hx.c3
            clear hx
            go_simp
            exact ⟨⟨fun d hd => by injection hd with hd; subst hd; rfl, fun h => by cases h⟩, hS, Below.refl _ _⟩
        · as_aux_lemma =>
            intro x W hS hL
            have e41 : x.tmps.getD 41 undef = .agg #[.int .i64 r.type, .slice D r.data.length dc, .slice C r.cuts.length cc, .int .i64 r.at_] := hL.1
            clear hL
            have hx := (hr.below hS hB).rd
            go_simp
            refine (to_any hx.data hx.cuts (Nat.le_trans hB hS.size) hwd.1 hwd.2).mono ?_
            rintro e W' ⟨dv, cv, rfl, od, oc, hb⟩
            exact ⟨_, rfl, ⟨fun d hd => by injection hd with hd; subst hd; exact recV_own rfl rfl rfl rfl od oc ⟨hx.fit, hx.dcap.2, hx.ccap.2⟩, fun h => by cases h⟩, hS.trans (hb.mono hS.size), hb⟩
        · as_aux_lemma =>
            intro x W hS hL
            obtain ⟨D42, dc42, C42, cc42, e42, q42⟩ := hL.1
            clear hL
            rw [Array.getD_eq_getD_getElem?] at e42
            go_simp
            refine (check_any q42 (Nat.le_refl _)).mono ?_
            rintro e W' ⟨rfl, hb⟩
            exact ⟨_, rfl, ⟨fun d hd => by injection hd with hd; subst hd; rfl, fun h => by cases h⟩, hS.trans (hb.mono hS.size), hb⟩
        · as_aux_lemma =>
            intro x W hS hL
            have e0 : x.tmps.getD 0 undef = .slice (some a) n c := hL.1
            clear hL
            go_simp
            exact ⟨⟨fun d hd => by injection hd with hd; subst hd; rfl, fun h => by cases h⟩, hS, Below.refl _ _⟩
        · as_aux_lemma =>
            intro x W hS hL
            have e3 : x.tmps.getD 3 undef = .int .i64 k := hL.1
            clear hL
            go_simp
            exact ⟨⟨fun d hd => by injection hd with hd; subst hd; rfl, fun h => by cases h⟩, hS, Below.refl _ _⟩
        · as_aux_lemma =>
            intro x W hS hL
            have e44 : x.tmps.getD 44 undef = .slice (some a) n c := hL.1
            have e45 : x.tmps.getD 45 undef = .int .i64 k := hL.2.1
            clear hL
            go_simp
            exact ⟨⟨fun d hd => by injection hd with hd; subst hd; rfl, fun h => by cases h⟩, hS, Below.refl _ _⟩
        · as_aux_lemma =>
            intro x W hS hL
            have e46 : x.tmps.getD 46 undef = .pointer (some (a.add (k * 4))) := hL.1
            clear hL
            have hx := hr.below hS hB
            have f0 := hx.c0
            have f1 := hx.c1
            have f2 := hx.c2
            have f3 := hx.c3
            clear hx
            go_simp
            exact ⟨⟨fun d hd => by injection hd with hd; subst hd; rfl, fun h => by cases h⟩, hS, Below.refl _ _⟩
        · as_aux_lemma =>
            intro x W hS hL
            have e47 : x.tmps.getD 47 undef = .agg #[.int .i64 r.type, .slice D r.data.length dc, .slice C r.cuts.length cc, .int .i64 r.at_] := hL.1
            clear hL
            have hx := (hr.below hS hB).rd
            go_simp
            refine (checkRec_any hx (Nat.le_trans hB hS.size)).mono ?_
            rintro e W' ⟨rfl, hb⟩
            exact ⟨_, rfl, ⟨fun d hd => by injection hd with hd; subst hd; rfl, fun h => by cases h⟩, hS.trans (hb.mono hS.size), hb⟩
        · as_aux_lemma =>
            intro x W hS hL
            have e43 : x.tmps.getD 43 undef = .int .i64 (checkM r) := hL.1
            have e48 : x.tmps.getD 48 undef = .int .i64 (checkM r) := hL.2.1
            clear hL
            go_simp
            exact ⟨⟨fun d hd => by injection hd with hd; subst hd; rfl, fun h => by cases h⟩, hS, Below.refl _ _⟩
        · as_aux_lemma =>
            intro x W hS hL
            have e49 : x.tmps.getD 49 undef = .bool false := hL.1
            clear hL
            go_simp
            exact ⟨⟨fun d hd => by injection hd with hd; subst hd; rfl, fun h => by cases h⟩, hS, Below.refl _ _⟩
        · as_aux_lemma =>
            intro x W hS hL
            have e0 : x.tmps.getD 0 undef = .slice (some a) n c := hL.1
            have e50 : x.tmps.getD 50 undef = .bool false := hL.2.1
            clear hL
            refine ⟨false, e50, ?_⟩
            rw [if_pos rfl]
            go_simp
            exact ⟨⟨fun d hd => by injection hd with hd; subst hd; rfl, fun h => by cases h⟩, hS, Below.refl _ _⟩
        · as_aux_lemma =>
            intro x W hS hL
            have e3 : x.tmps.getD 3 undef = .int .i64 k := hL.1
            have e50 : x.tmps.getD 50 undef = .bool false := hL.2.1
            clear hL
            refine ⟨false, e50, ?_⟩
            rw [if_pos rfl]
            go_simp
            exact ⟨⟨fun d hd => by injection hd with hd; subst hd; rfl, fun h => by cases h⟩, hS, Below.refl _ _⟩
        · as_aux_lemma =>
            intro x W hS hL
            have e51 : x.tmps.getD 51 undef = .slice (some a) n c := hL.1
            have e52 : x.tmps.getD 52 undef = .int .i64 k := hL.2.1
            have e50 : x.tmps.getD 50 undef = .bool false := hL.2.2.1
            clear hL
            refine ⟨false, e50, ?_⟩
            rw [if_pos rfl]
            go_simp
            exact ⟨⟨fun d hd => by injection hd with hd; subst hd; rfl, fun h => by cases h⟩, hS, Below.refl _ _⟩
        · as_aux_lemma =>
            intro x W hS hL
            have e53 : x.tmps.getD 53 undef = .pointer (some (a.add (k * 4))) := hL.1
            have e50 : x.tmps.getD 50 undef = .bool false := hL.2.1
            clear hL
            refine ⟨false, e50, ?_⟩
            rw [if_pos rfl]
            have hx := hr.below hS hB
            have f0 := hx.c0
            have f1 := hx.c1
            have f2 := hx.c2
            have f3 := hx.c3
            clear hx
            go_simp
            exact ⟨⟨fun d hd => by injection hd with hd; subst hd; rfl, fun h => by cases h⟩, hS, Below.refl _ _⟩
        · as_aux_lemma =>
            intro x W hS hL
            have e54 : x.tmps.getD 54 undef = .agg #[.int .i64 r.type, .slice D r.data.length dc, .slice C r.cuts.length cc, .int .i64 r.at_] := hL.1
            have e50 : x.tmps.getD 50 undef = .bool false := hL.2.1
            clear hL
            refine ⟨false, e50, ?_⟩
            rw [if_pos rfl]
            have hx := (hr.below hS hB).rd
            go_simp
            refine (to_any hx.data hx.cuts (Nat.le_trans hB hS.size) hwd.1 hwd.2).mono ?_
            rintro e W' ⟨dv, cv, rfl, od, oc, hb⟩
            exact ⟨_, rfl, ⟨fun d hd => by injection hd with hd; subst hd; exact recV_own rfl rfl rfl rfl od oc ⟨hx.fit, hx.dcap.2, hx.ccap.2⟩, fun h => by cases h⟩, hS.trans (hb.mono hS.size), hb⟩
        · as_aux_lemma =>
            intro x W hS hL
            obtain ⟨D55, dc55, C55, cc55, e55, q55⟩ := hL.1
            have e50 : x.tmps.getD 50 undef = .bool false := hL.2.1
            clear hL
            refine ⟨false, e50, ?_⟩
            rw [if_pos rfl]
            rw [Array.getD_eq_getD_getElem?] at e55
            go_simp
            refine (cut_any q55 (Nat.le_refl _) (by omega)).mono ?_
            rintro e W' ⟨dv, cv, rfl, od, oc, hb⟩
            exact ⟨_, rfl, ⟨fun d hd => by injection hd with hd; subst hd; exact recV_own (r := cutM r) rfl (cutsK_len _).symm rfl rfl od oc (cutM_fit q55.fit (by omega)), fun h => by cases h⟩, hS.trans (hb.mono hS.size), hb⟩
        · as_aux_lemma =>
            intro x W hS hL
            obtain ⟨D56, dc56, C56, cc56, e56, q56⟩ := hL.1
            have e50 : x.tmps.getD 50 undef = .bool false := hL.2.1
            clear hL
            refine ⟨false, e50, ?_⟩
            rw [if_pos rfl]
            rw [Array.getD_eq_getD_getElem?] at e56
            go_simp
            refine of_any.mono ?_
            rintro e W' ⟨rfl, hb⟩
            exact ⟨_, rfl, ⟨fun d hd => by injection hd with hd; subst hd; exact ⟨_, _, _, _, rfl, (q56.below hb).mono hb.size⟩, fun h => by cases h⟩, hS.trans (hb.mono hS.size), hb⟩
        · as_aux_lemma =>
            intro x W hS hL
            have e0 : x.tmps.getD 0 undef = .slice (some a) n c := hL.1
            have e50 : x.tmps.getD 50 undef = .bool false := hL.2.1
            clear hL
            refine ⟨false, e50, ?_⟩
            rw [if_pos rfl]
            go_simp
            exact ⟨⟨fun d hd => by injection hd with hd; subst hd; rfl, fun h => by cases h⟩, hS, Below.refl _ _⟩
        · as_aux_lemma =>
            intro x W hS hL
            have e3 : x.tmps.getD 3 undef = .int .i64 k := hL.1
            have e50 : x.tmps.getD 50 undef = .bool false := hL.2.1
            clear hL
            refine ⟨false, e50, ?_⟩
            rw [if_pos rfl]
            go_simp
            exact ⟨⟨fun d hd => by injection hd with hd; subst hd; rfl, fun h => by cases h⟩, hS, Below.refl _ _⟩
        · as_aux_lemma =>
            intro x W hS hL
            have e58 : x.tmps.getD 58 undef = .slice (some a) n c := hL.1
            have e59 : x.tmps.getD 59 undef = .int .i64 k := hL.2.1
            have e50 : x.tmps.getD 50 undef = .bool false := hL.2.2.1
            clear hL
            refine ⟨false, e50, ?_⟩
            rw [if_pos rfl]
            go_simp
            exact ⟨⟨fun d hd => by injection hd with hd; subst hd; rfl, fun h => by cases h⟩, hS, Below.refl _ _⟩
        · as_aux_lemma =>
            intro x W hS hL
            have e60 : x.tmps.getD 60 undef = .pointer (some (a.add (k * 4))) := hL.1
            have e50 : x.tmps.getD 50 undef = .bool false := hL.2.1
            clear hL
            refine ⟨false, e50, ?_⟩
            rw [if_pos rfl]
            have hx := hr.below hS hB
            have f0 := hx.c0
            have f1 := hx.c1
            have f2 := hx.c2
            have f3 := hx.c3
            clear hx
            go_simp
            exact ⟨⟨fun d hd => by injection hd with hd; subst hd; rfl, fun h => by cases h⟩, hS, Below.refl _ _⟩
        · as_aux_lemma =>
            intro x W hS hL
            have e61 : x.tmps.getD 61 undef = .agg #[.int .i64 r.type, .slice D r.data.length dc, .slice C r.cuts.length cc, .int .i64 r.at_] := hL.1
            have e50 : x.tmps.getD 50 undef = .bool false := hL.2.1
            clear hL
            refine ⟨false, e50, ?_⟩
            rw [if_pos rfl]
            have hx := (hr.below hS hB).rd
            go_simp
            refine (cutRec_any (r := r) (by omega)).mono ?_
            rintro e W' ⟨cv, rfl, oc, hb⟩
            exact ⟨_, rfl, ⟨fun d hd => by injection hd with hd; subst hd; exact recV_cut (hx.below (hb.mono (Nat.le_trans hB hS.size))) (Nat.le_trans (Nat.le_trans hB hS.size) hb.size) oc (by omega), fun h => by cases h⟩, hS.trans (hb.mono hS.size), hb⟩
        · as_aux_lemma =>
            intro x W hS hL
            obtain ⟨D57, dc57, C57, cc57, e57, q57⟩ := hL.1
            obtain ⟨D62, dc62, C62, cc62, e62, q62⟩ := hL.2.1
            have e50 : x.tmps.getD 50 undef = .bool false := hL.2.2.1
            clear hL
            refine ⟨false, e50, ?_⟩
            rw [if_pos rfl]
            rw [Array.getD_eq_getD_getElem?] at e57 e62
            go_simp
            refine (sameRec_any q57 q62 (Nat.le_refl _) rfl rfl rfl).mono ?_
            rintro e W' ⟨rfl, hb⟩
            exact ⟨_, rfl, ⟨fun d hd => by injection hd with hd; subst hd; rfl, fun h => by cases h⟩, hS.trans (hb.mono hS.size), hb⟩
        · as_aux_lemma =>
            intro x W hS hL
            have e63 : x.tmps.getD 63 undef = .bool true := hL.1
            have e50 : x.tmps.getD 50 undef = .bool false := hL.2.1
            clear hL
            refine ⟨false, e50, ?_⟩
            rw [if_pos rfl]
            go_simp
            exact ⟨⟨fun d hd => by injection hd with hd; subst hd; rfl, fun h => by cases h⟩, hS, Below.refl _ _⟩
        · as_aux_lemma =>
            intro x W hS hL
            have e50 : x.tmps.getD 50 undef = .bool false := hL.1
            have e64 : x.tmps.getD 64 undef = .bool false := hL.2.1
            clear hL
            go_simp
            exact ⟨⟨fun d hd => by injection hd with hd; subst hd; rfl, fun h => by cases h⟩, hS, Below.refl _ _⟩
      · intro x W hd hsz hT _ hS
        obtain ⟨⟨tl⟩, df⟩ := x
        simp only [List.size_toArray] at hsz
        have hd' : df = [] := hd
        subst hd'
        clear hd
        obtain ⟨y0, y1, y2, y3, y4, y5, y6, y7, y8, y9, y10, y11, y12, y13, y14, y15, y16, y17, y18, y19, y20, y21, y22, y23, y24, y25, y26, y27, y28, y29, y30, y31, y32, y33, y34, y35, y36, y37, y38, y39, y40, y41, y42, y43, y44, y45, y46, y47, y48, y49, y50, y51, y52, y53, y54, y55, y56, y57, y58, y59, y60, y61, y62, y63, y64, y65, y66, y67, y68, y69, y70, y71, y72, y73, y74, y75, y76, y77, y78, y79, y80, y81, y82, y83, y84, y85, y86, y87, y88, y89, y90, y91, y92, y93, y94, y95, y96, y97, y98, y99, y100, y101, rfl⟩ := list102 tl hsz
        have e0 : y0 = .slice (some a) n c := hT 0 (by simp)
        have e1 : y1 = undef := hT 1 (by simp)
        have e3 : y3 = .int .i64 k := hT 3 (by simp)
        have e4 : y4 = undef := hT 4 (by simp)
        have e5 : y5 = undef := hT 5 (by simp)
        have e6 : y6 = undef := hT 6 (by simp)
        have e7 : y7 = undef := hT 7 (by simp)
        have e8 : y8 = undef := hT 8 (by simp)
        have e9 : y9 = undef := hT 9 (by simp)
        have e10 : y10 = undef := hT 10 (by simp)
        have e11 : y11 = .bool true := hT 11 (by simp)
        have e12 : y12 = .bool false := hT 12 (by simp)
        have e13 : y13 = .slice (some a) n c := hT 13 (by simp)
        have e14 : y14 = .int .i64 n := hT 14 (by simp)
        have e15 : y15 = .bool false := hT 15 (by simp)
        have e66 : y66 = undef := hT 66 (by simp)
        have e67 : y67 = undef := hT 67 (by simp)
        have e68 : y68 = undef := hT 68 (by simp)
        have e69 : y69 = undef := hT 69 (by simp)
        have e70 : y70 = undef := hT 70 (by simp)
        have e71 : y71 = undef := hT 71 (by simp)
        have e72 : y72 = undef := hT 72 (by simp)
        have e73 : y73 = undef := hT 73 (by simp)
        have e74 : y74 = undef := hT 74 (by simp)
        have e75 : y75 = undef := hT 75 (by simp)
        have e76 : y76 = undef := hT 76 (by simp)
        have e77 : y77 = undef := hT 77 (by simp)
        have e78 : y78 = undef := hT 78 (by simp)
        have e79 : y79 = undef := hT 79 (by simp)
        have e80 : y80 = undef := hT 80 (by simp)
        have e81 : y81 = undef := hT 81 (by simp)
        have e82 : y82 = undef := hT 82 (by simp)
        have e83 : y83 = undef := hT 83 (by simp)
        have e84 : y84 = undef := hT 84 (by simp)
        have e85 : y85 = undef := hT 85 (by simp)
        have e86 : y86 = undef := hT 86 (by simp)
        have e87 : y87 = undef := hT 87 (by simp)
        have e88 : y88 = undef := hT 88 (by simp)
        have e89 : y89 = undef := hT 89 (by simp)
        have e90 : y90 = undef := hT 90 (by simp)
        have e91 : y91 = undef := hT 91 (by simp)
        have e92 : y92 = undef := hT 92 (by simp)
        have e93 : y93 = undef := hT 93 (by simp)
        have e94 : y94 = undef := hT 94 (by simp)
        have e95 : y95 = undef := hT 95 (by simp)
        have e96 : y96 = undef := hT 96 (by simp)
        have e97 : y97 = undef := hT 97 (by simp)
        have e98 : y98 = undef := hT 98 (by simp)
        have e99 : y99 = undef := hT 99 (by simp)
        have e100 : y100 = undef := hT 100 (by simp)
        have e101 : y101 = undef := hT 101 (by simp)
        have e65 : y65 = .bool false := hT 65 (by simp)
        clear hT
        subst e0 e1 e3 e4 e5 e6 e7 e8 e9 e10 e11 e12 e13 e14 e15 e66 e67 e68 e69 e70 e71 e72 e73 e74 e75 e76 e77 e78 e79 e80 e81 e82 e83 e84 e85 e86 e87 e88 e89 e90 e91 e92 e93 e94 e95 e96 e97 e98 e99 e100 e101 e65
        go_wp2
        go_roundw
        case rel => exact ⟨k + 1, by omega, by go_num, hS⟩
        case measure => simp [intOf]; omega
    · have hkk : k = n := by omega
      subst hkk
      have hs1 := hbel.size
      have g1 := h.below hbel hB
      have f1 := h.mem
      go_wp2_with fail
      refine (toAll_any g1 (by omega) (by omega) hL).mono ?_
      rintro e w2 ⟨v2, S, rfl, ho, hm, hb2⟩
      have hSl : S.length = k := by rw [← hll, ← hm, List.length_map]
      obtain ⟨A2, c2, rfl, _, hrd⟩ := ho.readL (fun x hx => f1 x.r (by rw [← hm]; exact List.mem_map_of_mem hx))
      rw [hm] at hrd
      rw [hSl] at hrd ⊢
      clear ho hm
      have hs2 := hb2.size
      go_wp2_with fail
      refine (write_any hrd (Nat.le_refl _) (by omega)).mono ?_
      rintro e w3 ⟨vx, rfl, ox, hb3⟩
      have hs3 := hb3.size
      have b03 : Below w.heap.size w w3 := (hbel.trans (hb2.mono hs1)).trans (hb3.mono (by omega))
      clear hrd g1
      obtain ⟨X, cx, rfl, hcx, _, rx⟩ := own_form ox
      go_wp2_with fail
      refine (writeRecs_any (h.below b03 hB) (by omega) (by omega)).mono ?_
      rintro e w4 ⟨vy, rfl, oy, hb4⟩
      obtain ⟨Y, cy, rfl, hcy, _, ry⟩ := own_form oy
      have hs4 := hb4.size
      have rx4 := rx.below hb4
      have b04 : Below w.heap.size w w4 := b03.trans (hb4.mono (by omega))
      have q4 := h.below b04 hB
      have e1 := run_str (c := cx) rx4
      have e2 := run_str (c := cy) ry
      clear ox oy rx hb2 hb3 hb4
      by_cases he : (writeM L).2 = 0
      · obtain ⟨M, hr, lm, al⟩ := back_read L he
        have HR := Lib.hid hr
        have lx := writeM_len L he
        clear hr
        rw [he]
        clear he
        generalize (writeM L).1 = xb at *
        go_wp2_with fail
        refine (read_any rx4 hcx (by omega) (by omega)).mono ?_
        rintro e w5 ⟨v5, S5, rfl, o5, hm5, hf5, hb5⟩
        rw [HR.out] at hm5 ⊢
        have hm6 : S5.map (·.r) = M := hm5
        have hS5 : S5.length = k := by rw [← hll, ← lm, ← hm6, List.length_map]
        obtain ⟨A5, c5, rfl, hc5, r5⟩ := o5.readL (fun x hx => by
          obtain ⟨z0, z1, z2⟩ := hf5 x hx
          exact ⟨z0, by omega, by omega⟩)
        rw [hm5] at r5
        rw [hS5] at r5 hc5 ⊢
        have hs5 := hb5.size
        have b05 : Below w.heap.size w w5 := b04.trans (hb5.mono (by omega))
        have q5 := (h.below b05 hB).mono (B' := w5.heap.size) (by omega)
        clear o5 hm5 hf5 hb5 q4 rx4 ry e1 e2 HR h
        go_wp2_with fail
        refine (sameAll_any r5 q5 (Nat.le_refl _) (by omega) al).mono ?_
        rintro e w6 ⟨rfl, hb6⟩
        have b06 : Below w.heap.size w w6 := b05.trans (hb6.mono (by omega))
        clear r5 q5
        go_wp2_with fail
        go_ret
        exact ⟨rfl, b06⟩
      · have hb : ((writeM L).2 != 0) = true := by simpa using he
        clear h q4 he
        go_wp2_with fail
        go_ret
        exact ⟨rfl, b04⟩
end Go.Proofs.Ytpjimppfgmemeaa
