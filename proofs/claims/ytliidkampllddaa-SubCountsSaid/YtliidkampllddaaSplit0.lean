/- sub.Split by its contract, its states gone through by gotos: what holds at each label. Conditions: the records read as such; there are fewer than a million. -/
import Derived.Test.YtliidkampllddaaPut
import Derived.Test.YtliidkampllddaaScope
import Derived.Test.YtliidkampllddaaSameAll
namespace Go.Proofs.Ytliidkampllddaa
open Go.RowKit

theorem list85 {α : Type} (l : List α) (h : l.length = 85) : ∃ y0 y1 y2 y3 y4 y5 y6 y7 y8 y9 y10 y11 y12 y13 y14 y15 y16 y17 y18 y19 y20 y21 y22 y23 y24 y25 y26 y27 y28 y29 y30 y31 y32 y33 y34 y35 y36 y37 y38 y39 y40 y41 y42 y43 y44 y45 y46 y47 y48 y49 y50 y51 y52 y53 y54 y55 y56 y57 y58 y59 y60 y61 y62 y63 y64 y65 y66 y67 y68 y69 y70 y71 y72 y73 y74 y75 y76 y77 y78 y79 y80 y81 y82 y83 y84, l = [y0, y1, y2, y3, y4, y5, y6, y7, y8, y9, y10, y11, y12, y13, y14, y15, y16, y17, y18, y19, y20, y21, y22, y23, y24, y25, y26, y27, y28, y29, y30, y31, y32, y33, y34, y35, y36, y37, y38, y39, y40, y41, y42, y43, y44, y45, y46, y47, y48, y49, y50, y51, y52, y53, y54, y55, y56, y57, y58, y59, y60, y61, y62, y63, y64, y65, y66, y67, y68, y69, y70, y71, y72, y73, y74, y75, y76, y77, y78, y79, y80, y81, y82, y83, y84] := by
  obtain ⟨y0, l0, rfl, h0⟩ := len_succ h
  obtain ⟨y1, l1, rfl, h1⟩ := len_succ h0
  obtain ⟨y2, l2, rfl, h2⟩ := len_succ h1
  obtain ⟨y3, l3, rfl, h3⟩ := len_succ h2
  obtain ⟨y4, l4, rfl, h4⟩ := len_succ h3
  obtain ⟨y5, l5, rfl, h5⟩ := len_succ h4
  obtain ⟨y6, l6, rfl, h6⟩ := len_succ h5
  obtain ⟨y7, l7, rfl, h7⟩ := len_succ h6
  obtain ⟨y8, l8, rfl, h8⟩ := len_succ h7
  obtain ⟨y9, l9, rfl, h9⟩ := len_succ h8
  obtain ⟨y10, l10, rfl, h10⟩ := len_succ h9
  obtain ⟨y11, l11, rfl, h11⟩ := len_succ h10
  obtain ⟨y12, l12, rfl, h12⟩ := len_succ h11
  obtain ⟨y13, l13, rfl, h13⟩ := len_succ h12
  obtain ⟨y14, l14, rfl, h14⟩ := len_succ h13
  obtain ⟨y15, l15, rfl, h15⟩ := len_succ h14
  obtain ⟨y16, l16, rfl, h16⟩ := len_succ h15
  obtain ⟨y17, l17, rfl, h17⟩ := len_succ h16
  obtain ⟨y18, l18, rfl, h18⟩ := len_succ h17
  obtain ⟨y19, l19, rfl, h19⟩ := len_succ h18
  obtain ⟨y20, l20, rfl, h20⟩ := len_succ h19
  obtain ⟨y21, l21, rfl, h21⟩ := len_succ h20
  obtain ⟨y22, l22, rfl, h22⟩ := len_succ h21
  obtain ⟨y23, l23, rfl, h23⟩ := len_succ h22
  obtain ⟨y24, l24, rfl, h24⟩ := len_succ h23
  obtain ⟨y25, l25, rfl, h25⟩ := len_succ h24
  obtain ⟨y26, l26, rfl, h26⟩ := len_succ h25
  obtain ⟨y27, l27, rfl, h27⟩ := len_succ h26
  obtain ⟨y28, l28, rfl, h28⟩ := len_succ h27
  obtain ⟨y29, l29, rfl, h29⟩ := len_succ h28
  obtain ⟨y30, l30, rfl, h30⟩ := len_succ h29
  obtain ⟨y31, l31, rfl, h31⟩ := len_succ h30
  obtain ⟨y32, l32, rfl, h32⟩ := len_succ h31
  obtain ⟨y33, l33, rfl, h33⟩ := len_succ h32
  obtain ⟨y34, l34, rfl, h34⟩ := len_succ h33
  obtain ⟨y35, l35, rfl, h35⟩ := len_succ h34
  obtain ⟨y36, l36, rfl, h36⟩ := len_succ h35
  obtain ⟨y37, l37, rfl, h37⟩ := len_succ h36
  obtain ⟨y38, l38, rfl, h38⟩ := len_succ h37
  obtain ⟨y39, l39, rfl, h39⟩ := len_succ h38
  obtain ⟨y40, l40, rfl, h40⟩ := len_succ h39
  obtain ⟨y41, l41, rfl, h41⟩ := len_succ h40
  obtain ⟨y42, l42, rfl, h42⟩ := len_succ h41
  obtain ⟨y43, l43, rfl, h43⟩ := len_succ h42
  obtain ⟨y44, l44, rfl, h44⟩ := len_succ h43
  obtain ⟨y45, l45, rfl, h45⟩ := len_succ h44
  obtain ⟨y46, l46, rfl, h46⟩ := len_succ h45
  obtain ⟨y47, l47, rfl, h47⟩ := len_succ h46
  obtain ⟨y48, l48, rfl, h48⟩ := len_succ h47
  obtain ⟨y49, l49, rfl, h49⟩ := len_succ h48
  obtain ⟨y50, l50, rfl, h50⟩ := len_succ h49
  obtain ⟨y51, l51, rfl, h51⟩ := len_succ h50
  obtain ⟨y52, l52, rfl, h52⟩ := len_succ h51
  obtain ⟨y53, l53, rfl, h53⟩ := len_succ h52
  obtain ⟨y54, l54, rfl, h54⟩ := len_succ h53
  obtain ⟨y55, l55, rfl, h55⟩ := len_succ h54
  obtain ⟨y56, l56, rfl, h56⟩ := len_succ h55
  obtain ⟨y57, l57, rfl, h57⟩ := len_succ h56
  obtain ⟨y58, l58, rfl, h58⟩ := len_succ h57
  obtain ⟨y59, l59, rfl, h59⟩ := len_succ h58
  obtain ⟨y60, l60, rfl, h60⟩ := len_succ h59
  obtain ⟨y61, l61, rfl, h61⟩ := len_succ h60
  obtain ⟨y62, l62, rfl, h62⟩ := len_succ h61
  obtain ⟨y63, l63, rfl, h63⟩ := len_succ h62
  obtain ⟨y64, l64, rfl, h64⟩ := len_succ h63
  obtain ⟨y65, l65, rfl, h65⟩ := len_succ h64
  obtain ⟨y66, l66, rfl, h66⟩ := len_succ h65
  obtain ⟨y67, l67, rfl, h67⟩ := len_succ h66
  obtain ⟨y68, l68, rfl, h68⟩ := len_succ h67
  obtain ⟨y69, l69, rfl, h69⟩ := len_succ h68
  obtain ⟨y70, l70, rfl, h70⟩ := len_succ h69
  obtain ⟨y71, l71, rfl, h71⟩ := len_succ h70
  obtain ⟨y72, l72, rfl, h72⟩ := len_succ h71
  obtain ⟨y73, l73, rfl, h73⟩ := len_succ h72
  obtain ⟨y74, l74, rfl, h74⟩ := len_succ h73
  obtain ⟨y75, l75, rfl, h75⟩ := len_succ h74
  obtain ⟨y76, l76, rfl, h76⟩ := len_succ h75
  obtain ⟨y77, l77, rfl, h77⟩ := len_succ h76
  obtain ⟨y78, l78, rfl, h78⟩ := len_succ h77
  obtain ⟨y79, l79, rfl, h79⟩ := len_succ h78
  obtain ⟨y80, l80, rfl, h80⟩ := len_succ h79
  obtain ⟨y81, l81, rfl, h81⟩ := len_succ h80
  obtain ⟨y82, l82, rfl, h82⟩ := len_succ h81
  obtain ⟨y83, l83, rfl, h83⟩ := len_succ h82
  obtain ⟨y84, l84, rfl, h84⟩ := len_succ h83
  have := List.eq_nil_of_length_eq_zero h84
  subst this
  exact ⟨_, _, _, _, _, _, _, _, _, _, _, _, _, _, _, _, _, _, _, _, _, _, _, _, _, _, _, _, _, _, _, _, _, _, _, _, _, _, _, _, _, _, _, _, _, _, _, _, _, _, _, _, _, _, _, _, _, _, _, _, _, _, _, _, _, _, _, _, _, _, _, _, _, _, _, _, _, _, _, _, _, _, _, _, _, rfl⟩

def kindOf (d : List UInt8) : Int := le2 (d.getD 0 0) (d.getD 1 0)

def splitM : List StreamM → Option (StreamM × Int) → List RecM → List StreamM × Int × Int
  | done, none, [] => (done, 0, 0)
  | _, some (_, b), [] => ([], b, 5)
  | done, none, r :: l => if outN r.type r.data.length r.cuts.length done.length = 0 then splitM done (some (⟨kindOf r.data, []⟩, r.at_)) l else ([], r.at_, outN r.type r.data.length r.cuts.length done.length)
  | done, some (s, b), r :: l =>
    if inN r.type r.data.length r.cuts.length = 0 then (if r.type = 10 then splitM (done ++ [s]) none l else splitM done (some (⟨s.kind, s.recs ++ [r]⟩, b)) l) else ([], r.at_, inN r.type r.data.length r.cuts.length)

/-- The slots that matter at a label. -/
structure SpA (w : World) (A : Option Addr) (n c i : Nat) (vd : Value) (a : Act) : Prop where
  d : a.defers = []
  sz : a.tmps.size = 85
  t0 : a.tmps.getD 0 undef = .slice A n c
  t5 : a.tmps.getD 5 undef = vd
  t6 : a.tmps.getD 6 undef = .pointer (some ⟨w.heap.size, 0, none⟩)
  t7 : a.tmps.getD 7 undef = .int .i64 i

/-- The rows that matter, the box of the open substream. -/
structure SpW (w : World) (M : Nat → Prop) (vd : Value) (done : List StreamM) (u0 u1 : Value) (W : World) : Prop where
  bel : Below w.heap.size w W
  box : Bk W w.heap.size 41 #[u0, u1]
  own : OwnF streamForm W (But W M) (w.heap.size + 1) 41 vd done
  few : done.length ≤ 9

def Open (w : World) (vd vo : Value) (j : Nat) : Prop := j = w.heap.size ∨ Mine vd j ∨ Mine vo j

def SpJ (w : World) (A : Option Addr) (n c : Nat) (L : List RecM) : Nat → Act → World → Prop
  | 0, a, W => ∃ i done vd u0 u1, i ≤ n ∧ SpA w A n c i vd a ∧ SpW w (Open w vd (.slice none 0 0)) vd done u0 u1 W ∧ Hid (splitM [] none L = splitM done none (L.drop i))
  | 1, a, W => ∃ i vd r e, i < n ∧ SpA w A n c i vd a ∧ Below w.heap.size w W ∧ L[i]? = some r ∧ a.tmps.getD 9 undef = .int .i64 e ∧ Hid (splitM [] none L = ([], r.at_, e))
  | 2, a, W => ∃ i done vd vo kind recs b, i ≤ n ∧ recs.length ≤ i ∧ SpA w A n c i vd a ∧ a.tmps.getD 8 undef = .int .i64 b ∧ SpW w (Open w vd vo) vd done (.int .i64 kind) vo W ∧ done.length ≤ 8 ∧
      OwnF recForm W (But W (Open w vd vo)) (w.heap.size + 1) 49 vo recs ∧ Hid (splitM [] none L = splitM done (some (⟨kind, recs⟩, b)) (L.drop i))
  | _, _, _ => False

def SpMu (n l : Nat) (a : Act) (_ : World) : Nat := if l = 1 then 0 else n + 1 - (intOf (a.tmps.getD 7 undef)).toNat

def SpFin (w : World) (L : List RecM) (a : Act) (W : World) : Prop := a.defers = [] ∧ ∃ v, a.tmps[2]? = some v ∧ a.tmps[3]? = some (.int .i64 (splitM [] none L).2.1) ∧ a.tmps[4]? = some (.int .i64 (splitM [] none L).2.2) ∧
  OwnF streamForm W (But W (Mine v)) w.heap.size 41 v (splitM [] none L).1 ∧ Below w.heap.size w W

/-- From a label on, no later pass is longer. -/
abbrev SpPost (w : World) (A : Option Addr) (n c : Nat) (L : List RecM) (m : Nat) (Q : Exit → Act → World → Prop) : Exit → Act → World → Prop :=
  Exit.jumps (fun l a W => SpJ w A n c L l a W ∧ SpMu n l a W < m) Q

end Go.Proofs.Ytliidkampllddaa
