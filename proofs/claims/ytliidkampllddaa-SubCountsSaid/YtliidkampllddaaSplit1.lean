/- sub.Split from its label 'wrong' on. Conditions: as Split0 has them. -/
import Derived.Test.YtliidkampllddaaSplit0
namespace Go.Proofs.Ytliidkampllddaa
open Go.RowKit

theorem split_wrong {w : World} {B n c : Nat} {A : Option Addr} {L : List RecM} {Q : Exit → Act → World → Prop} (h : RecsRd w B A n L) (hB : B ≤ w.heap.size) (hn : n ≤ 1000000) (hQ : ∀ a W, SpFin w L a W → Q .ret a W) {m : Nat} {r0 body rest : Code}
    (hbody : Try.f8.body = some (.seq r0 (.scope body))) (hr : findLabel body 1 = some rest) {a : Act} {W : World} (hJ : SpJ w A n c L 1 a W) : rest.wp Try.prog (SpPost w A n c L m Q) a W := by
  unfold Try.f8 at hbody
  simp only [Option.some.injEq] at hbody
  have hb2 := Code.scope.inj (Code.seq.inj hbody).2
  clear hbody
  subst hb2
  injection hr with hr
  subst hr
  obtain ⟨i, vd, r, e, hi, ha, hb, hl, t9, HE⟩ := hJ
  obtain ⟨ad, rfl, hab, hall⟩ := h.at_ (by omega)
  obtain ⟨D, dc, C, cc, hra⟩ := hall i r hl
  have hra' := hra.below hb hB
  clear hall hra
  have c3 := hra'.c3
  obtain ⟨⟨tl⟩, df⟩ := a
  have hsz : tl.length = 85 := ha.sz
  have hd : df = [] := ha.d
  subst hd
  obtain ⟨y0, y1, y2, y3, y4, y5, y6, y7, y8, y9, y10, y11, y12, y13, y14, y15, y16, y17, y18, y19, y20, y21, y22, y23, y24, y25, y26, y27, y28, y29, y30, y31, y32, y33, y34, y35, y36, y37, y38, y39, y40, y41, y42, y43, y44, y45, y46, y47, y48, y49, y50, y51, y52, y53, y54, y55, y56, y57, y58, y59, y60, y61, y62, y63, y64, y65, y66, y67, y68, y69, y70, y71, y72, y73, y74, y75, y76, y77, y78, y79, y80, y81, y82, y83, y84, rfl⟩ := list85 tl hsz
  have e0 : y0 = _ := ha.t0
  have e7 : y7 = _ := ha.t7
  have e9 : y9 = _ := t9
  clear ha hsz t9
  subst e0 e7 e9
  have hin : (i : Int) < (n : Int) := by omega
  go_wp2
  go_quiet (fail)
  go_wp2
  have HE1 := HE.out
  refine hQ _ _ ⟨rfl, _, rfl, ?_, ?_, ?_, ?_⟩
  · rw [HE1]; rfl
  · rw [HE1]; rfl
  · rw [HE1]; exact OwnF.nil _ _ _ _ _
  · exact ⟨hb.os, hb.tape, hb.output, hb.size, hb.block⟩
end Go.Proofs.Ytliidkampllddaa
