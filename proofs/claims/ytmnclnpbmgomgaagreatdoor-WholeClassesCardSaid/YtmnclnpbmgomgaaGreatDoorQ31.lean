/- What the row stands on, part 31. -/
import Derived.Test.YtmnclnpbmgomgaaGreatDoorRows
import Derived.LaidMore
import Derived.Lay
import Derived.LaidHandle
import Derived.LaidSub
import Derived.MakeChecks
import Derived.Lib.LaidTab
import Derived.Test.YtmnclnpbmgomgaaGreatDoorQ30
namespace Go.Proofs.YtmnclnpbmgomgaaGreatDoor
open Go.RowKit
set_option linter.unusedVariables false
noncomputable def laidL:List (String × DataW Unit):=Rows.wholeClassesRow.laid
theorem strs_laid {H:Type} {enc:TypeId × Value→H} {P:Program} {w:World} {base:Nat} {sp:Nat→Bool} {held:Bool} {fuel:Nat} {t e:TypeId} {n:Nat} {cs:List Value} {ss:List Str} {p:List MemPlace}
  (ht:P.underlying t=some (.array n e)) (he:P.underlying e=some .string) (hce:P.cellsOf e=1) (hct:P.cellsOf t=n) (hn:ss.length=n)
  (h:DataW.trod enc P w base sp held fuel t cs=some (.agg (ss.map fun s=> .lit (.string s)),p)):∀(i:Nat) (hi:i<ss.length),cs[i]? =some (.string (ofL (ss[i]'hi))):=by
 intro i hi
 cases fuel with
 |zero=>simp [DataW.trod] at h
 |succ fuel=>
  simp only [DataW.trod,ht,hce,hct,Nat.mul_one] at h
  split at h
  ·obtain⟨xs,hm,hx⟩:=Option.map_eq_some_iff.1 h
   have hxs:xs.map (·.1)=ss.map fun s=>(DataW.lit (.string s):DataW H):=by simpa using congrArg Prod.fst hx
   obtain⟨b,hb,hf⟩:=Lib.mapM_at hm i i (by simp [show i<n by omega])
   obtain⟨s,hc,rfl,_⟩:=DataW.trod_string he hf
   have h1:cs[i]? =some (.string s):=by
    have h3:=congrArg (·[0]?) hc
    simp [List.getElem?_take,List.getElem?_drop] at h3
    exact h3
   have h2:(xs.map (·.1))[i]? =some (DataW.lit (.string s.data.toList):DataW H):=by simp [hb]
   rw [hxs,List.getElem?_map,List.getElem?_eq_getElem hi] at h2
   simp only [Option.map_some,Option.some.injEq,DataW.lit.injEq,Lit.string.injEq] at h2
   rw [h1,h2]
   rfl
  ·cases h
theorem gCls:Tryz.prog.globalNamed "calque/plural.classes" =some 0:=by kernel_rfl
theorem gClsT:(Tryz.prog.globals[0]?).map (·.type)=some 106:=by kernel_rfl
theorem clG_of {W:World} (h:laidMetH Tryz.prog laidL W):ClG W:=by
 rw [MakeChecks.laidMetH_plain _ _ _ (by kernel_rfl)] at h
 have h1:=h.filter (fun x=>x.1== "calque/plural.classes")
 have e:laidL.filter (fun x=>x.1== "calque/plural.classes")= [("calque/plural.classes",.agg (ordN.map fun s=> .lit (.string s)))]:=by kernel_rfl
 rw [e] at h1
 obtain⟨ps,⟨g',t',cs,fuel,p,q,hg',ht',hvar,hd,_,_⟩,_⟩:=h1
 obtain rfl:=Option.some.inj (gCls.symm.trans hg')
 obtain rfl:=Option.some.inj (gClsT.symm.trans ht')
 have hc:=strs_laid Tryz.underlying106 Tryz.underlying9 (by kernel_rfl) (by kernel_rfl) (by decide) hd
 intro i hi
 have h2:=World.var?_cell gCls hvar i
 rw [h2]
 simpa using hc i hi
theorem door_shaped (os:Os) (args:Array Value):((World.laidAll Tryz.prog os laidL).forCall (fun _ _=>0) ⟨#[],args,[]⟩).Shaped Tryz.prog:=World.shaped_of_ZipB (by kernel_rfl) (by kernel_rfl)
theorem door_met (os:Os) (args:Array Value):laidMetH Tryz.prog laidL ((World.laidAll Tryz.prog os laidL).forCall (fun _ _=>0) ⟨#[],args,[]⟩).memory:=by
 rw [MakeChecks.laidMetH_plain _ _ _ (by kernel_rfl)]
 exact laidMet_laidAll _ (by kernel_rfl) (by kernel_rfl)
end Go.Proofs.YtmnclnpbmgomgaaGreatDoor
