/- FROM A ROW's LIST OF VARIABLES TO THE CONTRACTS' CONDITION: what the listed package-level variables hold ('Good', 'PowIn'); the witness' world. -/
import Derived.Test.YtkahbhfbgdbnfaaGreatDoorCards
import Derived.Test.YtkahbhfbgdbnfaaGreatDoorTie
import Derived.Test.YtkahbhfbgdbnfaaGreatDoorZ3
import Derived.WalkKit
import Derived.ProofKit
import Derived.OpenShut
import Derived.LaidMore
import Derived.Deep.DeepHandedRow
import Derived.Deep.DeepWitnessRowRef
import Derived.Lib.LaidTab
import Derived.Stop.LaidErr
set_option maxRecDepth 100000
set_option maxHeartbeats 400000
namespace Go.Proofs.YtkahbhfbgdbnfaaGreatDoor
open Go.ChangeShapes Go.WideShapes Go.ChangeAt Go.RowKit
theorem own:ownKnob Tryz.prog.godebug=none:=by kernel_rfl
theorem gKeys:Tryz.prog.globalNamed "truant/lex.keys" =some 0:=by kernel_rfl
theorem gLongs:Tryz.prog.globalNamed "truant/lex.longSigns" =some 1:=by kernel_rfl
theorem gSigns:Tryz.prog.globalNamed "truant/num.signs" =some 2:=by kernel_rfl
theorem tKeys:(Tryz.prog.globals[0]?).map (·.type)=some 150:=by kernel_rfl
theorem tLongs:(Tryz.prog.globals[1]?).map (·.type)=some 183:=by kernel_rfl
theorem tSigns:(Tryz.prog.globals[2]?).map (·.type)=some 121:=by kernel_rfl
theorem tRange:(Tryz.prog.globals[5]?).map (·.type)=some 129:=by kernel_rfl
theorem tPow:(Tryz.prog.globals[6]?).map (·.type)=some 213:=by kernel_rfl
theorem cells9:Tryz.prog.cellsOf 9=1:=by kernel_rfl
theorem cells121:Tryz.prog.cellsOf 121=19:=by kernel_rfl
theorem cells150:Tryz.prog.cellsOf 150=16:=by kernel_rfl
theorem cells151:Tryz.prog.cellsOf 151=1:=by kernel_rfl
theorem cells183:Tryz.prog.cellsOf 183=9:=by kernel_rfl
theorem cells220:Tryz.prog.cellsOf 220=1:=by kernel_rfl
theorem cells213:Tryz.prog.cellsOf 213=20:=by kernel_rfl
theorem row218 (u:TypeId) (h:Tryz.prog.typeName? 3 u=some "*errors.errorString"):u=218:=
 typeName_ptr_named (nm:= "errors.errorString") (by kernel_rfl) (by kernel_rfl) (by decide) u h
theorem tabs_of_laid {P:Program} {W:World} {name:String} {ls:List (List UInt8)} {rest:List (String×DataW Unit)} {g n:Nat} {t e:TypeId}
 (hg:P.globalNamed name=some g) (hty:(P.globals[g]?).map (·.type)=some t) (ht:P.underlying t=some (.array n e)) (he:P.underlying e=some .string) (hce:P.cellsOf e=1) (hct:P.cellsOf t=n)
 (h:laidMet P ((name,.agg (ls.map fun l=> .lit (.string l)))::rest) W):∃ t fr,W.heap[g]? =some (.cells (tabOf ls) t fr):=by
 obtain ⟨ps,⟨g0,t0,cs0,f0,p0,q0,hg0,ht0,hv0,hd0,_,_⟩,_,_⟩:=h
 obtain rfl:=Option.some.inj (hg.symm.trans hg0)
 obtain rfl:=Option.some.inj (hty.symm.trans ht0)
 obtain ⟨xs,m1,rfl,hx1,hlen,hn,hel⟩:=DataW.trod_array ht hd0
 simp only [Prod.mk.injEq,DataW.agg.injEq] at hx1
 have hll:ls.length=n:=by have:=congrArg List.length hx1.1;simpa [hn] using this
 have hcs:cs0=tabOf ls:=by
  obtain ⟨l0⟩:=cs0
  unfold tabOf
  congr 1
  apply List.ext_getElem?
  intro i
  by_cases hi:i<n
  ·have hxi:i<xs.length:=by omega
   have h0:=hel i hi
   rw [List.getElem?_eq_getElem hxi,hce] at h0
   obtain ⟨s,e1,e2,_⟩:=DataW.trod_string he h0
   have hl:=congrArg (fun l=>l[i]?) hx1.1
   simp only [List.getElem?_map,List.getElem?_eq_getElem hxi,Option.map_some] at hl
   rw [e2] at hl
   obtain ⟨l,hl1,hl2⟩:=Option.map_eq_some_iff.1 hl
   have hl3:l=s.data.toList:=by simpa using hl2
   have hs:(⟨l.toArray⟩:ByteArray)=s:=bytes_inj (by rw [hl3])
   rw [List.getElem?_map,hl1,Option.map_some,hs]
   have e3:=congrArg (fun l=>l[0]?) e1
   simpa using e3
  ·rw [List.getElem?_eq_none (by rw [hct] at hlen;simp at hlen;omega),List.getElem?_eq_none (by simp;omega)]
 subst hcs
 simp only [World.var?,hg,Option.bind_some] at hv0
 split at hv0
 ·rename_i cs t' fr hh
  have:=Option.some.inj hv0
  subst this
  exact ⟨_,_,hh⟩
 ·cases hv0
theorem strs_of_laid {P:Program} {W:World} {name:String} {ls:List (List UInt8)} {rest:List (String×DataW Unit)} {g n:Nat} {t e:TypeId}
 (hg:P.globalNamed name=some g) (hty:(P.globals[g]?).map (·.type)=some t) (ht:P.underlying t=some (.array n e)) (he:P.underlying e=some .string) (hce:P.cellsOf e=1)
 (h:laidMet P ((name,.agg (ls.map fun l=> .lit (.string l)))::rest) W) (i:Nat) (hi:i<n):W.cell? ⟨g,i,none⟩=some (.string ⟨(ls.getD i []).toArray⟩):=by
 obtain ⟨ps,⟨g0,t0,cs0,f0,p0,q0,hg0,ht0,hv0,hd0,_,_⟩,_,_⟩:=h
 obtain rfl:=Option.some.inj (hg.symm.trans hg0)
 obtain rfl:=Option.some.inj (hty.symm.trans ht0)
 obtain ⟨xs,m1,rfl,hx1,hlen,hn,hel⟩:=DataW.trod_array ht hd0
 simp only [Prod.mk.injEq,DataW.agg.injEq] at hx1
 have hxi:i<xs.length:=by omega
 have h0:=hel i hi
 rw [List.getElem?_eq_getElem hxi,hce] at h0
 obtain ⟨s,e1,e2,_⟩:=DataW.trod_string he h0
 have hl:=congrArg (fun l=>l[i]?) hx1.1
 simp only [List.getElem?_map,List.getElem?_eq_getElem hxi,Option.map_some] at hl
 rw [e2] at hl
 obtain ⟨l,hl1,hl2⟩:=Option.map_eq_some_iff.1 hl
 have hl3:l=s.data.toList:=by simpa using hl2
 have hs:s=⟨(ls.getD i []).toArray⟩:=bytes_inj (by rw [List.getD_eq_getElem?_getD,hl1,hl3];simp)
 have hv:=World.var?_cell hg0 hv0 i
 rw [hv,←hs]
 have e3:=congrArg (fun l=>l[0]?) e1
 simpa using e3
theorem good_of {W:World} (h0:laidMetH Tryz.prog Rows.parseExactRow.laid W):Good W∧PowIn W:=by
 have h:laidMet Tryz.prog Rows.parseExactRow.laid W:=by rwa [MakeChecks.laidMetH_plain _ _ _ (by kernel_rfl)] at h0
 have hp:Lib.TabIs Tryz.prog W "internal/strconv.uint64pow10" .u64 Lib.pow10Tab:=Lib.tabIs_of_head gPow6 tPow Tryz.underlying213 Tryz.underlying151 cells151 cells213 h.tail.tail
 obtain ⟨a0,s0,hv0,-,-,-⟩:=laid_sentinel h.tail.tail.tail gRange tRange Tryz.underlying129 row218 Tryz.underlying218 Tryz.underlying220 rfl rfl Tryz.underlying9 cells220 cells9
 have hs:SignsIn W:=strs_of_laid (ls:=signTab) gSigns tSigns Tryz.underlying121 Tryz.underlying9 cells9 h.tail.tail.tail.tail.tail
 have hl:LongsIn W:=tabs_of_laid (ls:=longTab) gLongs tLongs Tryz.underlying183 Tryz.underlying9 cells9 cells183 h.tail.tail.tail.tail.tail.tail
 have hk:KeysIn W:=tabs_of_laid (ls:=keyTab) gKeys tKeys Tryz.underlying150 Tryz.underlying9 cells9 cells150 h.tail.tail.tail.tail.tail.tail.tail
 obtain ⟨ps,⟨g1,t1,cs1,f1,p1,q1,hg1,ht1,hv1,hd1,hrest⟩,_,_⟩:=h.tail
 refine ⟨⟨hs,hk,hl,⟨_,_,hv0⟩,?_⟩,hp⟩
 have g8:Tryz.prog.globalNamed "math/bits.deBruijn64tab" =some 8:=by kernel_rfl
 obtain rfl:=Option.some.inj (g8.symm.trans hg1)
 simp only [World.var?,hg1,Option.bind_some] at hv1
 rcases Nat.lt_or_ge 8 W.heap.size with h'|h'
 ·omega
 ·simp [Array.getElem?_eq_none h'] at hv1
theorem door_met (os:Os) (args:Array Value):laidMetH Tryz.prog Rows.parseExactRow.laid ((World.doorLaid Tryz.prog 77 os).forCall (fun _ _=>0) ⟨#[],args,[]⟩).memory:=
 laidMetH_of_parts3 (fuel:=8) (laidMet_of_run' 8 (by kernel_rfl) (by kernel_rfl)) (by kernel_rfl) (by kernel_rfl)
end Go.Proofs.YtkahbhfbgdbnfaaGreatDoor
