import PyProof.Rows.All
import Wide.All
import OpenK.AllK
import Wide.FinOn
import Lean
import PyProof.EqAt
import PyProof.EqKinds
import PyProof.TupleCall
import PyProof.NsDelKeeps
import PyProof.InstStoreFacts
import KE.KLam
import KE.KRevIter
import PyProof.ZipIter
import KE.KUnpack
import PyProof.Conv_int_bool
import PyProof.CallStr
import KE.KRevSl
import PyProof.NeKinds
import PyProof.AttrMissHeap
import KE.KDictOf
import PySem.Challenge.RW_leadnames_k62_holds_that_are_none
set_option Elab.async false
set_option linter.all false
set_option maxRecDepth 100000
namespace L2
open PySem PySem.W
def pO (tb:String->Option Builtin) (p:Program) (w:World) (n₀:Nat) (ann:Option Value):Nat->SharedT->Thread->Option SharedT
 | 0,_,_=>none
 | n+1,s,t=>match through t with
  | true=>some s
  | false=>match stepOk n₀ ann t with
   | false=>none
   | true=>match stepT (denote tb) p w s t with
    | some (s',t')=>pO tb p w n₀ ann n s' t'
    | none=>none
theorem Kh {tb:String->Option Builtin} {p:Program} {w:World} {n₀:Nat} {ann:Option Value}:∀ {n:Nat} {s s':SharedT} {t:Thread},pO tb p w n₀ ann n s t=some s'->topRun tb p w n₀ ann n s.abs t=some s'.abs
 | 0,_,_,_,h=>by cases h
 | n+1,s,s',t,h=>by
  unfold pO at h;unfold topRun;cases he:through t with
  | true=>rw [he] at h; cases h; rfl
  | false =>
   rw [he] at h;cases hk:stepOk n₀ ann t with
   | false=>rw [hk] at h; cases h
   | true =>
    rw [hk] at h;cases hs:stepT (denote tb) p w s t with
    | none=>rw [hs] at h; cases h
    | some r=>obtain ⟨s₂,t₂⟩:=r; rw [hs] at h; rw [stepT_spec hs]; exact Kh h
def treeOf:List Obj->Nat->BT->BT
 | [],_,t=>t
 | o::r,n,t=>treeOf r (n+1) (t.ins n o)
theorem LeftO.aaL {p q:Program} {loose:List Str} {Xt:Shared->Bool} {α:Type} {Yf:Shared->α} {Ya:World->α} {N:Nat} {g0:Bool} {H₀:Params->Heap} {T₀:Params->BT} {n₀:Nat} {life:Life} {nj:Array GenState} {d₀:Drawn} {k₀:Nat} {ann:Option Value}
  (Es:∀ w:World,(fencedOpening treeTable p w N).map (fun s=>(s.heap,s.gens,s.drawn,s.toks))=some (H₀ w.params,nj,d₀,k₀))
  (tr:∀ P:Params,absHeap (T₀ P) n₀ life=H₀ P)
  (size:∀ P:Params,((H₀ P).isNs mainGlobals && nj.size == 0,(H₀ P).objs.size,(H₀ P).nsMap mainGlobals "__annotations__")=(true,n₀,ann))
  (run:∀ (w:World) (os:OsState),(pO treeTable p w n₀ ann N ⟨T₀ w.params,n₀,life,nj,d₀,k₀,os⟩ (topStub p)).map (fun s=>((staticsOk (importedModules p.main.body) (H₀ w.params) s.abs.heap && namesBound p s.abs.heap && gensDone s.abs && laidKept (H₀ w.params) s.abs.heap),
    openSeen q loose (importedModules p.main.body) Xt g0 s.abs,Yf s.abs))=some (true,openGood q loose,Ya w)):LeftO p q loose Xt Yf Ya N g0:=fun w=>by
 obtain ⟨⟨h,gs,d,k,os⟩,e,e'⟩:=Option.map_eq_some_iff.mp (Es w);obtain ⟨rfl,rfl,rfl,rfl⟩:h=H₀ w.params/\gs=nj/\d=d₀/\k=k₀:=by simpa using e'
 obtain ⟨z1,z2,z3⟩:_/\_/\_:=by simpa only [Prod.mk.injEq] using size w.params
 obtain ⟨s₁,r1,r2⟩:=Option.map_eq_some_iff.mp (run w os);obtain ⟨l1,l2,l3⟩:_/\_/\_:=by simpa only [Prod.mk.injEq] using r2
 have r:=Kh r1;have ea:SharedT.abs ⟨T₀ w.params,n₀,life,gs,d,k,os⟩=⟨H₀ w.params,gs,d,k,os⟩:=by
  unfold SharedT.abs;rw [tr]
 rw [ea] at r;have t:topFrom treeTable p w N ⟨H₀ w.params,gs,d,k,os⟩=some s₁.abs:=by
  unfold topFrom;dsimp only;rw [z1,z2,z3,r];show (match staticsOk (importedModules p.main.body) (H₀ w.params) s₁.abs.heap && namesBound p s₁.abs.heap && gensDone s₁.abs && laidKept (H₀ w.params) s₁.abs.heap with | true=>_ | false=>_)=_;rw [l1]
 unfold openEnds;rw [e];show (topFrom treeTable p w N _).map _=_;rw [t];exact congrArg some (Prod.ext l2 l3)
def eV (ok:Nat->Option Value->Thread->Bool) (st:SharedT->Thread->Option (SharedT×Thread)) (n₀:Nat) (ann:Option Value):Nat->SharedT->Thread->Option SharedT
 | 0,_,_=>none
 | n+1,s,t=>match through t with
  | true=>some s
  | false=>match ok n₀ ann t with
   | false=>none
   | true=>match st s t with
    | some (s',t')=>eV ok st n₀ ann n s' t'
    | none=>none
theorem K9 {tb:String->Option Builtin} {p:Program} {w:World} {n₀:Nat} {ann:Option Value}:∀ (n:Nat) (s:SharedT) (t:Thread),eV stepOk (stepT (denote tb) p w) n₀ ann n s t=pO tb p w n₀ ann n s t
 | 0,_,_=>rfl
 | n+1,s,t=>by
  unfold eV pO;cases through t with
  | true=>rfl
  | false =>
   cases stepOk n₀ ann t with
   | false=>rfl
   | true =>
    cases stepT (denote tb) p w s t with
    | none=>rfl
    | some r=>exact K9 n r.1 r.2
theorem LeftO.V7 {p q:Program} {loose:List Str} {Xt:Shared->Bool} {α:Type} {Yf:Shared->α} {Ya:World->α} {N:Nat} {g0:Bool} {H₀:Params->Heap} {T₀:Params->BT} {n₀:Nat} {life:Life} {nj:Array GenState} {d₀:Drawn} {k₀:Nat} {ann:Option Value}
  {ok:Nat->Option Value->Thread->Bool} {st:(Code->Sem Fin)->Program->World->SharedT->Thread->Option (SharedT×Thread)} {den:(String->Option Builtin)->Code->Sem Fin} {tb:String->Option Builtin}
  (e1:stepOk=ok) (e2:stepT=st) (e3:denote=den) (e4:treeTable=tb)
  (Es:∀ w:World,(fencedOpening treeTable p w N).map (fun s=>(s.heap,s.gens,s.drawn,s.toks))=some (H₀ w.params,nj,d₀,k₀))
  (tr:∀ P:Params,absHeap (T₀ P) n₀ life=H₀ P)
  (size:∀ P:Params,((H₀ P).isNs mainGlobals && nj.size == 0,(H₀ P).objs.size,(H₀ P).nsMap mainGlobals "__annotations__")=(true,n₀,ann))
  (run:∀ (w:World) (os:OsState),(eV ok (st (den tb) p w) n₀ ann N ⟨T₀ w.params,n₀,life,nj,d₀,k₀,os⟩ (topStub p)).map (fun s=>((staticsOk (importedModules p.main.body) (H₀ w.params) s.abs.heap && namesBound p s.abs.heap && gensDone s.abs && laidKept (H₀ w.params) s.abs.heap),
    openSeen q loose (importedModules p.main.body) Xt g0 s.abs,Yf s.abs))=some (true,openGood q loose,Ya w)):LeftO p q loose Xt Yf Ya N g0:=by
 subst e1 e2 e3 e4;refine LeftO.aaL Es tr size fun w os=>?_;rw [<- K9];exact run w os
noncomputable def fW (P:Params):BT:=treeOf (boot_heap P).objs.toList 0 .nil
end L2

namespace L2
open PySem PySem.W PyProof.Rows
theorem SE {α β γ:Type} {o:Option α} {F:α->β×γ} {G:β×γ} (h1:o.map (fun s=>(F s).1)=some G.1) (h2:o.map (fun s=>(F s).2)=some G.2):o.map F=some G:=by
 cases o with
 | none=>cases h1
 | some a=>injection h1 with h1; injection h2 with h2; exact congrArg some (Prod.ext h1 h2)
theorem atS {α β:Type} {o:Option α} {s:α} {f:α->β} {g:β} (hs:o=some s) (h:o.map f=some g):f s=g:=by
 subst hs; exact Option.some.inj h
theorem jU {α β:Type} {a b:α} {c d:β} (h:a=b) (k:c=d):(a,c)=(b,d):=by rw [h,k]
def F0 (p:Program) (H₀:Heap) (s:SharedT):Bool:=staticsOk (importedModules p.main.body) H₀ s.abs.heap && namesBound p s.abs.heap && gensDone s.abs && laidKept H₀ s.abs.heap
def F3 (p q:Program) (loose:List Str) (Xt:Shared->Bool) (g0:Bool) (s:SharedT):Bool:=s.abs.heap.keysOk (looseW q loose) ((recsOf q).map (·.name)) ((litsOf q).map (·.1)) ((clssOf q (looseW q loose)).map (·.name)) && s.abs.heap.accountedOkI (importedModules p.main.body) && s.abs.heap.isNs mainGlobals && s.abs.heap.isNs builtinsNs && tablesOk q s.abs.heap && Xt s.abs && (if g0 then s.abs.gens.size == 0 else !leftWithCleanup s.abs.gens)
def F1 (q:Program) (s:SharedT):=seen ((recsOf q).map (·.name)) (ownsOf q) [] { s.abs with gens:=#[] }
theorem ac4 {p q:Program} {loose:List Str} {Xt:Shared->Bool} {α:Type} {Yf:Shared->α} {Ya:World->α} {g0:Bool} {H₀:Heap} {o:Option SharedT} {w:World}
  (q0:o.map (F0 p H₀)=some true) (q1:o.map (F1 q)=some (expectedOf q)) (q2:o.map (fun s:SharedT=>s.abs.heap.bltView)=some bltViewBooted)
  (q3:o.map (F3 p q loose Xt g0)=some true) (q4:o.map (fun s:SharedT=>tabsOk q s.abs)=some true) (q5:o.map (fun s:SharedT=>pinSeenD q (drecsOf q) s.abs)=some (pinGoodD (drecsOf q)))
  (q6:o.map (fun s:SharedT=>plainSeenE q (looseW q loose) s.abs)=some (plainGoodE q (looseW q loose))) (q7:o.map (fun s:SharedT=>plainSeenD q loose s.abs)=some (plainGoodD q loose))
  (q8:o.map (fun s:SharedT=>wideSeen q s.abs)=some (wideGood q)) (q9:o.map (fun s:SharedT=>clsSeenW q loose s.abs)=some (clsGoodW q loose))
  (pV:o.map (fun s:SharedT=>Yf s.abs)=some (Ya w)) :
  o.map (fun s:SharedT=>(F0 p H₀ s,openSeen q loose (importedModules p.main.body) Xt g0 s.abs,Yf s.abs))=some (true,openGood q loose,Ya w):=by
 obtain ⟨s,hs,a0⟩:=Option.map_eq_some_iff.mp q0;have a1:=atS hs q1;have a2:=atS hs q2;have a3:=atS hs q3;have a4:=atS hs q4;have a5:=atS hs q5;have a6:=atS hs q6;have a7:=atS hs q7;have a8:=atS hs q8;have a9:=atS hs q9;have a10:=atS hs pV;clear q0 q1 q2 q3 q4 q5 q6 q7 q8 q9 pV;subst hs;show some _=some _;refine congrArg some (jU a0 (jU ?_ a10));unfold openSeen openGood;exact jU a1 (jU a2 (jU a3 (jU a4 (jU a5 (jU a6 (jU a7 (jU a8 a9)))))))
theorem se {α β γ:Type} {o:Option α} {f:α->β} {g:α->γ} {b:β} {c:γ} (h:o.map (fun s=>(f s,g s))=some (b,c)):o.map f=some b:=by
 cases o with
 | none=>cases h
 | some a=>injection h with h; exact congrArg some (congrArg Prod.fst h)
theorem gf {α β γ:Type} {o:Option α} {f:α->β} {g:α->γ} {b:β} {c:γ} (h:o.map (fun s=>(f s,g s))=some (b,c)):o.map g=some c:=by
 cases o with
 | none=>cases h
 | some a=>injection h with h; exact congrArg some (congrArg Prod.snd h)
theorem sP {α β γ:Type} {o:Option α} {l:List β} {f:α->β->γ} {g:β->γ} (n:Nat) (h1:o.map (fun s=>(l.take n).map (f s))=some ((l.take n).map g)) (h2:o.map (fun s=>(l.drop n).map (f s))=some ((l.drop n).map g)):o.map (fun s=>l.map (f s))=some (l.map g):=by
 cases o with
 | none=>cases h1
 | some a =>
  injection h1 with h1;injection h2 with h2;refine congrArg some ?_;show l.map (f a)=l.map g;rw [<- List.take_append_drop n l,List.map_append,List.map_append];exact congr (congrArg _ h1) h2
theorem UO {K:Params->Frag} {as:List Addr} {e:∀ P,as=(K P).map (·.1)} {ts:List Addr} {o:Option SharedT} {w:World} (h:o.map (fun s=>(K w.params).map fun p=>s.abs.heap.get? p.1)=some ((K w.params).map fun p=>some p.2)) (ht:o.map (fun s=>ts.map s.abs.heap.get?)=some (ts.map fun _=>some (tabObj #[]))) :
  o.map (fun s=>(kmHook K as e ts).obs s.abs)=some ((kmHook K as e ts).val w):=by
 refine SE (F:=fun s:SharedT=>(kmHook K as e ts).obs s.abs) (G:=(kmHook K as e ts).val w) ?_ ht;show o.map (fun s:SharedT=>as.map s.abs.heap.get?)=some ((K w.params).map fun p=>some p.2);rw [e w.params];simp only [List.map_map];exact h
end L2

section
open PySem PySem.W PyProof.Rows
namespace L2.bS
theorem sa:(Challenge.rw_leadnames_k62_holds_that_are_none).row.wellSaid=true:=by kernel_rfl
theorem JT:(Challenge.rw_leadnames_k62_holds_that_are_none).wellSaid=true:=by
 unfold OpenLaw.wellSaid
 iterate 18 refine look_both ?_ ?_
 ·exact sa
 all_goals kernel_rfl
noncomputable def QV:Program:=view (Challenge.rw_leadnames_k62_holds_that_are_none).prog [0,2,3,4,5,6,7,8,9,10,11,12,13,15,16,17,18,20,21,22,23,24,25,26,27,28,29,30,31,32,33,34,35,36,38,39,40,41,43,44,45,46,47,48,49,50,51,52,55,56,57,58,59,60,61,62,63,64,65,66,67,70,71,72,73,74,75,76,77,78,80,81,83,84,85,86,87,88,89,90,91]
theorem dC:∀ w:World,(fencedOpening treeTable (Challenge.rw_leadnames_k62_holds_that_are_none).prog w 17072).map (fun s=>(s.heap,s.gens,s.drawn,s.toks))=some (boot_heap w.params,Array.mk [],boot_drawn,boot_toks):=boot_open rfl rfl (fun _=>rfl)
theorem cY:∀ P:Params,absHeap (L2.fW P) 11 {}=boot_heap P:=by intro P; kernel_rfl
theorem jT:∀ P:Params,((boot_heap P).isNs mainGlobals && (Array.mk ([]:List GenState)).size == 0,(boot_heap P).objs.size,(boot_heap P).nsMap mainGlobals "__annotations__")=(true,11,some (.ref 6)):=by intro P; kernel_rfl
set_option maxHeartbeats 0
theorem qL (w:World) (os:OsState):((eV Fast.tw6613529449190102663 (Fast.tw10156331382660048174 (Fast.tw11892475500146522536 Fast.tw14364793385576792824) (Challenge.rw_leadnames_k62_holds_that_are_none).prog w) 11 (some (.ref 6)) 17072 ⟨L2.fW w.params,11,{},Array.mk [],boot_drawn,boot_toks,os⟩ (topStub (Challenge.rw_leadnames_k62_holds_that_are_none).prog))).map (fun s=>(((staticsOk (importedModules (Challenge.rw_leadnames_k62_holds_that_are_none).prog.main.body) (boot_heap w.params) s.abs.heap && namesBound (Challenge.rw_leadnames_k62_holds_that_are_none).prog s.abs.heap && gensDone s.abs && laidKept (boot_heap w.params) s.abs.heap)),s.abs.heap.bltView,pinSeenD QV (drecsOf QV) s.abs,plainSeenD QV [PySem.Str.ofString "walk",PySem.Str.ofString "make_file"] s.abs,clsSeenW QV [PySem.Str.ofString "walk",PySem.Str.ofString "make_file"] s.abs,[1102,1095,1090].map s.abs.heap.get?))=some ((true,bltViewBooted,pinGoodD (drecsOf QV),plainGoodD QV [PySem.Str.ofString "walk",PySem.Str.ofString "make_file"],clsGoodW QV [PySem.Str.ofString "walk",PySem.Str.ofString "make_file"],[1102,1095,1090].map fun _=>some (tabObj #[]))):=by kernel_rfl
theorem ZF (w:World) (os:OsState):((eV Fast.tw6613529449190102663 (Fast.tw10156331382660048174 (Fast.tw11892475500146522536 Fast.tw14364793385576792824) (Challenge.rw_leadnames_k62_holds_that_are_none).prog w) 11 (some (.ref 6)) 17072 ⟨L2.fW w.params,11,{},Array.mk [],boot_drawn,boot_toks,os⟩ (topStub (Challenge.rw_leadnames_k62_holds_that_are_none).prog))).map (fun s=>seen ((recsOf QV).map (·.name)) (ownsOf QV) [] { s.abs with gens:=#[] })=some (expectedOf QV):=by kernel_rfl
theorem Vg (w:World) (os:OsState):((eV Fast.tw6613529449190102663 (Fast.tw10156331382660048174 (Fast.tw11892475500146522536 Fast.tw14364793385576792824) (Challenge.rw_leadnames_k62_holds_that_are_none).prog w) 11 (some (.ref 6)) 17072 ⟨L2.fW w.params,11,{},Array.mk [],boot_drawn,boot_toks,os⟩ (topStub (Challenge.rw_leadnames_k62_holds_that_are_none).prog))).map (fun s=>wideSeen QV s.abs)=some (wideGood QV):=by kernel_rfl
theorem q3 (w:World) (os:OsState):((eV Fast.tw6613529449190102663 (Fast.tw10156331382660048174 (Fast.tw11892475500146522536 Fast.tw14364793385576792824) (Challenge.rw_leadnames_k62_holds_that_are_none).prog w) 11 (some (.ref 6)) 17072 ⟨L2.fW w.params,11,{},Array.mk [],boot_drawn,boot_toks,os⟩ (topStub (Challenge.rw_leadnames_k62_holds_that_are_none).prog))).map (fun s=>(s.abs.heap.keysOk (looseW QV [PySem.Str.ofString "walk",PySem.Str.ofString "make_file"]) ((recsOf QV).map (·.name)) ((litsOf QV).map (·.1)) ((clssOf QV (looseW QV [PySem.Str.ofString "walk",PySem.Str.ofString "make_file"])).map (·.name)) && s.abs.heap.accountedOkI (importedModules (Challenge.rw_leadnames_k62_holds_that_are_none).prog.main.body) && s.abs.heap.isNs mainGlobals && s.abs.heap.isNs builtinsNs && tablesOk QV s.abs.heap && (fun s=>xlAt QV [] s && recOk (RowW.records (OpenRow.toRowW (Challenge.rw_leadnames_k62_holds_that_are_none).row)) s) s.abs && (if true then s.abs.gens.size == 0 else !leftWithCleanup s.abs.gens)))=some (true):=by kernel_rfl
theorem q4 (w:World) (os:OsState):((eV Fast.tw6613529449190102663 (Fast.tw10156331382660048174 (Fast.tw11892475500146522536 Fast.tw14364793385576792824) (Challenge.rw_leadnames_k62_holds_that_are_none).prog w) 11 (some (.ref 6)) 17072 ⟨L2.fW w.params,11,{},Array.mk [],boot_drawn,boot_toks,os⟩ (topStub (Challenge.rw_leadnames_k62_holds_that_are_none).prog))).map (fun s=>tabsOk QV s.abs)=some (true):=by kernel_rfl
theorem Sx (w:World) (os:OsState):((eV Fast.tw6613529449190102663 (Fast.tw10156331382660048174 (Fast.tw11892475500146522536 Fast.tw14364793385576792824) (Challenge.rw_leadnames_k62_holds_that_are_none).prog w) 11 (some (.ref 6)) 17072 ⟨L2.fW w.params,11,{},Array.mk [],boot_drawn,boot_toks,os⟩ (topStub (Challenge.rw_leadnames_k62_holds_that_are_none).prog))).map (fun s=>(((plainsOf QV (looseW QV [PySem.Str.ofString "walk",PySem.Str.ofString "make_file"])).take 8).take 4).map fun c=>s.abs.heap.plainShapeAt c.withCmp)=some ((((plainsOf QV (looseW QV [PySem.Str.ofString "walk",PySem.Str.ofString "make_file"])).take 8).take 4).map fun c=>some c.withCmp.plainShape):=by kernel_rfl
theorem q6y (w:World) (os:OsState):((eV Fast.tw6613529449190102663 (Fast.tw10156331382660048174 (Fast.tw11892475500146522536 Fast.tw14364793385576792824) (Challenge.rw_leadnames_k62_holds_that_are_none).prog w) 11 (some (.ref 6)) 17072 ⟨L2.fW w.params,11,{},Array.mk [],boot_drawn,boot_toks,os⟩ (topStub (Challenge.rw_leadnames_k62_holds_that_are_none).prog))).map (fun s=>(((plainsOf QV (looseW QV [PySem.Str.ofString "walk",PySem.Str.ofString "make_file"])).take 8).drop 4).map fun c=>s.abs.heap.plainShapeAt c.withCmp)=some ((((plainsOf QV (looseW QV [PySem.Str.ofString "walk",PySem.Str.ofString "make_file"])).take 8).drop 4).map fun c=>some c.withCmp.plainShape):=by kernel_rfl
theorem XE (w:World) (os:OsState):((eV Fast.tw6613529449190102663 (Fast.tw10156331382660048174 (Fast.tw11892475500146522536 Fast.tw14364793385576792824) (Challenge.rw_leadnames_k62_holds_that_are_none).prog w) 11 (some (.ref 6)) 17072 ⟨L2.fW w.params,11,{},Array.mk [],boot_drawn,boot_toks,os⟩ (topStub (Challenge.rw_leadnames_k62_holds_that_are_none).prog))).map (fun s=>((plainsOf QV (looseW QV [PySem.Str.ofString "walk",PySem.Str.ofString "make_file"])).take 8).map fun c=>s.abs.heap.plainShapeAt c.withCmp)=some (((plainsOf QV (looseW QV [PySem.Str.ofString "walk",PySem.Str.ofString "make_file"])).take 8).map fun c=>some c.withCmp.plainShape):=L2.sP 4 (Sx w os) (q6y w os)
theorem TY (w:World) (os:OsState):((eV Fast.tw6613529449190102663 (Fast.tw10156331382660048174 (Fast.tw11892475500146522536 Fast.tw14364793385576792824) (Challenge.rw_leadnames_k62_holds_that_are_none).prog w) 11 (some (.ref 6)) 17072 ⟨L2.fW w.params,11,{},Array.mk [],boot_drawn,boot_toks,os⟩ (topStub (Challenge.rw_leadnames_k62_holds_that_are_none).prog))).map (fun s=>((plainsOf QV (looseW QV [PySem.Str.ofString "walk",PySem.Str.ofString "make_file"])).drop 8).map fun c=>s.abs.heap.plainShapeAt c.withCmp)=some (((plainsOf QV (looseW QV [PySem.Str.ofString "walk",PySem.Str.ofString "make_file"])).drop 8).map fun c=>some c.withCmp.plainShape):=by kernel_rfl
theorem q6 (w:World) (os:OsState):((eV Fast.tw6613529449190102663 (Fast.tw10156331382660048174 (Fast.tw11892475500146522536 Fast.tw14364793385576792824) (Challenge.rw_leadnames_k62_holds_that_are_none).prog w) 11 (some (.ref 6)) 17072 ⟨L2.fW w.params,11,{},Array.mk [],boot_drawn,boot_toks,os⟩ (topStub (Challenge.rw_leadnames_k62_holds_that_are_none).prog))).map (fun s=>plainSeenE QV (looseW QV [PySem.Str.ofString "walk",PySem.Str.ofString "make_file"]) s.abs)=some (plainGoodE QV (looseW QV [PySem.Str.ofString "walk",PySem.Str.ofString "make_file"])):=L2.sP 8 (XE w os) (TY w os)
end L2.bS
end
section
open PySem PySem.W PyProof.Rows
local macro_rules | `(tactic| o_head $H)=>`(tactic| (refine (by assumption:∀ h':PySem.W.Hook,h'=_->PySem.W.OpenRow.Holds _) $H ?_; rfl))
set_option maxHeartbeats 0 in
noncomputable def L2.bS.fC:(h:Hook) ×' ((∀ h':Hook,h'=h->(Challenge.rw_leadnames_k62_holds_that_are_none).row.Holds)->(Challenge.rw_leadnames_k62_holds_that_are_none).row.Holds):=by
 refine' ⟨_,fun x=>_⟩
 rotate_left
 k_head
end
section
open PySem PySem.W PyProof.Rows
namespace L2.bS
set_option maxHeartbeats 0
theorem ya (w:World) (os:OsState):((eV Fast.tw6613529449190102663 (Fast.tw10156331382660048174 (Fast.tw11892475500146522536 Fast.tw14364793385576792824) (Challenge.rw_leadnames_k62_holds_that_are_none).prog w) 11 (some (.ref 6)) 17072 ⟨L2.fW w.params,11,{},Array.mk [],boot_drawn,boot_toks,os⟩ (topStub (Challenge.rw_leadnames_k62_holds_that_are_none).prog))).map (fun s=>(((fC.heap_1 w.params).take 340).take 170).map fun p=>s.abs.heap.get? p.1)=some ((((fC.heap_1 w.params).take 340).take 170).map fun p=>some p.2):=by kernel_rfl
theorem yb (w:World) (os:OsState):((eV Fast.tw6613529449190102663 (Fast.tw10156331382660048174 (Fast.tw11892475500146522536 Fast.tw14364793385576792824) (Challenge.rw_leadnames_k62_holds_that_are_none).prog w) 11 (some (.ref 6)) 17072 ⟨L2.fW w.params,11,{},Array.mk [],boot_drawn,boot_toks,os⟩ (topStub (Challenge.rw_leadnames_k62_holds_that_are_none).prog))).map (fun s=>(((fC.heap_1 w.params).take 340).drop 170).map fun p=>s.abs.heap.get? p.1)=some ((((fC.heap_1 w.params).take 340).drop 170).map fun p=>some p.2):=by kernel_rfl
theorem yc (w:World) (os:OsState):((eV Fast.tw6613529449190102663 (Fast.tw10156331382660048174 (Fast.tw11892475500146522536 Fast.tw14364793385576792824) (Challenge.rw_leadnames_k62_holds_that_are_none).prog w) 11 (some (.ref 6)) 17072 ⟨L2.fW w.params,11,{},Array.mk [],boot_drawn,boot_toks,os⟩ (topStub (Challenge.rw_leadnames_k62_holds_that_are_none).prog))).map (fun s=>(((fC.heap_1 w.params).drop 340).take 170).map fun p=>s.abs.heap.get? p.1)=some ((((fC.heap_1 w.params).drop 340).take 170).map fun p=>some p.2):=by kernel_rfl
theorem yd (w:World) (os:OsState):((eV Fast.tw6613529449190102663 (Fast.tw10156331382660048174 (Fast.tw11892475500146522536 Fast.tw14364793385576792824) (Challenge.rw_leadnames_k62_holds_that_are_none).prog w) 11 (some (.ref 6)) 17072 ⟨L2.fW w.params,11,{},Array.mk [],boot_drawn,boot_toks,os⟩ (topStub (Challenge.rw_leadnames_k62_holds_that_are_none).prog))).map (fun s=>(((fC.heap_1 w.params).drop 340).drop 170).map fun p=>s.abs.heap.get? p.1)=some ((((fC.heap_1 w.params).drop 340).drop 170).map fun p=>some p.2):=by kernel_rfl
theorem pV (w:World) (os:OsState):((eV Fast.tw6613529449190102663 (Fast.tw10156331382660048174 (Fast.tw11892475500146522536 Fast.tw14364793385576792824) (Challenge.rw_leadnames_k62_holds_that_are_none).prog w) 11 (some (.ref 6)) 17072 ⟨L2.fW w.params,11,{},Array.mk [],boot_drawn,boot_toks,os⟩ (topStub (Challenge.rw_leadnames_k62_holds_that_are_none).prog))).map (fun s=>Hook.obs fC.1 s.abs)=some (Hook.val fC.1 w) :=
 L2.UO (K:=fC.heap_1) (e:=fun _=>by kernel_rfl) (L2.sP 340 (L2.sP 170 (ya w os) (yb w os)) (L2.sP 170 (yc w os) (yd w os))) (L2.gf (L2.gf (L2.gf (L2.gf (L2.gf (qL w os))))))
end L2.bS
local macro_rules | `(tactic| o_law)=>`(tactic| refine PySem.W.holds_law L2.bS.JT fun JT=>?_)
local macro_rules | `(tactic| k_head)=>`(tactic| (
 refine holds_open (q:=L2.bS.QV) (loose:=[PySem.Str.ofString "walk",PySem.Str.ofString "make_file"]) (Xt:=fun s=>xlAt L2.bS.QV [] s && recOk (RowW.records (OpenRow.toRowW (Challenge.rw_leadnames_k62_holds_that_are_none).row)) s) (XP:=XL L2.bS.QV []) (Yf:=Hook.obs L2.bS.fC.1) (Ya:=Hook.val L2.bS.fC.1) (YP:=Hook.says L2.bS.fC.1) (N:=17072) ?hl (Hook.of L2.bS.fC.1) (Hook.keeps L2.bS.fC.1) (fun s e=>xl_of s (Bool.and_eq_true_iff.mp e).1) XL.keeps (by rfl) (by rfl) (by rfl) (fun s e=>recFacts_of (Bool.and_eq_true_iff.mp e).2) (by rfl) (by first | assumption | decide +kernel) (by decide +kernel) ⟨rfl,rfl,rfl,rfl,rfl,by decide +kernel⟩ ?hw ?hc
 case hl =>
  refine L2.LeftO.V7 Fast.te6613529449190102663 Fast.te10156331382660048174 Fast.te11892475500146522536 Fast.te14364793385576792824 L2.bS.dC L2.bS.cY L2.bS.jT (fun w os=>?_);exact L2.ac4 (L2.se (L2.bS.qL w os)) (L2.bS.ZF w os) (L2.se (L2.gf (L2.bS.qL w os))) (L2.bS.q3 w os) (L2.bS.q4 w os) (L2.se (L2.gf (L2.gf (L2.bS.qL w os)))) (L2.bS.q6 w os) (L2.se (L2.gf (L2.gf (L2.gf (L2.bS.qL w os))))) (L2.bS.Vg w os) (L2.se (L2.gf (L2.gf (L2.gf (L2.gf (L2.bS.qL w os)))))) (L2.bS.pV w os)))
set_option maxHeartbeats 0 in
open_top L2.bS.hd0 for PySem.Challenge.rw_leadnames_k62_holds_that_are_none
end
namespace L2
abbrev ν:=PySem.W.Frag
end L2

namespace L2
open PySem PySem.Spec PyProof.Rows
def li:=@wpAny_bind
def lv:=@List.mem_cons
def mo:=@List.not_mem_nil
def pc:=@Heap.get?_push_of_some
def pi:=@decide_eq_false
def pp:=@Ne.symm
def ss:=@List.length_map
def sw:=@wpAny_pure
def sB:=@List.size_toArray
def sK:=@Nat.le_refl
def tz:=@decide_eq_true
def ul:=@List.getElem?_eq_some_iff
def ut:=@List.getElem?_eq_getElem
def u8:=@Heap.lt_size
def wf:=@List.mem_singleton
def wl:=@Nat.le_trans
def wn:=@Heap.get?_push_size
def ww:=@Bool.false_ne_true
def wE:=@Nat.lt_of_lt_of_le
def wP:=@or_false
def wS:=@List.mem_append_right
def wT:=@List.map_cons
def xz:=@List.length_append
def xL:=@if_neg
def zn:=@Nat.ne_of_lt
def At:=@if_pos
def AC:=@Bool.and_eq_true
def AT:=@PySem.F.slot_list_append
def Ch:=@PySem.F.type_list_append
def Cl:=@List.mem_map
def Da:=@Nat.zero_le
def Db:=@List.mem_cons_of_mem
def Do:=@List.nodup_cons
def Ev:=@List.getElem?_map
def EQ:=@beq_eq_false_iff_ne
def Fa:=@Option.some.inj
def Fk:=@PySem.mem_of_lookup
def Fr:=@List.map_append
def FB:=@List.length_cons
def FM:=@wpAny_Call_Name_kw
def FS:=@List.getElem?_append_right
def Gc:=@List.getElem?_append_left
def Go:=@List.mem_append
def GE:=@W.looks_findIn
def GM:=@Heap.get?_update_other
def GT:=@List.nodup_append
def Id:=@Nat.lt_irrefl
def Ix:=@Bool.false_eq_true
def IN:=@List.map_nil
def IO:=@W.kia_one
def IR:=@wpAny_mono
def KB:=@wpAny_holding
def KK:=@List.all_cons
def KM:=@Nat.lt_succ_self
def LE:=@List.all_eq_true
def LT:=@List.mem_cons_self
def No:=@List.getElem?_set_ne
def NE:=@List.mem_of_getElem?
def On:=@List.getElem?_set_self
def Op:=@wpAny_truthy_bool
def Os:=@List.eq_nil_of_length_eq_zero
def Pi:=@List.length_filter_le
def Ps:=@PySem.boot_len
def PP:=@List.find?_cons
def P3:=@congrArg
def Re:=@List.map_map
def Rs:=@Array.length_toList
def Sc:=@Heap.get?_update_self
def SC:=@Array.getElem?_toList
def SL:=@Calls.spliced_cons
def ST:=@W.callWith_K
def SZ:=@Heap.get?_none_of_le
def Tk:=@Calls.spliced_nil
def Tm:=@List.length_eq_zero_iff
def Ty:=@List.flatMap_cons
def TD:=@call_meets
def TW:=@PyProof.Rows.callWith_type1
def T0:=@Option.map_eq_some_iff
def Uf:=@Calls.callWith_builtin
def UF:=@List.take_of_length_le
def UV:=@not_or
def Wp:=@List.any_cons
def WF:=@beq_iff_eq
def WP:=@wpAny_call
def W1:=@List.mem_filter
def XV:=@wpAny_passesOwn
def ZB:=@Bool.eq_iff_iff
def _a:=@List.mem_append_left
def _b:=@codeAny_mono
def _c:=@if_false
def _d:=@Calls.evalArgs_plain
def _e:=@codeAny_call_builtin
def _f:=@List.filterMap_cons
def _g:=@List.replicate_succ
def _h:=@List.getElem_of_mem
def _i:=@W.looks_mroIn
def _j:=@wpAny_loadPart
def _k:=@W.Looks.ld
def _l:=@PySem.F.attr_ValueError
def _m:=@wpAny_typeNameOfWhole_keyiter
def _n:=@tupleKind_room_in1
def _o:=@Nat.lt_of_le_of_lt
def _p:=@F.slot_dict_keyiterator_next
def _q:=@PassesOwn.never
def _r:=@decide_eq_true_eq
def _s:=@wpAny_newObj_type
def _t:=@Heap.size_push
def _u:=@typeIs_str
def _v:=@List.getD_eq_getElem?_getD
def _w:=@PySem.F.excBase_ValueError
def _x:=@List.length_take
def _y:=@List.getElem_mem
def _z:=@F.plain_min_loop
def _A:=@List.any_eq_true
def _B:=@List.getElem?_zip_eq_some
def _C:=@Bool.not_true
def _D:=@wpAny_comprehension_free
def _E:=@wpAny_execs_nil
def _F:=@List.length_nil
def _G:=@Int.emod_nonneg
def _H:=@List.mem_filterMap
def _I:=@List.filter_append
def _J:=@Int.emod_lt_of_pos
def _K:=@PySem.F.slot_list_index
def _L:=@Int.eq_ofNat_of_zero_le
def _M:=@W.cellsFrom_some
def _N:=@List.flatten_cons
def _O:=@List.append_assoc
def _P:=@Option.isSome_map
def _Q:=@List.nodup_nil
def _R:=@not_false_eq_true
def _S:=@W.methodCall_KW
def _T:=@PySem.F.slot_dict_get
def _U:=@List.getElem?_eq_none
def _V:=@List.mem_iff_getElem?
def _W:=@List.getElem_map
def _X:=@wpAny_standAt
def _Y:=@sizeLine_eq
def _Z:=@Around.under_plainId
def _0:=@Array.toArray_toList
def _1:=@List.append_nil
def _2:=@List.of_mem_zip
def _3:=@codeAny_builtin
def _4:=@wpAny_ite_split
def _5:=@W.hideAll_get
def _6:=@W.plainGet_of
def _7:=@ne_true_of_eq_false
def _8:=@List.length_reverse
def _9:=@List.mem_map_of_mem
def Ja0:=@Nat.le_of_lt
def Ja1:=@Nat.ne_of_gt
def Ja2:=@if_true
def Ja3:=@W.of_hideAll
def Ja4:=@List.mem_range
def Ja5:=@Bool.false_and
def Ja6:=@F.args_str_split_2
def Ja7:=@SeqAt.RcNeAt.lists
def Ja8:=@Obj.data_mapFields
def Ja9:=@Code.quiet_builtin
def Jaa:=@wpAny_seqItems
def Jab:=@List.pairwise_cons
def Jac:=@Bool.or_false
def Jad:=@wpAny_attempt
def Jae:=@Prod.mk.injEq
abbrev Key:=Sum Int Str
def mm:Key->Value->Bool
 | .inl k,v=>Value.isInt k v
 | .inr x,v=>Value.isStrOf x v
def OF (w:World):Key->Int
 | .inl k=>hashInt k
 | .inr x=>hashStr w x
def jh:∀ {k:Key} {v:Value},mm k v=true->(∃ i t,k=Sum.inl i/\v=Value.int i t)\/(∃ x t,k=Sum.inr x/\v=Value.str x t)
 | .inl i,v,h=>by
  obtain ⟨t,e⟩:=Value.isInt_shape (k:=i) (v:=v) h;exact .inl ⟨i,t,rfl,e⟩
 | .inr x,v,h=>by
  obtain ⟨t,e⟩:=Value.isStrOf_shape (x:=x) (v:=v) h;exact .inr ⟨x,t,rfl,e⟩
def OK (i:Int) (t:Tok):mm (.inl i) (.int i t)=true:=by simp [mm,Value.isInt]
def Tw (x:Str) (t:Tok):mm (.inr x) (.str x t)=true:=by simp [mm,Value.isStrOf]
def Um (a b:Int):decide ((Sum.inl a:Key)=Sum.inl b)=(a == b):=by
 by_cases e:a=b
 ·subst e;simp
 ·have h:¬ (Sum.inl a:Key)=Sum.inl b:=fun q=>e (Sum.inl.inj q);rw [pi h];exact (EQ.mpr e).symm
def YH (a b:Str):decide ((Sum.inr a:Key)=Sum.inr b)=decide (a=b):=by
 by_cases e:a=b
 ·subst e;simp
 ·have h:¬ (Sum.inr a:Key)=Sum.inr b:=fun q=>e (Sum.inr.inj q);rw [pi h,pi e]
def OY (a:Int) (b:Str):decide ((Sum.inl a:Key)=Sum.inr b)=false:=pi (fun q=>nomatch q)
def QX (a:Str) (b:Int):decide ((Sum.inr a:Key)=Sum.inl b)=false:=pi (fun q=>nomatch q)
def dI (prog:Program) (w:World):PySem.KeyKind prog w Key where
 is:=mm
 hash:=OF w
 inj:=fun v a b ha hb=>by
  rcases jh ha with ⟨i,t,rfl,rfl⟩ | ⟨x,t,rfl,rfl⟩
  ·rcases jh hb with ⟨j,u,rfl,e⟩ | ⟨y,u,rfl,e⟩
   ·injection e with e1 _;rw [e1]
   ·exact nomatch e
  ·rcases jh hb with ⟨j,u,rfl,e⟩ | ⟨y,u,rfl,e⟩
   ·exact nomatch e
   ·injection e with e1 _;rw [e1]
 byValue:=fun k v h=>by
  rcases jh h with ⟨i,t,rfl,rfl⟩ | ⟨x,t,rfl,rfl⟩ <;> rfl
 pyHash:=fun hv h=>by
  rcases jh hv with ⟨i,t,rfl,rfl⟩ | ⟨x,t,rfl,rfl⟩
  ·exact wpAny_pyHash_int h
  ·exact wpAny_pyHash_str h
 eqBool:=fun hu hv h=>by
  rcases jh hu with ⟨i,t,rfl,rfl⟩ | ⟨x,t,rfl,rfl⟩
  ·rcases jh hv with ⟨j,u,rfl,rfl⟩ | ⟨y,u,rfl,rfl⟩
   ·rw [Um] at h;exact wpAny_eqBool_int h
   ·rw [OY] at h;exact SeqAt.EqAt.int_str i t y u _ _ _ _ h
  ·rcases jh hv with ⟨j,u,rfl,rfl⟩ | ⟨y,u,rfl,rfl⟩
   ·rw [QX] at h;exact SeqAt.EqAt.str_int x t j u _ _ _ _ h
   ·rw [YH] at h;exact wpAny_eqBool_str h
 «strs»:=fun k x t v h=>by
  rcases jh h with ⟨i,u,rfl,e⟩ | ⟨y,u,rfl,e⟩
  ·exact nomatch e
  ·injection e with e1 _;subst e1;cases v <;> rfl
def acE (prog:Program) (w:World) (i:Int) (t:Tok):(dI prog w).is (.inl i) (.int i t)=true:=OK i t
def OV (prog:Program) (w:World) (x:Str) (t:Tok):(dI prog w).is (.inr x) (.str x t)=true:=Tw x t
inductive V where
 | aq | bl (b:Bool) | int (i:Int) | str (x:Str) | byt (b:Array UInt8) | oA (b:UInt64) | ref (a:Addr) | ty (n:String)
 deriving DecidableEq
def RelV:V->Value->Prop
 | .aq,u=>u=Value.none
 | .bl b,u=>u=Value.bool b
 | .int i,u=>∃ t,u=Value.int i t
 | .str x,u=>∃ t,u=Value.str x t
 | .byt b,u=>∃ t,u=Value.bytes b t
 | .oA b,u=>∃ t,u=Value.float b t
 | .ref a,u=>u=Value.ref a
 | .ty n,u=>u=Value.type n
abbrev Vals:List V->List Value->Prop:=Paired RelV
def Vals.length {xs:List V} {us:List Value} (r:Vals xs us):xs.length=us.length:=Paired.length r
def Vals.get:∀ {xs:List V} {us:List Value} {i:Nat} {x:V},Vals xs us->xs[i]?=some x->∃ u,us[i]?=some u/\RelV x u
 | _,_,_,_,.nil,e=>by simp at e
 | _,_,0,_,.cons r _,e=>by simp at e;subst e;exact ⟨_,rfl,r⟩
 | _,_,i+1,x,.cons _ t,e=>by
  obtain ⟨u,h1,h2⟩:=Vals.get (i:=i) (x:=x) t (by simpa using e);exact ⟨u,by simpa using h1,h2⟩
def Vals.set {x:V} {u:Value} (r:RelV x u):∀ {xs:List V} {us:List Value} (i:Nat),Vals xs us->Vals (xs.set i x) (us.set i u)
 | _,_,_,.nil=>.nil
 | _,_,0,.cons _ t=>.cons r t
 | _,_,i+1,.cons q t=>.cons q (Vals.set r i t)
def Vals.append:∀ {xs ys:List V} {us ws:List Value},Vals xs us->Vals ys ws->Vals (xs++ys) (us++ws)
 | _,_,_,_,.nil,s=>s
 | _,_,_,_,.cons r t,s=>.cons r (Vals.append t s)
def Vals.take:∀ {xs:List V} {us:List Value} (n:Nat),Vals xs us->Vals (xs.take n) (us.take n)
 | _,_,0,_=>.nil
 | _,_,_+1,.nil=>.nil
 | _,_,n+1,.cons r t=>.cons r (Vals.take n t)
def Vals.drop:∀ {xs:List V} {us:List Value} (n:Nat),Vals xs us->Vals (xs.drop n) (us.drop n)
 | _,_,0,r=>r
 | _,_,_+1,.nil=>.nil
 | _,_,n+1,.cons _ t=>Vals.drop n t
def eM:Option V->Option Value->Prop
 | some v,some u=>RelV v u
 | none,none=>True
 | _,_=>False
def KV {κ:Type}:List (κ×V)->List (κ×Value)->Prop:=Paired fun (p:κ×V) (q:κ×Value)=>p.1=q.1/\RelV p.2 q.2
def kV:Key->V
 | .inl i=>.int i
 | .inr x=>.str x
inductive HO where
 /-- a list -/
 | lst (xs:List V)
 /-- a tuple (never changes) -/
 | tup (xs:List V)
 /-- a dict whose keys are ints and texts;one whose keys are tuples of ints and texts (ki empty one is both) -/
 | dK (kvs:List (Key×V)) | dT (kvs:List (List Key×V))
 /-- a set of ints: aj members,aj size -/
 | set (S:Int->Bool) (n:Nat)
 /-- an instance of ki class at C,aj dict at dx,aj attributes -/
 | ins (C dx:Addr) (fs:List (Str×V))
 /-- ki dict of ki instance at x -/
 | own (x:Addr)
 /-- ki dict of an exception -/
 | xd (fs:List (Str×V))
 /-- a bound method,f of x -/
 | met (f x:Addr)
 /-- a range object lo,lo+1,.. below hi -/
 | wX (lo hi:Int)
 /-- a thing that is known to ki object (ki script;a dict while a loop walks it): read,never written while it is so -/
 | cO (o:Obj) (u:HO)
 /-- a code object's table -/
 | mM (ps:Array Value)
 /-- any other thing,by what is true of aj one object (a def of one's own: SetO a S n:=HO.ext fun h=>..) -/
 | ext (φ:Heap->Prop)
abbrev Hp:=Addr->Option HO
def upd (H:Hp) (a:Addr) (o:HO):Hp:=fun b=>if b=a then some o else H b
def au {H:Hp} {a:Addr} {o:HO}:upd H a o a=some o:=by unfold upd;rw [At rfl]
def ag {H:Hp} {a b:Addr} {o:HO} (h:b≠a):upd H a o b=H b:=by unfold upd;rw [xL h]
def jK {H:Hp} {a:Addr} {o u:HO}:upd (upd H a o) a u=upd H a u:=by
 funext b;unfold upd;split <;> rfl
def uF {H:Hp} {a b:Addr} {o u:HO} (h:H a=some o) (h':H b=some u) (d:o≠u):a≠b:=by
 intro e;subst e;rw [h] at h';exact d (Fa h')
def gg {H:Hp} {a b:Addr} {o:HO} (h:H a=some o) (h':H b=none):a≠b:=by
 intro e;subst e;rw [h] at h';cases h'
def zi (h:Heap) (a:Addr) (items:Array Value):Prop:=∃ o,h.get? a=some o/\o.cls=.type "tuple" /\ ∃ n,o.data=.seq items n/\o.dict=none
def zi.t {h:Heap} {a:Addr} {items:Array Value} (x:zi h a items):IsTup h a items:=let ⟨o,e,c,n,d,_⟩:=x;⟨o,e,c,n,d⟩
section
variable (P:Program) (w:World)
def bR (H:Hp) (h:Heap) (a:Addr):HO->Prop
 | .lst xs=>xs.length<=sizeLine/\∃ (aj:List Value) (n:Nat),Vals xs aj/\h.get? a=some { cls:=.type "list",data:=.seq aj.toArray n }
 | .tup xs=>xs.length<=sizeLine/\∃ aj:List Value,Vals xs aj/\zi h a aj.toArray
 | .dK kvs=>kvs.length<=sizeLine/\(a == sysModules)=false/\∃ vs,KV kvs vs/\h.DictOf (dI P w) a vs
 | .dT kvs=>kvs.length<=sizeLine/\(a == sysModules)=false/\∃ xs:List (List Key×Addr×Value),
   Paired (fun (p:List Key×V) (q:List Key×Addr×Value)=>p.1=q.1/\H q.2.1=some (.tup (p.1.map kV))/\RelV p.2 q.2.2) kvs xs /\
   ∃ o es ep,h.get? a=some o/\o.ExactDict/\o.data=.dict es ep/\es.toList=xs.map (entryOfKey (tupleKind (dI P w)))/\(xs.map (·.1)).Nodup
 | .set S n=>h.SetOf (intKind P w) a S n
 | .ins C dx fs=>H dx=some (.own a)/\fs.length<=1000/\dx≠a/\h.get? a=some (W.instObj C dx) /\
   ∃ mA,h.Ns1 dx mA/\(∀ f,eM (fs.lookup f) (mA f))/\PySem.Within mA (fs.map (·.1))
 | .own _=>∃ o,h.get? a=some o
 | .xd fs=>∃ mA,h.Ns1 a mA/\∀ f,eM (fs.lookup f) (mA f)
 | .wX lo hi=>∃ t u v,h.get? a=some { cls:=.type "range",data:=.fields #[.int lo t,.int hi u,.int 1 v] }
 | .cO o u=>h.get? a=some o/\bR H h a u
 | .mM ps=>h.get? a=some { cls:=.none,data:=.fields ps }
 | .met f x=>h.get? a=some (W.methodObj (.ref f) (.ref x))
 | .ext φ=>φ h/\(∃ o,h.get? a=some o)/\∀ h1 h2:Heap,φ h1->(∀ o,h1.get? a=some o->h2.get? a=some o)->φ h2
def cg (H:Hp) (h:Heap):Prop:=∀ a o,H a=some o->bR P w H h a o
end
section
variable {P:Program} {w:World} {H H':Hp} {h h':Heap} {a:Addr} {o:HO}
def bR.lt (x:bR P w H h a o):a < h.objs.size:=by
 cases o with
 | lst xs=>obtain ⟨_,_,_,_,e⟩:=x;exact u8 e
 | tup xs=>obtain ⟨_,_,_,p⟩:=x;exact p.t.lt
 | dK kvs=>obtain ⟨_,_,_,_,o,_,_,e,_⟩:=x;exact u8 e
 | dT kvs=>obtain ⟨_,_,_,_,o,_,_,e,_⟩:=x;exact u8 e
 | set S n=>obtain ⟨o,_,_,_,e,_⟩:=x;exact u8 e
 | ins C dx fs=>obtain ⟨_,_,_,e,_⟩:=x;exact u8 e
 | own y=>obtain ⟨_,e⟩:=x;exact u8 e
 | xd fs=>obtain ⟨_,⟨_,_,_,e,_⟩,_⟩:=x;exact u8 e
 | wX lo hi=>obtain ⟨_,_,_,e⟩:=x;exact u8 e
 | cO ob u=>obtain ⟨e,_⟩:=x;exact u8 e
 | mM ps=>exact u8 (show h.get? a=some _ from x)
 | met f y=>exact u8 (show h.get? a=some _ from x)
 | ext φ=>obtain ⟨_,⟨_,e⟩,_⟩:=x;exact u8 e
def Paired.C6 {α β:Type} {F G:α->β->Prop}:∀ {l₁:List α} {l₂:List β},Paired F l₁ l₂->(∀ a b,F a b->G a b)->Paired G l₁ l₂
 | _,_,.nil,_=>.nil
 | _,_,.cons r t,f=>.cons (f _ _ r) (Paired.C6 t f)
def bR.gH (x:bR P w H h a o) (k:∀ b u,(b=a\/H b=some (.own a))->h.get? b=some u->h'.get? b=some u)
  (ho:∀ b,H b=some (.own a)->H' b=some (.own a)) (ht:∀ b xs,H b=some (.tup xs)->H' b=some (.tup xs)):bR P w H' h' a o:=by
 induction o with
 | lst xs=>obtain ⟨z,aj,n,r,e⟩:=x;exact ⟨z,aj,n,r,k _ _ (.inl rfl) e⟩
 | tup xs=>obtain ⟨z,aj,r,ob,e,c⟩:=x;exact ⟨z,aj,r,ob,k _ _ (.inl rfl) e,c⟩
 | dK kvs=>obtain ⟨z,y,vs,r,ob,es,ep,e,c⟩:=x;exact ⟨z,y,vs,r,ob,es,ep,k _ _ (.inl rfl) e,c⟩
 | dT kvs =>
  obtain ⟨z,y,xs,r,ob,es,ep,e,c⟩:=x;exact ⟨z,y,xs,Paired.C6 r fun p q z=>⟨z.1,ht _ _ z.2.1,z.2.2⟩,ob,es,ep,k _ _ (.inl rfl) e,c⟩
 | set S n=>obtain ⟨ob,es,ep,t,e,c⟩:=x;exact ⟨ob,es,ep,t,k _ _ (.inl rfl) e,c⟩
 | ins C dx fs =>
  obtain ⟨d,z,ne,e,mA,⟨od,es,ep,e2,c⟩,r⟩:=x;exact ⟨ho _ d,z,ne,k _ _ (.inl rfl) e,mA,⟨od,es,ep,k _ _ (.inr d) e2,c⟩,r⟩
 | own y=>obtain ⟨ob,e⟩:=x;exact ⟨ob,k _ _ (.inl rfl) e⟩
 | xd fs=>obtain ⟨mA,⟨od,es,ep,e,c⟩,r⟩:=x;exact ⟨mA,⟨od,es,ep,k _ _ (.inl rfl) e,c⟩,r⟩
 | wX lo hi=>obtain ⟨t,u,v,e⟩:=x;exact ⟨t,u,v,k _ _ (.inl rfl) e⟩
 | cO ob u ih=>obtain ⟨e,q⟩:=x;exact ⟨k _ _ (.inl rfl) e,ih q⟩
 | mM ps =>
  have e:h.get? a=some { cls:=.none,data:=.fields ps }:=x;show h'.get? a=some { cls:=.none,data:=.fields ps };exact k a _ (.inl rfl) e
 | met f y =>
  have e:h.get? a=some (W.methodObj (.ref f) (.ref y)):=x;show h'.get? a=some (W.methodObj (.ref f) (.ref y));exact k a _ (.inl rfl) e
 | ext φ=>obtain ⟨p,⟨o,e⟩,st⟩:=x;exact ⟨st _ _ p fun o q=>k _ _ (.inl rfl) q,⟨o,k _ _ (.inl rfl) e⟩,st⟩
def cg.lt (x:cg P w H h) (e:H a=some o):a < h.objs.size:=(x a o e).lt
def cg.fresh (x:cg P w H h) (e:h.objs.size<=a):H a=none:=by
 cases q:H a with
 | none=>rfl
 | some u=>exact absurd (wE (x.lt q) e) (Id _)
def cg.kept (x:cg P w H h) (k:∀ b u,h.get? b=some u->h'.get? b=some u):cg P w H h':=fun a o e =>
 (x a o e).gH (fun b u _ q=>k b u q) (fun _ q=>q) fun _ _ q=>q
def cg.laid (x:cg P w H h) (k:∀ b u,h.get? b=some u->h'.get? b=some u) (hp:h.objs.size<=a) (new:bR P w (upd H a o) h' a o):cg P w (upd H a o) h':=fun b u e=>by
 have hn:=x.fresh hp;by_cases hb:b=a
 ·subst hb;rw [au] at e;cases e;exact new
 ·rw [ag hb] at e;exact (x b u e).gH (fun c v _ q=>k c v q) (fun c q=>by rw [ag (gg q hn)];exact q) fun c xs q=>by rw [ag (gg q hn)];exact q
end
def Rd (H:Hp) (a:Addr) (u:HO):Prop:=H a=some u\/∃ o,H a=some (.cO o u)
def Rd.ok {P:Program} {w:World} {H:Hp} {h:Heap} {a:Addr} {u:HO} (r:Rd H a u) (x:cg P w H h):bR P w H h a u:=by
 rcases r with r | ⟨o,r⟩
 ·exact x a u r
 ·obtain ⟨_,q⟩:=x a _ r;exact q
def qF:Option HO->Prop
 | some (.lst _)=>True
 | some (.dK _)=>True
 | some (.dT _)=>True
 | some (.set _ _)=>True
 | some (.ins _ _ _)=>True
 | some (.ext _)=>True
 | _=>False
section
variable {P:Program} {w:World} {H:Hp} {h h':Heap} {x e:Addr} {o':HO}
def cg.write (ok:cg P w H h) (mu:qF (H x)) (he:e=x\/H e=some (.own x)) (k:∀ b u,b≠e->h.get? b=some u->h'.get? b=some u) (rG:∃ u,h'.get? e=some u)
  (new:bR P w (upd H x o') h' x o'):cg P w (upd H x o') h':=fun b u q=>by
 have Od:∀ c y,H c=some (.own y)->c≠x:=fun c y r z=>by subst z;rw [r] at mu;exact mu
 have ntup:∀ c xs,H c=some (.tup xs)->c≠x:=fun c xs r z=>by subst z;rw [r] at mu;exact mu
 by_cases hb:b=x
 ·subst hb;rw [au] at q;cases q;exact new
 ·rw [ag hb] at q;by_cases oP:b=e
  ·have q':H b=some (.own x):=by
    rcases he with z | z
    ·exact absurd (oP.trans z) hb
    ·rw [oP];exact z
   rw [q] at q';cases q';obtain ⟨v,hv⟩:=rG;exact ⟨v,by rw [oP];exact hv⟩
  ·refine (ok b u q).gH (fun c v hc r=>k c v ?_ r) (fun c r=>by rw [ag (Od c b r)];exact r) fun c xs r=>by rw [ag (ntup c xs r)];exact r
   rcases hc with rfl | hc
   ·exact oP
   ·rintro rfl;rcases he with z | z
    ·exact Od c b hc z
    ·rw [hc] at z;cases z;exact hb rfl
end
structure Un (fs ex:List Addr) (H H':Hp) (h h':Heap):Prop where
 keep:∀ b o,h.get? b=some o->H b=none->b ∉ fs->b ∉ ex->h'.get? b=some o
 slot:∀ b o,h.get? b=some o->H b=none->b∈fs->b ∉ ex->∃ sl,h'.get? b=some { o with slots:=sl }
 free:∀ b o,h.get? b=some o->H b=none->b ∉ ex->H' b=none
 there:∀ b o,h.get? b=some o->b ∉ ex->∃ o',h'.get? b=some o'
 fJ:∀ b xs,H b=some (.tup xs)->H' b=some (.tup xs)
 fj:∀ b o u,H b=some (.cO o u)->H' b=some (.cO o u)
 fQ:∀ b ps,H b=some (.mM ps)->∃ more,H' b=some (.mM (ps++more))
section
variable {fs fs' ex ex':List Addr} {H H1 H2:Hp} {h h1 h2 h':Heap} {a x e:Addr} {o:HO}
def Un.any (u:Un fs ex H H1 h h1) {b:Addr} {ob:Obj} (q:h.get? b=some ob) (n:H b=none) (hx:b ∉ ex):∃ sl,h1.get? b=some { ob with slots:=sl }:=by
 by_cases hb:b∈fs
 ·exact u.slot b ob q n hb hx
 ·exact ⟨ob.slots,u.keep b ob q n hb hx⟩
def Un.kept (k:∀ b u,h.get? b=some u->h'.get? b=some u):Un fs ex H H h h' :=
 ⟨fun b ob q _ _ _=>k b ob q,fun b ob q _ _ _=>⟨ob.slots,k b ob q⟩,fun _ _ _ n _=>n,fun b ob q _=>⟨ob,k b ob q⟩,fun _ _ q=>q,fun _ _ _ q=>q,fun _ ps q=>⟨#[],by rw [q];simp⟩⟩
def Un.refl:Un fs ex H H h h:=Un.kept fun _ _ q=>q
def Un.laid (k:∀ b u,h.get? b=some u->h'.get? b=some u) (hp:h.objs.size<=a) (hn:H a=none):Un fs ex H (upd H a o) h h' where
 keep:=fun b u q _ _ _=>k b u q
 slot:=fun b u q _ _ _=>⟨u.slots,k b u q⟩
 free:=fun b u q n _=>by rw [ag (zn (wE (u8 q) hp))];exact n
 there:=fun b u q _=>⟨u,k b u q⟩
 fJ:=fun b xs q=>by rw [ag (gg q hn)];exact q
 fj:=fun b u xs q=>by rw [ag (gg q hn)];exact q
 fQ:=fun b ps q=>⟨#[],by rw [ag (gg q hn),q];simp⟩
def Un.write (mu:qF (H x)) (he:e=x\/H e=some (.own x)) (k:∀ b u,b≠e->h.get? b=some u->h'.get? b=some u) (rG:∃ u,h'.get? e=some u):Un fs ex H (upd H x o) h h':=by
 have hx:∀ b,H b=none->b≠x:=fun b n z=>by subst z;rw [n] at mu;exact mu
 have hb:∀ b,H b=none->b≠e:=fun b n z=>by
  subst z;rcases he with r | r
  ·exact hx b n r
  ·rw [n] at r;cases r
 have hm:∀ b u,H b=some u->¬ qF (some u)->b≠x:=fun b u q nm z=>by subst z;rw [q] at mu;exact nm mu
 refine ⟨fun b u q n _ _=>k b u (hb b n) q,fun b u q n _ _=>⟨u.slots,k b u (hb b n) q⟩,fun b u q n _=>by rw [ag (hx b n)];exact n,fun b u q _=>?_,
  fun b xs q=>by rw [ag (hm b _ q fun z=>z)];exact q,fun b u xs q=>by rw [ag (hm b _ q fun z=>z)];exact q,fun b ps q=>⟨#[],by rw [ag (hm b _ q fun z=>z),q];simp⟩⟩
 by_cases oP:b=e
 ·subst oP;exact rG
 ·exact ⟨u,k b u oP q⟩
end
def vy (h:Heap) (H:Hp):List Addr:=(List.range h.objs.size).filter fun a=>(H a).isSome
def jf (h:Heap) (H:Hp):Heap:=W.hideAll h (vy h H)
def adE (h:Heap) (H:Hp):(jf h H).objs.size=h.objs.size:=W.hideAll_size _ _
def Q4 {h:Heap} {H:Hp} {b:Addr} {o:Obj} (e:h.get? b=some o) (n:H b=none):(jf h H).get? b=some o :=
 _5 _ e fun hm=>by
  have q:(H b).isSome=true:=(W1.mp hm).2;rw [n] at q;simp at q
def Yo {h:Heap} {H:Hp} {b:Addr} {o:Obj} (e:(jf h H).get? b=some o):h.get? b=some o/\H b=none:=by
 have e':h.get? b=some o:=Ja3 (vy h H) e;refine ⟨e',?_⟩;cases q:H b with
 | none=>rfl
 | some x =>
  have hm:b∈vy h H:=W1.mpr ⟨Ja4.mpr (u8 e'),by simp [q]⟩;have z:(jf h H).get? b=none:=W.hideAll_none (vy h H) hm;rw [z] at e;cases e
def adJ (g h:Heap) (L:Addr):List (Addr×Obj):=(List.range h.objs.size).filterMap fun a=>if a=L\/(g.get? a).isSome=true then none else (h.get? a).map fun o=>(a,o)
def rest (g h:Heap) (L d:Addr):List (Addr×Obj):=(adJ g h L).filter fun p=>decide (p.1≠d)
structure Mod (K:ν) (mg:Str->Option Value) (base:Heap):Prop where
 il:K.In base
 glob:base.Ns mainGlobals mg
 blt:∃ mb,base.Ns builtinsNs mb/\∀ x:Str,x ≠ "__name__" -> mb x=bootBuiltins x
 nolimit:base.NoLimit
structure Cx where
 prog:Program
 w:World
 K:ν
 mg:Str->Option Value
 base:Heap
 A:Around
 N:List Str
 s₀:Shared
 H₀:Hp
 env:Env
 outer:List Env
 stack:List Env
 ex:List Addr
 fn:Str->Bool
 calm:Bool
 pn:List (Addr×Obj)
 xe:Value->Shared->Prop
def bL (l:List Env):List Addr:=l.filterMap (·.frame)
abbrev Cx.fs (X:Cx):List Addr:=bL X.outer
def lR (sc:Scope) (x:Str):Prop:=sc.names.lookup x=some .local\/sc.names.lookup x=some .cell\/sc.names.lookup x=some .free
def Loc (sc:Scope) (x:Str):Prop:=sc.names.lookup x=some .local\/sc.names.lookup x=some .cell
def Look (env:Env) (h:Heap) (m:Str->Option Value) (x:Str) (u:Value):Prop :=
 (env.kindOf x=some .local/\m x=some u)\/((env.kindOf x=some .cell\/env.kindOf x=some .free)/\∃ c,env.cells.lookup x=some c/\h.IsCell c (some u))
structure Cx.Ok (X:Cx):Prop where
 mod:Mod X.K X.mg X.base
 kind:X.env.scope.kind=.function
 glob:X.env.globals=mainGlobals
 blt:X.env.builtins=builtinsNs
 above:X.s₀.heap.objs.size<=X.env.locals
 inj:∀ x y c,X.env.cells.lookup x=some c->X.env.cells.lookup y=some c->x=y
 has:∀ x,(X.env.kindOf x=some .cell\/X.env.kindOf x=some .free)->∃ c,X.env.cells.lookup x=some c
 kK:∀ x c,X.fn x=true->X.env.cells.lookup x=some c->X.s₀.heap.objs.size<=c
 hd:X.calm=true->X.A.handled=none
 frames:X.A.frames=some X.stack
 dO:X.stack=X.outer\/(X.stack=X.env::X.outer/\X.env.frame=some X.env.locals)
 r6:∀ b∈X.ex,b≠X.env.locals/\∀ x c,X.env.cells.lookup x=some c->c≠b
 bs:∀ b o,X.base.get? b=some o->X.s₀.heap.get? b=some o/\X.H₀ b=none
 gY:X.base.objs.size<=X.s₀.heap.objs.size
 lX:∀ b o,X.base.get? b=some o->b ∉ X.ex
 mj:∀ b∈X.ex,b ∉ X.fs
 fz:X.s₀.heap.FunFrames X.base X.outer
 jk:∀ b∈X.fs,X.H₀ b=none
structure Inv (X:Cx) (π:List (Addr×Obj)) (σ:List (Option V)) (H:Hp) (s:Shared):Prop where
 ok:X.Ok
 os:s.os=X.s₀.os
 bare:AllBare s.gens
 base:Un X.fs X.ex X.H₀ H X.s₀.heap s.heap
 loc:∃ m,s.heap.Ns X.env.locals m/\∀ (i:Nat) (x:Str) (v:V),X.N[i]?=some x->σ[i]?=some (some v)->lR X.env.scope x->∃ u,RelV v u/\Look X.env s.heap m x u
 cell:∀ x c,X.env.cells.lookup x=some c->∃ v,s.heap.IsCell c v
 free:H X.env.locals=none
 eU:∀ x c,X.env.cells.lookup x=some c->H c=none
 pin:∀ p∈X.pn++π,s.heap.get? p.1=some p.2/\H p.1=none/\p.1≠X.env.locals/\p.1 ∉ X.fs/\∀ v,p.2.data≠.cell v
 ay:cg X.prog X.w H s.heap
 len:σ.length=X.N.length
section
variable {X:Cx} {π:List (Addr×Obj)} {σ:List (Option V)} {H H':Hp} {s:Shared} {h':Heap}
def Cx.Ok.Tz (ok:X.Ok) {b:Addr} {o:Obj} (e:X.base.get? b=some o):b ∉ X.fs:=fun hb=>by
 have:=(ok.fz.mem hb).1;rw [e] at this;cases this
def Inv.bs (I:Inv X π σ H s):∀ b o,X.base.get? b=some o->s.heap.get? b=some o/\H b=none:=fun b o e =>
 ⟨I.base.keep b o (I.ok.bs b o e).1 (I.ok.bs b o e).2 (I.ok.Tz e) (I.ok.lX b o e),I.base.free b o (I.ok.bs b o e).1 (I.ok.bs b o e).2 (I.ok.lX b o e)⟩
def Inv.bk (I:Inv X π σ H s):∀ b o,X.base.get? b=some o->s.heap.get? b=some o:=fun b o e=>(I.bs b o e).1
def Inv.mod (I:Inv X π σ H s):Mod X.K X.mg X.base:=I.ok.mod
def Inv.bX (I:Inv X π σ H s):X.K.In s.heap:=I.ok.mod.il.keeps I.bk
def Inv.lt (I:Inv X π σ H s):X.env.locals < s.heap.objs.size:=let ⟨_,hn,_⟩:=I.loc;hn.lt
def Inv.sz (I:Inv X π σ H s):X.s₀.heap.objs.size<=s.heap.objs.size:=wl I.ok.above (Ja0 I.lt)
def Inv.Mu (I:Inv X π σ H s) {a:Addr} (h:s.heap.objs.size<=a):a ∉ X.fs:=fun hb=>by
 obtain ⟨_,o,ho,_⟩:=I.ok.fz.mem hb;exact absurd (wE (u8 ho) (wl I.sz h)) (Id _)
def Inv.jZ (I:Inv X π σ H s):∀ x c,X.env.cells.lookup x=some c->c≠X.env.locals:=fun x c e z=>by
 obtain ⟨v,o,ho,hd⟩:=I.cell x c e;obtain ⟨m,⟨o',es,ep,ho',hd',_⟩,_⟩:=I.loc;rw [z,ho'] at ho;cases ho;rw [hd'] at hd;cases hd
def Inv.fz (I:Inv X π σ H s):s.heap.FunFrames X.base X.outer:=by
 have all:∀ (l:List Env),(∀ b∈bL l,b∈X.fs)->X.s₀.heap.FunFrames X.base l->s.heap.FunFrames X.base l:=by
  intro l
  induction l with
  | nil=>intro _ _;trivial
  | cons env r ih =>
   intro hs hl;obtain ⟨hk,⟨L,o,hf,hn,ho,hd⟩,hr⟩:=hl;have hL:L∈X.fs:=hs L (by unfold bL;rw [_f,hf];exact LT);obtain ⟨sl,e⟩:=I.base.slot L o ho (I.ok.jk L hL) hL fun z=>I.ok.mj L z hL;exact ⟨hk,⟨L,_,hf,hn,e,hd⟩,ih (fun b hb=>hs b (by unfold bL;rw [_f,hf];exact Db _ hb)) hr⟩
 exact all X.outer (fun _ hb=>hb) I.ok.fz
def Inv.stack (I:Inv X π σ H s):s.heap.FunFrames X.base X.stack:=by
 rcases I.ok.dO with e | ⟨e,hf⟩
 ·rw [e];exact I.fz
 ·rw [e];obtain ⟨m,hn,_⟩:=I.loc;refine .cons (by rw [I.ok.kind];decide) hf hn ?_ I.fz;exact SZ (wl I.ok.gY I.ok.above)
def Inv.ua (I:Inv X π σ H s):∀ b∈bL X.stack,b∈X.env.locals::X.fs:=fun b hb=>by
 rcases I.ok.dO with e | ⟨e,hf⟩
 ·rw [e] at hb;exact Db _ hb
 ·rw [e] at hb;unfold bL at hb;rw [_f,hf] at hb;exact hb
def Inv.vN (I:Inv X π σ H s):∀ b∈bL X.stack,H b=none:=fun b hb=>by
 rcases lv.mp (I.ua b hb) with e | hb
 ·rw [e];exact I.free
 ·obtain ⟨_,o,ho,_⟩:=I.ok.fz.mem hb;exact I.base.free b o ho (I.ok.jk b hb) fun z=>I.ok.mj b z hb
def Inv.step {g':Array GenState} {t':Nat} {d':Drawn} {ch:List Addr} (I:Inv X π σ H s)
  (kq:∀ b∈ch,(b∈X.ex\/X.s₀.heap.objs.size<=b)/\b≠X.env.locals/\(∀ x c,X.env.cells.lookup x=some c->c≠b)/\∀ p∈X.pn++π,p.1≠b)
  (keep:∀ b o,b≠X.env.locals->b ∉ X.fs->b ∉ ch->s.heap.get? b=some o->H b=none->h'.get? b=some o)
  (slot:∀ b o,b≠X.env.locals->b∈X.fs->b ∉ ch->s.heap.get? b=some o->H b=none->∃ sl,h'.get? b=some { o with slots:=sl }) (free:∀ b o,b ∉ ch->s.heap.get? b=some o->H b=none->H' b=none)
  (there:∀ b o,b ∉ ch->s.heap.get? b=some o->∃ o',h'.get? b=some o')
  (fJ:∀ b xs,H b=some (.tup xs)->H' b=some (.tup xs)) (fj:∀ b o u,H b=some (.cO o u)->H' b=some (.cO o u)) (fQ:∀ b ps,H b=some (.mM ps)->∃ more,H' b=some (.mM (ps++more)))
  (ns:∀ m,s.heap.Ns X.env.locals m->h'.Ns X.env.locals m) (ay:cg X.prog X.w H' h') (hg:AllBare g') :
  Inv X π σ H' { s with heap:=h',gens:=g',drawn:=d',toks:=t' }:=by
 have uV:∀ b o,X.s₀.heap.get? b=some o->b≠X.env.locals:=fun b o e=>zn (wE (u8 e) I.ok.above);have yg:∀ b o,X.s₀.heap.get? b=some o->b ∉ X.ex->b ∉ ch:=fun b o e hx hb=>by
  rcases (kq b hb).1 with z | z
  ·exact hx z
  ·exact absurd (wE (u8 e) z) (Id _)
 have cellK:∀ x c,X.env.cells.lookup x=some c->∀ v,s.heap.IsCell c v->h'.IsCell c v:=fun x c e v ⟨o,ho,hd⟩=>by
  have uQ:c ∉ ch:=fun z=>(kq c z).2.2.1 x c e rfl;by_cases hc:c∈X.fs
  ·obtain ⟨sl,q⟩:=slot c o (I.jZ x c e) hc uQ ho (I.eU x c e);exact ⟨_,q,hd⟩
  ·exact ⟨o,keep c o (I.jZ x c e) hc uQ ho (I.eU x c e),hd⟩
 refine ⟨I.ok,I.os,hg,⟨fun b o e n hb hx=>?_,fun b o e n hb hx=>?_,fun b o e n hx=>?_,fun b o e hx=>?_,fun b xs e=>fJ b xs (I.base.fJ b xs e),fun b o xs e=>fj b o xs (I.base.fj b o xs e),fun b ps e=>?_⟩,?_,fun x c e=>?_,?_,fun x c e=>?_,fun p hp=>?_,ay,I.len⟩
 ·exact keep b o (uV b o e) hb (yg b o e hx) (I.base.keep b o e n hb hx) (I.base.free b o e n hx)
 ·obtain ⟨sl,e1⟩:=I.base.slot b o e n hb hx;obtain ⟨sl',e2⟩:=slot b _ (uV b o e) hb (yg b o e hx) e1 (I.base.free b o e n hx);exact ⟨sl',e2⟩
 ·obtain ⟨o',e1⟩:=I.base.there b o e hx;exact free b o' (yg b o e hx) e1 (I.base.free b o e n hx)
 ·obtain ⟨o',e1⟩:=I.base.there b o e hx;exact there b o' (yg b o e hx) e1
 ·obtain ⟨m1,e1⟩:=I.base.fQ b ps e;obtain ⟨m2,e2⟩:=fQ b _ e1;exact ⟨m1++m2,by rw [e2,Array.append_assoc]⟩
 ·obtain ⟨m,hn,hl⟩:=I.loc;refine ⟨m,ns m hn,fun i x v e1 e2 e3=>?_⟩;obtain ⟨u,r,l⟩:=hl i x v e1 e2 e3;refine ⟨u,r,?_⟩;rcases l with l | ⟨k,c,e,z⟩
  ·exact .inl l
  ·exact .inr ⟨k,c,e,cellK x c e _ z⟩
 ·obtain ⟨v,z⟩:=I.cell x c e;exact ⟨v,cellK x c e v z⟩
 ·obtain ⟨m,⟨o,_,_,ho,_⟩,_⟩:=I.loc;exact free _ o (fun z=>(kq _ z).2.1 rfl) ho I.free
 ·obtain ⟨v,o,ho,hd⟩:=I.cell x c e;exact free c o (fun z=>(kq c z).2.2.1 x c e rfl) ho (I.eU x c e)
 ·obtain ⟨e,n,ne,nf,d⟩:=I.pin p hp;have uQ:p.1 ∉ ch:=fun z=>(kq p.1 z).2.2.2 p hp rfl;exact ⟨keep p.1 p.2 ne nf uQ e n,free p.1 p.2 uQ e n,ne,nf,d⟩
def Inv.un {t':Nat} (I:Inv X π σ H s) (u:Un X.fs [] H H' s.heap h') (ay:cg X.prog X.w H' h'):Inv X π σ H' { s with heap:=h',toks:=t' }:=by
 obtain ⟨m,⟨o,es,ep,ho,r⟩,_⟩:=id I.loc;obtain ⟨sl,hL⟩:=u.any ho I.free (by simp);exact I.step (g':=s.gens) (d':=s.drawn) (ch:=[]) (fun _ z=>nomatch z) (fun b o _ hb _ e n=>u.keep b o e n hb (by simp)) (fun b o _ hb _ e n=>u.slot b o e n hb (by simp)) (fun b o _ e n=>u.free b o e n (by simp)) (fun b o _ e=>u.there b o e (by simp)) u.fJ u.fj u.fQ (fun m' hm=>by
  obtain ⟨o',es',ep',ho',r'⟩:=hm;rw [ho] at ho';cases ho';exact ⟨_,es',ep',hL,r'⟩) ay I.bare
def Inv.call {g':Array GenState} {t':Nat} {d':Drawn} {ch:List Addr} (I:Inv X π σ H s) (u:Un (bL X.stack) ch H H' s.heap h') (ay:cg X.prog X.w H' h') (hg:AllBare g')
  (kq:∀ b∈ch,(b∈X.ex\/X.s₀.heap.objs.size<=b)/\b≠X.env.locals/\(∀ x c,X.env.cells.lookup x=some c->c≠b)/\∀ p∈X.pn++π,p.1≠b) :
  Inv X π σ H' { s with heap:=h',gens:=g',drawn:=d',toks:=t' }:=by
 obtain ⟨m,⟨o,es,ep,ho,r⟩,_⟩:=id I.loc;obtain ⟨sl,hL⟩:=u.any ho I.free fun z=>(kq _ z).2.1 rfl;exact I.step (ch:=ch) kq (fun b o hL hb hc e n=>u.keep b o e n (fun z=>(lv.mp (I.ua b z)).elim hL hb) hc) (fun b o _ _ hc e n=>u.any e n hc) (fun b o hc e n=>u.free b o e n hc) (fun b o hc e=>u.there b o e hc) u.fJ u.fj u.fQ (fun m' hm=>by
  obtain ⟨o',es',ep',ho',r'⟩:=hm;rw [ho] at ho';cases ho';exact ⟨_,es',ep',hL,r'⟩) ay hg
def Inv.turned {t':Nat} {it:Addr} (I:Inv X π σ H s) (k:∀ b o,b≠it->s.heap.get? b=some o->h'.get? b=some o) (hn:H it=none) (hL:it≠X.env.locals)
  (h1:it∈X.ex\/X.s₀.heap.objs.size<=it) (h2:∀ x c,X.env.cells.lookup x=some c->c≠it) (h3:∀ p∈X.pn++π,p.1≠it):Inv X π σ H { s with heap:=h',toks:=t' }:=by
 have Nm:∀ b u,H b=some u->b≠it:=fun b u e z=>by rw [z,hn] at e;cases e
 refine I.step (g':=s.gens) (d':=s.drawn) (ch:=[it]) (fun b hb=>?_) (fun b o _ _ hc e _=>k b o (fun z=>hc (by simp [z])) e) (fun b o _ _ hc e _=>⟨o.slots,k b o (fun z=>hc (by simp [z])) e⟩) (fun _ _ _ _ n=>n)
  (fun b o hc e=>⟨o,k b o (fun z=>hc (by simp [z])) e⟩) (fun _ _ e=>e) (fun _ _ _ e=>e) (fun b ps e=>⟨#[],by rw [e];simp⟩) (fun m hm=>?_) (fun b u e=>?_) I.bare
 ·have e:b=it:=by simpa using hb
  subst e;exact ⟨h1,hL,h2,h3⟩
 ·obtain ⟨o,es,ep,ho,r⟩:=hm;exact ⟨o,es,ep,k _ o (pp hL) ho,r⟩
 ·refine (I.ay b u e).gH (fun c v hc q=>k c v ?_ q) (fun _ q=>q) fun _ _ q=>q;rcases hc with z | z
  ·rw [z];exact Nm b u e
  ·exact Nm c _ z
def Inv.tok (I:Inv X π σ H s) (t:Nat):Inv X π σ H { s with toks:=t }:=I.un (h':=s.heap) (t':=t) Un.refl I.ay
def Inv.kept {t':Nat} (I:Inv X π σ H s) (k:∀ b u,s.heap.get? b=some u->h'.get? b=some u):Inv X π σ H { s with heap:=h',toks:=t' }:=I.un (Un.kept k) (I.ay.kept k)
def Inv.laid {a:Addr} {o:HO} {t':Nat} (I:Inv X π σ H s) (k:∀ b u,s.heap.get? b=some u->h'.get? b=some u) (hp:s.heap.objs.size<=a) (new:bR X.prog X.w (upd H a o) h' a o) :
  Inv X π σ (upd H a o) { s with heap:=h',toks:=t' }:=I.un (Un.laid k hp (I.ay.fresh hp)) (I.ay.laid k hp new)
def Inv.write {x e:Addr} {o:HO} {t':Nat} (I:Inv X π σ H s) (mu:qF (H x)) (he:e=x\/H e=some (.own x)) (k:∀ b u,b≠e->s.heap.get? b=some u->h'.get? b=some u) (rG:∃ u,h'.get? e=some u)
  (new:bR X.prog X.w (upd H x o) h' x o):Inv X π σ (upd H x o) { s with heap:=h',toks:=t' }:=I.un (Un.write mu he k rG) (I.ay.write mu he k rG new)
def Inv.uB {π':List (Addr×Obj)} (I:Inv X π σ H s) (h:∀ p∈π',s.heap.get? p.1=some p.2/\H p.1=none/\p.1≠X.env.locals/\p.1 ∉ X.fs/\∀ v,p.2.data≠.cell v):Inv X π' σ H s :=
 ⟨I.ok,I.os,I.bare,I.base,I.loc,I.cell,I.free,I.eU,fun p hp=>(Go.mp hp).elim (fun z=>I.pin p (_a _ z)) (h p),I.ay,I.len⟩
def Dj {N:List Str} (hN:N.Nodup) {i j:Nat} {x:Str} (a:N[i]?=some x) (b:N[j]?=some x):i=j:=by
 obtain ⟨h1,e1⟩:=ul.mp a;obtain ⟨h2,e2⟩:=ul.mp b;exact (List.getElem_inj hN).mp (e1.trans e2.symm)
def Jq {M:Model} {A:Around} {E:Value->Shared->Prop} {i:Nat} {x:Str} {v:V} {u:Value} {Q:Unit->Shared->Prop} (I:Inv X π σ H s) (hN:X.N.Nodup) (hi:X.N[i]?=some x) (hx:Loc X.env.scope x) (r:RelV v u)
  (h:∀ s',Inv X π (σ.set i (some v)) H s'->(∃ a,Heap.SameBut a s.heap s'.heap/\(a=X.env.locals\/X.env.cells.lookup x=some a))->Q () s') (hf:X.fn x=true\/X.env.scope.names.lookup x=some .local:=by first | exact .inl rfl | exact .inr rfl | assumption):wpAny M A (storeName X.env x u) Q E s:=by
 obtain ⟨m,hn,hl⟩:=id I.loc;have uT:(X.env.scope.kind == .class || (X.env.scope.kind == .module && X.env.locals != X.env.globals))=false:=by rw [I.ok.kind];rfl
 have N4:i < σ.length:=by rw [I.len];exact (ul.mp hi).1
 have jZ:=I.jZ;have tracked:∀ {a:Addr} {h':Heap},(∃ o,s.heap.get? a=some o/\H a=none)->Heap.SameBut a s.heap h'->cg X.prog X.w H h':=fun {a h'} ha hs b ob e=>by
  obtain ⟨_,_,mT⟩:=ha;refine (I.ay b ob e).gH (fun c w' hc q=>(hs.2 c ?_).trans q) (fun _ q=>q) fun _ _ q=>q;rintro rfl;rcases hc with rfl | hc
  ·rw [mT] at e;cases e
  ·rw [mT] at hc;cases hc
 rcases hx with hk | hk
 ·refine wpAny_storeName_local hk hn (fun h' hn' hs=>?_) uT;obtain ⟨oL,_,_,uY,_⟩:=id hn;refine h _ ⟨I.ok,I.os,I.bare,⟨fun b o e n hb hx=>?_,fun b o e n hb hx=>?_,I.base.free,fun b o e hx=>?_,I.base.fJ,I.base.fj,I.base.fQ⟩,⟨_,hn',fun j y v' e1 e2 e3=>?_⟩,fun y c e=>?_,I.free,I.eU,fun p hp=>?_,tracked ⟨oL,uY,I.free⟩ hs,by simpa using I.len⟩ ⟨_,hs,.inl rfl⟩
  ·exact (hs.2 b (zn (wE (u8 e) I.ok.above))).trans (I.base.keep b o e n hb hx)
  ·obtain ⟨sl,e1⟩:=I.base.slot b o e n hb hx;exact ⟨sl,(hs.2 b (zn (wE (u8 e) I.ok.above))).trans e1⟩
  ·obtain ⟨o',e1⟩:=I.base.there b o e hx;exact ⟨o',(hs.2 b (zn (wE (u8 e) I.ok.above))).trans e1⟩
  ·by_cases hj:j=i
   ·subst hj;rw [hi] at e1;cases e1;rw [On N4] at e2;cases e2;exact ⟨u,r,.inl ⟨hk,by simp⟩⟩
   ·rw [No (pp hj)] at e2;obtain ⟨u',r',q⟩:=hl j y v' e1 e2 e3;refine ⟨u',r',?_⟩;rcases q with ⟨k,e⟩ | ⟨k,c,e,z⟩
    ·refine .inl ⟨k,?_⟩;have:y≠x:=fun e=>hj (Dj hN e1 (e ▸ hi));simp [this,e]
    ·exact .inr ⟨k,c,e,z.sameBut hs (jZ y c e)⟩
  ·obtain ⟨w',z⟩:=I.cell y c e;exact ⟨w',z.sameBut hs (jZ y c e)⟩
  ·obtain ⟨e,n,ne,nf,d⟩:=I.pin p hp;exact ⟨(hs.2 p.1 ne).trans e,n,ne,nf,d⟩
 ·have kC:X.fn x=true:=by
   rcases hf with z | z
   ·exact z
   ·rw [z] at hk;cases hk
  obtain ⟨c,hc⟩:=I.ok.has x (.inl hk);obtain ⟨w',z⟩:=I.cell x c hc;refine wpAny_storeName_cell I.ok.kind hk hc z (fun h' hc' hs=>?_);obtain ⟨oc,MM,hocd⟩:=id z;refine h { s with heap:=h' } ⟨I.ok,I.os,I.bare,⟨fun b o e n hb hx=>?_,fun b o e n hb hx=>?_,I.base.free,fun b o e hx=>?_,I.base.fJ,I.base.fj,I.base.fQ⟩,⟨m,hn.sameBut hs (pp (jZ x c hc)),fun j y v' e1 e2 e3=>?_⟩,fun y c' e=>?_,I.free,I.eU,fun p hp=>?_,tracked ⟨oc,MM,I.eU x c hc⟩ hs,by simpa using I.len⟩ ⟨c,hs,.inr hc⟩
  ·exact (hs.2 b (zn (wE (u8 e) (I.ok.kK x c kC hc)))).trans (I.base.keep b o e n hb hx)
  ·obtain ⟨sl,e1⟩:=I.base.slot b o e n hb hx;exact ⟨sl,(hs.2 b (zn (wE (u8 e) (I.ok.kK x c kC hc)))).trans e1⟩
  ·obtain ⟨o',e1⟩:=I.base.there b o e hx;exact ⟨o',(hs.2 b (zn (wE (u8 e) (I.ok.kK x c kC hc)))).trans e1⟩
  ·by_cases hj:j=i
   ·subst hj;rw [hi] at e1;cases e1;rw [On N4] at e2;cases e2;exact ⟨u,r,.inr ⟨.inl hk,c,hc,hc'⟩⟩
   ·rw [No (pp hj)] at e2;obtain ⟨u',r',q⟩:=hl j y v' e1 e2 e3;refine ⟨u',r',?_⟩;rcases q with q | ⟨k,c',e,z'⟩
    ·exact .inl q
    ·refine .inr ⟨k,c',e,z'.sameBut hs ?_⟩;rintro rfl;exact hj (Dj hN e1 (I.ok.inj _ _ _ e hc ▸ hi))
  ·by_cases yr:c'=c
   ·subst yr;exact ⟨_,hc'⟩
   ·obtain ⟨w2,z2⟩:=I.cell y c' e;exact ⟨w2,z2.sameBut hs yr⟩
  ·obtain ⟨e,n,ne,nf,d⟩:=I.pin p hp;refine ⟨(hs.2 p.1 ?_).trans e,n,ne,nf,d⟩;intro q;rw [q,MM] at e;have q':oc=p.2:=Fa e;exact d w' (by rw [<- q'];exact hocd)
def Cj {M:Model} {A:Around} {E:Value->Shared->Prop} {i:Nat} {x:Str} {v:V} {u:Value} {Q:Unit->Shared->Prop} (I:Inv X π σ H s) (hN:X.N.Nodup) (hi:X.N[i]?=some x) (hx:Loc X.env.scope x) (r:RelV v u)
  (h:∀ s',Inv X π (σ.set i (some v)) H s'->Q () s') (hf:X.fn x=true\/X.env.scope.names.lookup x=some .local:=by first | exact .inl rfl | exact .inr rfl | assumption):wpAny M A (storeName X.env x u) Q E s :=
 Jq I hN hi hx r (fun s' I' _=>h s' I') hf
def Inv.GV {s':Shared} {ch:List Addr} (I:Inv X π σ H s) (ho:s'.os=s.os) (u:Un (bL X.stack) ch H H' s.heap s'.heap) (ay:cg X.prog X.w H' s'.heap) (hg:AllBare s'.gens)
  (kq:∀ b∈ch,(b∈X.ex\/X.s₀.heap.objs.size<=b)/\b≠X.env.locals/\(∀ x c,X.env.cells.lookup x=some c->c≠b)/\∀ p∈X.pn++π,p.1≠b):Inv X π σ H' s':=by
 obtain ⟨h',g',d',t',o'⟩:=s';have e:o'=s.os:=ho;subst e;exact I.call (g':=g') (t':=t') (d':=d') u ay hg kq
end
abbrev XK:=Value->Option Addr->Hp->Prop
abbrev St:=List (Option V)
abbrev VK:=V->Hp->Prop
abbrev TE:=St->Hp->VK->Prop
abbrev TT:=St->Hp->(Bool->Hp->Prop)->Prop
abbrev TA:=St->Hp->(List V->Hp->Prop)->Prop
structure Ends where
 nx:St->Hp->Prop
 rt:VK
 bk:St->Hp->Prop:=fun _ _=>False
 ct:St->Hp->Prop:=fun _ _=>False
abbrev TS:=Ends->St->Hp->Prop
def EP (X:Cx) (π:List (Addr×Obj)) (σ:St) (Q:VK) (u:Value) (s':Shared):Prop:=∃ v H',Inv X π σ H' s'/\RelV v u/\Q v H'
def TP (X:Cx) (π:List (Addr×Obj)) (σ:St) (Q:Bool->Hp->Prop) (b:Bool) (s':Shared):Prop:=∃ H',Inv X π σ H' s'/\Q b H'
def AP (X:Cx) (π:List (Addr×Obj)) (σ:St) (Q:List V->Hp->Prop) (us:List Value) (s':Shared):Prop:=∃ vs H',Inv X π σ H' s'/\Vals vs us/\Q vs H'
def SP (X:Cx) (π:List (Addr×Obj)) (D:Ends) (f:Flow) (s':Shared):Prop :=
 match f with
 | .next=>∃ σ' H',Inv X π σ' H' s'/\D.nx σ' H'
 | .brk=>∃ σ' H',Inv X π σ' H' s'/\D.bk σ' H'
 | .cont=>∃ σ' H',Inv X π σ' H' s'/\D.ct σ' H'
 | .ret u=>∃ v σ' H',Inv X π σ' H' s'/\RelV v u/\D.rt v H'
def PE (X:Cx) (e:Expr) (t:TE):Prop :=
 ∀ (π:List (Addr×Obj)) (s:Shared) (σ:St) (H:Hp) (Q:VK),Inv X π σ H s->t σ H Q->wpAny (model X.prog X.w) X.A (eval e X.env) (EP X π σ Q) X.xe s
def PT (X:Cx) (e:Expr) (t:TT):Prop :=
 ∀ (π:List (Addr×Obj)) (s:Shared) (σ:St) (H:Hp) (Q:Bool->Hp->Prop),Inv X π σ H s->t σ H Q->wpAny (model X.prog X.w) X.A (isTrue e X.env (eval e X.env)) (TP X π σ Q) X.xe s
def PW (X:Cx) (e:Expr) (t:TT):Prop :=
 ∀ (whole:Sem Value) (π:List (Addr×Obj)) (s:Shared) (σ:St) (H:Hp) (Q:Bool->Hp->Prop),Inv X π σ H s->t σ H Q->wpAny (model X.prog X.w) X.A (isTrue e X.env whole) (TP X π σ Q) X.xe s
def PW.pt {X:Cx} {e:Expr} {t:TT} (h:PW X e t):PT X e t:=h _
def PA (X:Cx) (es:List Expr) (t:TA):Prop :=
 ∀ (pos:Pos) (π:List (Addr×Obj)) (s:Shared) (σ:St) (H:Hp) (Q:List V->Hp->Prop),Inv X π σ H s->t σ H Q->wpAny (model X.prog X.w) X.A (spliced (backTo pos (starEach es X.env))) (AP X π σ Q) X.xe s
def PS (X:Cx) (st:Stmt) (t:TS):Prop :=
 ∀ (π:List (Addr×Obj)) (s:Shared) (σ:St) (H:Hp) (D:Ends),Inv X π σ H s->t D σ H->wpAny (model X.prog X.w) X.A (exec st X.env) (SP X π D) X.xe s
def dz (X:Cx) (st:List Stmt) (t:TS):Prop :=
 ∀ (π:List (Addr×Obj)) (s:Shared) (σ:St) (H:Hp) (D:Ends),Inv X π σ H s->t D σ H->wpAny (model X.prog X.w) X.A (execs st X.env) (SP X π D) X.xe s
def aB {α:Type} {t:Sem α} {Q Q':α->Shared->Prop} {M:Model} {A:Around} {E:Value->Shared->Prop} {s:Shared} (h:wpAny M A t Q E s) (hQ:∀ a s,Q a s->Q' a s):wpAny M A t Q' E s:=IR h hQ fun _ _ x=>x
section
variable {X:Cx}
def Jx (i:Nat):TE:=fun σ H Q=>∃ v,σ[i]?=some (some v)/\Q v H
def tC (v:V):TE:=fun _ H Q=>Q v H
def Au {i:Nat} {x:Str} {pos:Pos} (hN:X.N[i]?=some x) (hv:lR X.env.scope x) (hd:(x == ("__debug__":Str))=false:=by decide) (bo:(x == ("__classdict__":Str))=false:=by decide):PE X (.Name x pos) (Jx i):=by
 intro π s σ H Q I h;obtain ⟨v,e,h⟩:=h;obtain ⟨m,hn,hl⟩:=I.loc;obtain ⟨u,r,l⟩:=hl i x v hN e hv;have fin:EP X π σ Q u s:=⟨v,H,I,r,h⟩;rcases l with ⟨hk,hm⟩ | ⟨hk,c,hc,Ox⟩
 ·exact wpAny_Name (wpAny_loadName_local I.ok.kind hk hn hm fin) hd
 ·rcases hk with hk | hk
  ·exact wpAny_Name (wpAny_loadName_cell I.ok.kind hk hc Ox fin) hd
  ·exact wpAny_Name (wpAny_loadName_free I.ok.kind hk hc Ox fin bo) hd
def Rn {i j pos}:PE X (.Constant (.int i) j pos) (tC (.int i)):=fun _ _ _ H _ I h=>wpAny_Constant_int ⟨.int i,H,I.tok _,⟨_,rfl⟩,h⟩
def YM {b j pos}:PE X (.Constant (.bool b) j pos) (tC (.bl b)):=fun _ _ _ H _ I h=>Constant_bool ⟨.bl b,H,I,rfl,h⟩
def ZV {j pos}:PE X (.Constant .none j pos) (tC .aq):=fun _ _ _ H _ I h=>Constant_none ⟨.aq,H,I,rfl,h⟩
def ade {x j pos}:PE X (.Constant (.str x) j pos) (tC (.str x)):=fun _ _ _ H _ I h=>Calls.Constant_str ⟨.str x,H,I.tok _,⟨_,rfl⟩,h⟩
def Gl (X:Cx) (x:Str):Prop:=X.env.kindOf x=some .globalImplicit
def kJ {E:Value->Shared->Prop} {π:List (Addr×Obj)} {s:Shared} {σ:St} {H:Hp} {x:Str} {u:Value} {pos:Pos} {Q:Value->Shared->Prop} (I:Inv X π σ H s) (hg:Gl X x) (hm:X.mg x=some u) (h:Q u s)
  (hd:(x == ("__debug__":Str))=false:=by decide):wpAny (model X.prog X.w) X.A (eval (.Name x pos) X.env) Q E s :=
 Calls.Name_function_global I.ok.kind hg (Calls.loadGlobal_global (by rw [I.ok.glob];exact I.mod.glob.keeps I.bk) hm h) hd
def nQ {E:Value->Shared->Prop} {π:List (Addr×Obj)} {s:Shared} {σ:St} {H:Hp} {x:Str} {u:Value} {pos:Pos} {Q:Value->Shared->Prop} (I:Inv X π σ H s) (hg:Gl X x) (hm:X.mg x=none) (hv:bootBuiltins x=some u) (h:Q u s)
  (hn:x ≠ "__name__" := by decide) (hd:(x == ("__debug__":Str))=false:=by decide):wpAny (model X.prog X.w) X.A (eval (.Name x pos) X.env) Q E s:=by
 obtain ⟨mb,h1,h2⟩:=I.mod.blt;exact Calls.Name_function_global I.ok.kind hg (Calls.loadGlobal_builtin (by rw [I.ok.glob];exact I.mod.glob.keeps I.bk) hm (by rw [I.ok.blt];exact h1.keeps I.bk) ((h2 x hn).trans hv) h) hd
def aav {x:Str} {v:V} {u:Value} {pos:Pos} (hg:Gl X x) (hm:X.mg x=some u) (r:RelV v u) (hd:(x == ("__debug__":Str))=false:=by decide):PE X (.Name x pos) (tC v) :=
 fun _ _ _ H _ I h=>kJ I hg hm ⟨v,H,I,r,h⟩ hd
def Tq {x:Str} {v:V} {u:Value} {pos:Pos} (hg:Gl X x) (hm:X.mg x=none) (hv:bootBuiltins x=some u) (r:RelV v u) (hn:x ≠ "__name__" := by decide) (hd:(x == ("__debug__":Str))=false:=by decide):PE X (.Name x pos) (tC v) :=
 fun _ _ _ H _ I h=>nQ I hg hm hv ⟨v,H,I,r,h⟩ hn hd
def PK (ta tb:TE) (k:Int->Int->Hp->Prop):St->Hp->Prop:=fun σ H=>ta σ H fun x H1=>tb σ H1 fun y H2=>∃ i j,x=.int i/\y=.int j/\k i j H2
variable {a b:Expr} {ta tb:TE} {pos:Pos}
def PC (X:Cx) (op:CmpOp) (a b:Expr) (t:TE):Prop :=
 ∀ (π:List (Addr×Obj)) (s:Shared) (σ:St) (H:Hp) (Q:VK),Inv X π σ H s->t σ H Q ->
  wpAny (model X.prog X.w) X.A (eval a X.env) (fun v s₁=>wpAny (model X.prog X.w) X.A (eval b X.env) (fun u s₂=>wpAny (model X.prog X.w) X.A (compareOp op v u) (EP X π σ Q) X.xe s₂) X.xe s₁) X.xe s
def wW (b:Expr) {op:CmpOp} (h:op≠.In) (h2:op≠.NotIn):behindInMarks op b=false:=by
 have e1:(op == CmpOp.In)=false:=by cases op <;> first | rfl | exact absurd rfl h
 have e2:(op == CmpOp.NotIn)=false:=by cases op <;> first | rfl | exact absurd rfl h2
 cases b <;> simp [behindInMarks,e1,e2]
def pT (p:Int->Int->Bool) (ta tb:TE):TE:=fun σ H Q=>PK ta tb (fun i j H2=>Q (.bl (p i j)) H2) σ H
abbrev tLt:TE->TE->TE:=pT fun i j=>decide (i < j)
abbrev tLe:TE->TE->TE:=pT fun i j=>decide (i<=j)
abbrev tGt:TE->TE->TE:=pT fun i j=>decide (j < i)
abbrev tGe:TE->TE->TE:=pT fun i j=>decide (j<=i)
abbrev adZ:TE->TE->TE:=pT fun i j=>decide (i=j)
abbrev adT:TE->TE->TE:=pT fun i j=>!decide (i=j)
def YO (ta:TE):TE:=fun σ H Q=>ta σ H fun x H1=>Q (.bl (decide (x=.aq))) H1
def tB (t:TE):TT:=fun σ H Q=>t σ H fun x H1=>∃ c,x=.bl c/\Q c H1
variable {tA tB':TT} {rest:List Expr}
def gT (t u:TT):TT:=fun σ H Q=>t σ H fun c H1=>if c=true then u σ H1 Q else Q false H1
def Cg (t u:TT):TT:=fun σ H Q=>t σ H fun c H1=>if c=true then Q true H1 else u σ H1 Q
def yH (t:TT):TT:=fun σ H Q=>t σ H fun c H1=>Q (!c) H1
def abu (ha:PT X a tA):PW X (.BoolOp .And [a] pos) tA:=by
 intro wh π s σ H Q I h;refine isTrue_and (aB (ha π s σ H Q I h) fun c s1 e=>?_);cases c with
 | true=>exact isTrue_and_nil e
 | false=>exact e
def Z8 (ha:PT X a tA):PW X (.BoolOp .Or [a] pos) tA:=by
 intro wh π s σ H Q I h;refine isTrue_or (aB (ha π s σ H Q I h) fun c s1 e=>?_);cases c with
 | false=>exact isTrue_or_nil e
 | true=>exact e
def RY (ha:PT X a tA) (hb:PW X (.BoolOp .And (b::rest) pos) tB'):PW X (.BoolOp .And (a::b::rest) pos) (gT tA tB'):=by
 intro wh π s σ H Q I h;refine isTrue_and (aB (ha π s σ H _ I h) fun c s1 ⟨H1,I1,q1⟩=>?_);cases c with
 | true=>exact hb wh π s1 σ H1 Q I1 q1
 | false=>exact ⟨H1,I1,q1⟩
def Tp (ha:PT X a tA) (hb:PW X (.BoolOp .Or (b::rest) pos) tB'):PW X (.BoolOp .Or (a::b::rest) pos) (Cg tA tB'):=by
 intro wh π s σ H Q I h;refine isTrue_or (aB (ha π s σ H _ I h) fun c s1 ⟨H1,I1,q1⟩=>?_);cases c with
 | true=>exact ⟨H1,I1,q1⟩
 | false=>exact hb wh π s1 σ H1 Q I1 q1
def aau (ha:PT X a tA):PT X (.UnaryOp .Not a pos) (yH tA):=by
 intro π s σ H Q I h;exact isTrue_not (ha π s σ H (fun c H1=>Q (!c) H1) I h)
def aca {op} {t:TE} (h:PE X a t):PE X (.BoolOp op [a] pos) t:=fun π s σ H Q I hw=>BoolOp_one (h π s σ H Q I hw)
def BV (t:TT) (ta tb:TE):TE:=fun σ H Q=>t σ H fun c H1=>if c=true then ta σ H1 Q else tb σ H1 Q
def Pp {c:Expr} (hc:PT X c tA) (ha:PE X a ta) (hb:PE X b tb):PE X (.IfExp c a b pos) (BV tA ta tb):=by
 intro π s σ H Q I h;refine wpAny_IfExp (aB (hc π s σ H _ I h) fun d s1 ⟨H1,I1,q1⟩=>?_);cases d with
 | true=>exact ha π s1 σ H1 Q I1 q1
 | false=>exact hb π s1 σ H1 Q I1 q1
end
def aD (K:ν) (H:Hp) (a:Addr) (xs:List V):Prop :=
 Rd H a (.lst xs) \/
  ∃ (o:Obj) (aj:Array Value) (n:Nat),K.lookup a=some o/\o.cls=.type "list" /\ o.dict=none/\o.data=.seq aj n/\aj.size<=sizeLine/\Vals xs aj.toList
def cJ (K:ν) (H:Hp) (a:Addr) (xs:List V):Prop :=
 Rd H a (.tup xs) \/
  ∃ (o:Obj) (aj:Array Value) (n:Nat),K.lookup a=some o/\o.cls=.type "tuple" /\ o.data=.seq aj n/\aj.size<=sizeLine/\Vals xs aj.toList
def acR:Value->Option V
 | .none=>some .aq
 | .bool b=>some (.bl b)
 | .int i _=>some (.int i)
 | .str x _=>some (.str x)
 | .bytes b _=>some (.byt b)
 | .float b _=>some (.oA b)
 | .ref a=>some (.ref a)
 | .type n=>some (.ty n)
 | _=>none
def RelV.abs {x:V} {u:Value} (r:RelV x u):acR u=some x:=by
 cases x with
 | aq=>cases r;rfl
 | bl _=>cases r;rfl
 | int _=>obtain ⟨t,rfl⟩:=r;rfl
 | str _=>obtain ⟨t,rfl⟩:=r;rfl
 | byt _=>obtain ⟨t,rfl⟩:=r;rfl
 | oA _=>obtain ⟨t,rfl⟩:=r;rfl
 | ref _=>cases r;rfl
 | ty _=>cases r;rfl
def RelV.inj {x y:V} {u:Value} (r:RelV x u) (q:RelV y u):x=y:=Fa (r.abs.symm.trans q.abs)
def Vals.inj:∀ {xs ys:List V} {us:List Value},Vals xs us->Vals ys us->xs=ys
 | _,_,_,.nil,.nil=>rfl
 | _,_,_,.cons r t,.cons r' t'=>by rw [r.inj r',Vals.inj t t']
section
variable {X:Cx} {π:List (Addr×Obj)} {σ:St} {H:Hp} {s:Shared} {a:Addr} {xs ys:List V}
def aD.of {K:ν} (h:H a=some (.lst xs)):aD K H a xs:=.inl (.inl h)
def cJ.of {K:ν} (h:H a=some (.tup xs)):cJ K H a xs:=.inl (.inl h)
def Inv.list (I:Inv X π σ H s) (h:aD X.K H a xs):∃ aj:List Value,Vals xs aj/\PlainL s.heap a aj.toArray/\xs.length<=sizeLine:=by
 rcases h with h | ⟨o,aj,n,hk,hc,hd,hs,hz,r⟩
 ·obtain ⟨z,aj,n,r,e⟩:=h.ok I.ay;exact ⟨aj,r,⟨_,n,e,rfl,rfl,rfl⟩,z⟩
 ·refine ⟨aj.toList,r,⟨o,n,I.bX a o hk,hc,hd,by simpa using hs⟩,?_⟩;have e:=r.length;simp only [Rs] at e;omega
def Inv.tuple (I:Inv X π σ H s) (h:cJ X.K H a xs):∃ aj:List Value,Vals xs aj/\IsTup s.heap a aj.toArray/\xs.length<=sizeLine:=by
 rcases h with h | ⟨o,aj,n,hk,hc,hs,hz,r⟩
 ·obtain ⟨z,aj,r,p⟩:=h.ok I.ay;exact ⟨aj,r,p.t,z⟩
 ·refine ⟨aj.toList,r,⟨o,I.bX a o hk,hc,n,by simpa using hs⟩,?_⟩;have e:=r.length;simp only [Rs] at e;omega
def Inv.ac1 (I:Inv X π σ H s) (h:aD X.K H a xs) (h':aD X.K H a ys):xs=ys:=by
 obtain ⟨aj,r,⟨o,n,e,_,_,d⟩,_⟩:=I.list h;obtain ⟨its',r',⟨o',n',e',_,_,d'⟩,_⟩:=I.list h';rw [e] at e';cases e';rw [d] at d';injection d' with d1 _;have:aj=its':=by simpa using P3 Array.toList d1
 subst this;exact r.inj r'
end
abbrev Cx.bg (X:Cx) (E:Value->Shared->Prop):Cx:={ X with xe:=E }
abbrev Cx.qA (X:Cx):Cx:=X.bg fun _ _=>False
def Cx.Ok.bg {X:Cx} (ok:X.Ok) (E:Value->Shared->Prop):(X.bg E).Ok :=
 ⟨ok.mod,ok.kind,ok.glob,ok.blt,ok.above,ok.inj,ok.has,ok.kK,ok.hd,ok.frames,ok.dO,ok.r6,ok.bs,ok.gY,ok.lX,ok.mj,ok.fz,ok.jk⟩
def Cx.Ok.mC {X:Cx} {E:Value->Shared->Prop} (ok:(X.bg E).Ok):X.Ok :=
 ⟨ok.mod,ok.kind,ok.glob,ok.blt,ok.above,ok.inj,ok.has,ok.kK,ok.hd,ok.frames,ok.dO,ok.r6,ok.bs,ok.gY,ok.lX,ok.mj,ok.fz,ok.jk⟩
section
variable {X:Cx} {π:List (Addr×Obj)} {σ:St} {H:Hp} {s:Shared} {E:Value->Shared->Prop}
def Inv.bg (I:Inv X π σ H s) (E:Value->Shared->Prop):Inv (X.bg E) π σ H s:=⟨I.ok.bg E,I.os,I.bare,I.base,I.loc,I.cell,I.free,I.eU,I.pin,I.ay,I.len⟩
def Inv.mC (I:Inv (X.bg E) π σ H s):Inv X π σ H s:=⟨I.ok.mC,I.os,I.bare,I.base,I.loc,I.cell,I.free,I.eU,I.pin,I.ay,I.len⟩
def SP.mC {D:Ends} {f:Flow} {s':Shared} (h:SP (X.bg E) π D f s'):SP X π D f s':=by
 cases f with
 | next=>obtain ⟨σ',H',I,q⟩:=h;exact ⟨σ',H',I.mC,q⟩
 | brk=>obtain ⟨σ',H',I,q⟩:=h;exact ⟨σ',H',I.mC,q⟩
 | cont=>obtain ⟨σ',H',I,q⟩:=h;exact ⟨σ',H',I.mC,q⟩
 | ret u=>obtain ⟨v,σ',H',I,r,q⟩:=h;exact ⟨v,σ',H',I.mC,r,q⟩
def dz.qA {st:List Stmt} {t:TS} (h:dz X.qA st t):dz X st t:=fun π s σ H D I hw =>
 IR (h π s σ H D (I.bg _) hw) (fun _ _ q=>q.mC) fun _ _ z=>False.elim z
end
section
variable {X:Cx} {st:Stmt} {rest:List Stmt} {t u:TS} {e:Expr} {te:TE} {pos:Pos}
def B3:TS:=fun D σ H=>D.nx σ H
def VW (t u:TS):TS:=fun D σ H=>t { D with nx:=u D } σ H
def adD:dz X [] B3:=fun _ _ σ H _ I h=>_E ⟨σ,H,I,h⟩
def WY (h1:PS X st t) (h2:dz X rest u):dz X (st::rest) (VW t u):=by
 intro π s σ H D I h;refine wpAny_execs_cons (aB (h1 π s σ H { D with nx:=u D } I h) fun f s1 q=>?_);cases f with
 | next =>
  obtain ⟨σ',H',I',q⟩:=q;exact h2 π s1 σ' H' D I' q
 | ret v=>exact q
 | brk=>exact q
 | cont=>exact q
def VF (h1:PS X st t):dz X [st] t:=by
 intro π s σ H D I h;refine wpAny_execs_cons (aB (h1 π s σ H D I h) fun f s1 q=>?_);cases f with
 | next=>exact _E q
 | ret v=>exact q
 | brk=>exact q
 | cont=>exact q
def Inv.quiet {π:List (Addr×Obj)} {σ:St} {H:Hp} {s:Shared} (I:Inv X π σ H s):interactive X.env=false:=by simp [interactive,I.ok.kind]
def Dx (te:TE):TS:=fun D σ H=>te σ H fun _ H1=>D.nx σ H1
def O3 (he:PE X e te) (hs:swapsWith e none pos.line X.env=pure false:=by rfl):PS X (.Expr e pos) (Dx te):=by
 intro π s σ H D I h;exact wpAny_Expr_any (aB (he π s σ H _ I h) fun v s1 ⟨x,H1,I1,r1,q1⟩=>⟨σ,H1,I1,q1⟩) I.quiet hs
def DL (te:TE):TS:=fun D σ H=>te σ H D.rt
def P7 (he:PE X e te):PS X (.Return (some e) pos) (DL te):=by
 intro π s σ H D I h;exact wpAny_Return_some (aB (he π s σ H _ I h) fun v s1 ⟨x,H1,I1,r1,q1⟩=>⟨x,σ,H1,I1,r1,q1⟩)
def DB:TS:=fun D _ H=>D.rt .aq H
def UN:PS X (.Return none pos) DB:=fun _ _ σ H _ I h=>wpAny_Return_none ⟨.aq,σ,H,I,rfl,h⟩
def eW (c:TT) (t u:TS):TS:=fun D σ H=>c σ H fun b H1=>if b=true then t D σ H1 else u D σ H1
def acQ {c:Expr} {a b:List Stmt} {tc:TT} (hc:PT X c tc) (ha:dz X a t) (hb:dz X b u):PS X (.If c a b pos) (eW tc t u):=by
 intro π s σ H D I h;refine wpAny_If (aB (hc π s σ H _ I h) fun d s1 ⟨H1,I1,q1⟩=>?_);cases d with
 | true=>exact ha π s1 σ H1 D I1 q1
 | false=>exact hb π s1 σ H1 D I1 q1
def CY:TS:=fun _ _ _=>False
def T5:PS X st CY:=fun _ _ _ _ _ _ h=>h.elim
end
abbrev TG:=V->St->Hp->(St->Hp->Prop)->Prop
abbrev kb:=List V->St->Hp->(St->Hp->Prop)->Prop
def PG (X:Cx) (target:Expr) (t:TG):Prop :=
 ∀ (π:List (Addr×Obj)) (s:Shared) (σ:St) (H:Hp) (v:V) (u:Value) (Q:St->Hp->Prop),Inv X π σ H s->RelV v u->t v σ H Q ->
  wpAny (model X.prog X.w) X.A (assign target X.env u) (fun _ s'=>∃ σ' H',Inv X π σ' H' s'/\Q σ' H') X.xe s
def ur (X:Cx) (ts:List Expr) (t:kb):Prop :=
 ∀ (π:List (Addr×Obj)) (s:Shared) (σ:St) (H:Hp) (vs:List V) (us:List Value) (Q:St->Hp->Prop),Inv X π σ H s->Vals vs us->t vs σ H Q ->
  wpAny (model X.prog X.w) X.A (assignInOrder ((assignEach ts X.env).map (·.2)) us) (fun _ s'=>∃ σ' H',Inv X π σ' H' s'/\Q σ' H') X.xe s
abbrev uh:=V->V->V->Hp->(Hp->Prop)->Prop
def ve (X:Cx) (t:uh):Prop :=
 ∀ (π:List (Addr×Obj)) (s:Shared) (σ:St) (H:Hp) (o i v:V) (ov iv u:Value) (Q:Hp->Prop),Inv X π σ H s->RelV o ov->RelV i iv->RelV v u->t o i v H Q ->
  wpAny (model X.prog X.w) X.A (setItem ov iv u) (fun _ s'=>∃ H',Inv X π σ H' s'/\Q H') X.xe s
abbrev TIp:=V->V->Hp->VK->Prop
section
variable {X:Cx} {pos:Pos}
def fM (i:Nat):TG:=fun v σ H Q=>Q (σ.set i (some v)) H
def Tj {i:Nat} {x:Str} (hN:X.N.Nodup) (hi:X.N[i]?=some x) (hx:Loc X.env.scope x) (hf:X.fn x=true\/X.env.scope.names.lookup x=some .local:=by first | exact .inl rfl | exact .inr rfl | assumption):PG X (.Name x pos) (fM i):=by
 intro π s σ H v u Q I r h;exact wpAny_assign_Name (Cj I hN hi hx r (fun s' I'=>⟨_,H,I',h⟩) hf)
def AE:kb:=fun vs σ H Q=>vs=[]/\Q σ H
def DK (t:TG) (u:kb):kb:=fun vs σ H Q=>∃ v r,vs=v::r/\t v σ H fun σ' H'=>u r σ' H' Q
def Zq:ur X [] AE:=by
 intro π s σ H vs us Q I r h;obtain ⟨e,h⟩:=h;subst e;cases r;exact assignInOrder_nil ⟨σ,H,I,h⟩
def adx {e:Expr} {es:List Expr} {t:TG} {u:kb} (h1:PG X e t) (h2:ur X es u)
  (hs:(assignEach (e::es) X.env).map (·.2)=assign e X.env::(assignEach es X.env).map (·.2):=by rfl):ur X (e::es) (DK t u):=by
 intro π s σ H vs us Q I r h;obtain ⟨v,vr,e1,h⟩:=h;subst e1;cases r with
 | cons r rr =>
  rw [hs];refine assignInOrder_cons (aB (h1 π s σ H _ _ _ I r h) fun _ s1 ⟨σ1,H1,I1,q1⟩=>?_);exact h2 π s1 σ1 H1 _ _ Q I1 rr q1
def Ci (K:ν) (n:Nat) (t:kb):TG:=fun v σ H Q=>∃ a xs,v=.ref a/\cJ K H a xs/\xs.length=n/\t xs σ H Q
def abg {es:List Expr} {k:Nat} {t:kb} {n:Nat} (hc:X.calm=true) (h:ur X es t)
  (hn:(assignEach es X.env).length=n:=by rfl) (aJ:(assignEach es X.env).findIdx? (·.1)=none:=by rfl):PG X (.Tuple es k pos) (Ci X.K n t):=by
 intro π s σ H v u Q I r hw;obtain ⟨a,xs,e1,hq,hl,hw⟩:=hw;subst e1;cases r;obtain ⟨aj,rv,ht,hz⟩:=I.tuple hq;refine assign_Tuple_tuple (I.ok.hd hc) ht (by simp [hn,<- hl,rv.length]) aJ fun h' hx=>?_;have I1:Inv X π σ H { s with heap:=h' }:=I.kept (t':=s.toks) fun b o e=>hx b o (zn (u8 e)) e;exact h π _ σ H xs _ Q I1 (by simpa using rv) hw
def C5 (to ti:TE) (t:uh):TG:=fun v σ H Q=>to σ H fun o H1=>ti σ H1 fun i H2=>t o i v H2 fun H3=>Q σ H3
def XT {o i:Expr} {to ti:TE} {t:uh} (ho:PE X o to) (hi:PE X i ti) (hs:ve X t)
  (ha:∀ v,assign (.Subscript o i pos) X.env v=(do
   let ov <- holding [v] (eval o X.env)
   let iv <- holding [v,ov] (eval i X.env)
   standAt pos
   holding [v,ov,iv] (setItem ov iv v)
   release [v,ov,iv] []):=by intro _;rfl):PG X (.Subscript o i pos) (C5 to ti t):=by
 intro π s σ H v u Q I r h;rw [ha];refine li (KB (aB (ho π s σ H _ I h) fun ov s1 ⟨x,H1,I1,r1,q1⟩=>?_));refine li (KB (aB (hi π s1 σ H1 _ I1 q1) fun iv s2 ⟨y,H2,I2,r2,q2⟩=>?_));refine li (_X (li (KB (aB (hs π s2 σ H2 x y v ov iv u _ I2 r1 r2 r q2) fun _ s3 ⟨H3,I3,q3⟩=>?_))));exact wpAny_release ⟨σ,H3,I3,q3⟩
def mB (te:TE) (g:TG):TS:=fun D σ H=>te σ H fun x H1=>g x σ H1 D.nx
def Qy {tg e:Expr} {te:TE} {g:TG} (he:PE X e te) (hg:PG X tg g) (hs:swapsWithSole [tg] e pos.line X.env=pure false:=by rfl) (hw:swappedStores [tg] e X.env=pure none:=by rfl)
  (h1:(assignEach [tg] X.env).map (·.2)=[assign tg X.env]:=by rfl):PS X (.Assign [tg] e pos) (mB te g):=by
 intro π s σ H D I h;refine wpAny_Assign_stores (aB (he π s σ H _ I h) fun v s1 ⟨x,H1,I1,r1,q1⟩=>?_) hs hw;rw [h1];exact aB (hg π s1 σ H1 x v _ I1 r1 q1) fun _ s2 q=>q
def RA {i:Nat} {x:Str} {e:Expr} {te:TE} {pos':Pos} (hN:X.N.Nodup) (hi:X.N[i]?=some x) (hx:Loc X.env.scope x) (he:PE X e te) (hs:swapsWith e (some (.Name x pos')) pos.line X.env=pure false:=by rfl) (hf:X.fn x=true\/X.env.scope.names.lookup x=some .local:=by first | exact .inl rfl | exact .inr rfl | assumption) :
  PS X (.Assign [.Name x pos'] e pos) (mB te (fM i)):=by
 intro π s σ H D I h;refine wpAny_Assign_Name (aB (he π s σ H _ I h) fun v s1 ⟨y,H1,I1,r1,q1⟩=>?_) hs;exact Cj I1 hN hi hx r1 (fun s2 I2=>⟨_,H1,I2,q1⟩) hf
end
section
variable {X:Cx} {pos:Pos}
def Mr (c:TT) (tb:TS):TS:=fun D σ H=>∃ W:Nat->St->Hp->Prop,(∃ m,W m σ H)/\∀ m σ H,W m σ H ->
 c σ H fun b H1=>if b=true then ∃ N:St->Hp->Prop,(∀ σ' H',N σ' H'->∃ m',m' < m/\W m' σ' H')/\tb { D with nx:=N,ct:=N,bk:=D.nx } σ H1 else D.nx σ H1
def O2 {c:Expr} {body:List Stmt} {tc:TT} {tb:TS} (hp:PassesOwn (model X.prog X.w) X.A X.env X.xe) (hc:PT X c tc) (hb:dz X body tb):PS X (.While c body [] pos) (Mr tc tb):=by
 intro π s σ H D I h;obtain ⟨W,⟨m0,w0⟩,turn⟩:=h;refine wpAny_While (codeAny_whileLoop (fun n s'=>∃ σ' H',Inv X π σ' H' s'/\W n σ' H') ?_ m0 ⟨σ,H,I,w0⟩);rintro n s1 ⟨σ1,H1,I1,w1⟩;refine XV hp (aB (hc π s1 σ1 H1 _ I1 (turn n σ1 H1 w1)) fun b s2 ⟨H2,I2,q2⟩=>?_);cases b with
 | true =>
  obtain ⟨N,hN,q2⟩:=q2;rw [At rfl];refine XV hp (aB (hb π s2 σ1 H2 _ I2 q2) fun f s3 q3=>?_);cases f with
  | next =>
   obtain ⟨σ3,H3,I3,n3⟩:=q3;obtain ⟨m',hm,w3⟩:=hN σ3 H3 n3;exact ⟨m',hm,σ3,H3,I3,w3⟩
  | cont =>
   obtain ⟨σ3,H3,I3,n3⟩:=q3;obtain ⟨m',hm,w3⟩:=hN σ3 H3 n3;exact ⟨m',hm,σ3,H3,I3,w3⟩
  | brk=>exact q3
  | ret v=>exact q3
 | false =>
  rw [xL ww];exact _E ⟨σ1,H2,I2,q2⟩
end
structure It where
 go:Nat->Hp->Prop
 mK:Nat->Hp->V->Hp->Prop
 stop:Nat->Hp->Prop
def gS (X:Cx) (π:List (Addr×Obj)) (H:Hp) (b:Addr):Prop :=
 H b=none/\b≠X.env.locals/\b ∉ X.fs/\(b∈X.ex\/X.s₀.heap.objs.size<=b)/\(∀ x c,X.env.cells.lookup x=some c->c≠b)/\∀ p∈X.pn++π,p.1≠b
def Inv.wa {X:Cx} {π:List (Addr×Obj)} {σ:St} {H H':Hp} {s:Shared} {b:Addr} (I:Inv X π σ H s) (hb:s.heap.objs.size<=b) (hn:H' b=none):gS X π H' b:=by
 refine ⟨hn,Ja1 (wE I.lt hb),I.Mu hb,.inr (wl I.sz hb),fun x c e z=>?_,fun p hp z=>?_⟩
 ·obtain ⟨v,q⟩:=I.cell x c e;exact absurd (wE q.lt (by rw [z];exact hb)) (Id _)
 ·exact absurd (wE (u8 (I.pin p hp).1) (by rw [z];exact hb)) (Id _)
structure Turn (P:Program) (w:World) (K:ν) (tg:Expr) (J:It) (fp:List Addr) (it:Addr) (tn:Nat->Heap->Prop):Prop where
 mem:it∈fp
 obj:∀ i h,tn i h->∀ b∈fp,∃ o,h.get? b=some o/\∀ v,o.data≠.cell v
 keep:∀ i h h',tn i h->(∀ b∈fp,∀ o,h.get? b=some o->h'.get? b=some o)->tn i h'
 item:∀ (X:Cx),X.prog=P->X.w=w->X.K=K->X.calm=true->∀ (i:Nat) (π:List (Addr×Obj)) (s:Shared) (σ:St) (H:Hp) (E:Value->Shared->Prop),Inv X π σ H s->(∀ b∈fp,gS X π H b)->tn i s.heap->J.go i H ->
  wpAny (model P w) X.A (pyNext (.ref it)) (fun r s1=>∃ u,r=some u /\
   wpAny (model P w) X.A (letOwnedTupleGo tg (.ref it) u) (fun _ s2=>∃ x H',Inv X π σ H' s2/\RelV x u/\J.mK i H x H'/\tn (i+1) s2.heap/\∀ b∈fp,H' b=none) E s1) E s
 done:∀ (X:Cx),X.prog=P->X.w=w->X.K=K->X.calm=true->∀ (i:Nat) (π:List (Addr×Obj)) (s:Shared) (σ:St) (H:Hp) (E:Value->Shared->Prop),Inv X π σ H s->(∀ b∈fp,gS X π H b)->tn i s.heap->J.stop i H ->
  wpAny (model P w) X.A (pyNext (.ref it)) (fun r s1=>r=none/\Inv X π σ H s1) E s
 self:∀ (A:Around) (i:Nat) (s:Shared) (Q:Value->Shared->Prop) (E:Value->Shared->Prop),tn i s.heap->Q (.ref it) s->wpAny (model P w) A (pyIter (.ref it)) Q E s
abbrev TI:=St->Hp->(It->Hp->Prop)->Prop
def JN (X:Cx) (π:List (Addr×Obj)) (σ:St) (tg:Expr) (R:It->Hp->Prop) (Fb:Value) (s2:Shared):Prop :=
 ∃ (it:Addr) (fp:List Addr) (tn:Nat->Heap->Prop) (J:It) (H':Hp),Fb=.ref it/\Inv X π σ H' s2/\Turn X.prog X.w X.K tg J fp it tn/\tn 0 s2.heap/\(∀ b∈fp,gS X π H' b)/\R J H'
def PI (X:Cx) (tg iter:Expr) (wi:TI):Prop :=
 ∀ (π:List (Addr×Obj)) (s:Shared) (σ:St) (H:Hp) (R:It->Hp->Prop),Inv X π σ H s->wi σ H R ->
  wpAny (model X.prog X.w) X.A (eval iter X.env) (fun v s1=>wpAny (model X.prog X.w) X.A (pyIter v) (JN X π σ tg R) X.xe s1) X.xe s
def vd {M:Model} {A:Around} {E:Value->Shared->Prop} {s:Shared} {tg:Expr} {it:Addr} {u:Value} {o:Obj} {n:String} {vs:Array Value} {Q:Unit->Shared->Prop} (ho:s.heap.get? it=some o) (hc:o.cls=.type n) (hd:o.data=.fields vs)
  (hn:["enumerate","zip","dict_itemiterator","dict_reverseitemiterator","odict_iterator","itertools.zip_longest","itertools.pairwise"].contains n=false) (hQ:Q () s):wpAny M A (letOwnedTupleGo tg (.ref it) u) Q E s:=by
 unfold letOwnedTupleGo;cases tg <;> first
  | exact sw hQ
  | (cases u <;> first
    | exact sw hQ
    | (refine li (wpAny_load ho ?_)
       rw [hc,hd];show wpAny M A (if (["enumerate","zip","dict_itemiterator","dict_reverseitemiterator","odict_iterator","itertools.zip_longest","itertools.pairwise"].contains n && vs[0]? == some (rawInt _))=true then _ else _) Q E s;rw [xL (by intro h;rw [hn,Ja5] at h;cases h)];exact sw hQ))
def kM (K:ν) (a:Addr):It :=
 ⟨fun i H=>∃ xs x,aD K H a xs/\xs[i]?=some x,fun i H x H'=>H'=H/\∀ xs,aD K H a xs->xs[i]?=some x,fun i H=>∃ xs,aD K H a xs/\xs.length<=i⟩
def tj (lo:Int) (n:Nat):It:=⟨fun i _=>i < n,fun i H x H'=>H'=H/\x=.int (lo+i),fun i _=>n<=i⟩
def QQ {P:Program} {w:World} {K:ν} {tg:Expr} (a it:Addr):Turn P w K tg (kM K a) [it] it (fun i h=>h.IsListIter it a i) where
 mem:=by simp
 obj:=fun i h st b hb=>by
  have e:b=it:=by simpa using hb
  subst e;obtain ⟨o,e,c,d⟩:=st;exact ⟨o,e,fun v z=>by rw [d] at z;cases z⟩
 keep:=fun i h h' st k=>st.at fun o e=>k it (by simp) o e
 item:=by
  intro X hP hw hK hc i π s σ H E I hf st hg;subst hP hw hK;obtain ⟨xs,x,hq,hx⟩:=hg;obtain ⟨aj,rv,p,hz⟩:=I.list hq;obtain ⟨u,hu,ru⟩:=rv.get hx;obtain ⟨f0,f1,f2,f3,f4,f5⟩:=hf it (by simp);refine wpAny_pyNext_list_item st p.isList (x:=u) (by simpa using hu) fun h' st' sb=>?_;have I1:Inv X π σ H { s with heap:=h' }:=I.turned (t':=s.toks) (fun b o hb e=>(sb.2 b hb).trans e) f0 f1 f3 f4 f5;obtain ⟨o,e,c,d⟩:=id st';exact ⟨u,rfl,vd (s:={ s with heap:=h' }) e c d (by decide) ⟨x,H,I1,ru,⟨rfl,fun ys hy=>by rw [I.ac1 hy hq];exact hx⟩,st',fun b hb=>(hf b hb).1⟩⟩
 done:=by
  intro X hP hw hK hc i π s σ H E I hf st hg;subst hP hw hK;obtain ⟨xs,hq,hx⟩:=hg;obtain ⟨aj,rv,p,hz⟩:=I.list hq;obtain ⟨f0,f1,f2,f3,f4,f5⟩:=hf it (by simp);have hl:=rv.length;exact wpAny_pyNext_list_end (I.ok.hd hc) st p.isList (by simp;omega) fun h' eb=>⟨rfl,I.turned (t':=s.toks) (fun b o hb e=>eb b o hb e) f0 f1 f3 f4 f5⟩
 self:=fun _ _ _ _ _ st h=>wpAny_pyIter_listiter st h
def acK {P:Program} {w:World} {K:ν} {tg:Expr} (it:Addr) (lo:Int) (n:Nat):Turn P w K tg (tj lo n) [it] it (fun i h=>IsRangeIter h it (lo+(i:Nat) * 1) ((n:Int) - (i:Nat)) 1) where
 mem:=by simp
 obj:=fun i h st b hb=>by
  have e:b=it:=by simpa using hb
  subst e;exact ⟨_,st,fun v z=>by
   have z':Data.fields _=Data.cell v:=z;cases z'⟩
 keep:=fun i h h' st k=>k it (by simp) _ st
 item:=by
  intro X hP hw hK hc i π s σ H E I hf st hg;subst hP hw hK;obtain ⟨f0,f1,f2,f3,f4,f5⟩:=hf it (by simp);have W:=Walks.range (prog:=X.prog) (w:=X.w) (I.ok.hd hc) it lo 1 n;refine W.item i s _ _ hg st fun v h' tk hv st' kk=>?_;obtain ⟨t,rfl⟩:=hv;have I1:Inv X π σ H { s with heap:=h',toks:=tk }:=I.turned (fun b o hb e=>kk b o (by simpa using hb) e) f0 f1 f3 f4 f5;refine ⟨_,rfl,vd (s:={ s with heap:=h',toks:=tk }) (n := "range_iterator") st' rfl rfl (by decide) ⟨.int (lo+i),H,I1,⟨t,?_⟩,⟨rfl,rfl⟩,st',fun b hb=>(hf b hb).1⟩⟩;rw [Int.mul_one]
 done:=by
  intro X hP hw hK hc i π s σ H E I hf st hg;subst hP hw hK;obtain ⟨f0,f1,f2,f3,f4,f5⟩:=hf it (by simp);exact wpAny_pyNext_range_end (I.ok.hd hc) st (by have:n<=i:=hg;omega) fun h' eb=>⟨rfl,I.turned (t':=s.toks) (fun b o hb e=>eb b o hb e) f0 f1 f3 f4 f5⟩
 self:=fun _ _ _ _ _ st h=>wpAny_pyIter_rangeiter st h
section
variable {X:Cx} {tg:Expr}
def Vz (K:ν) (tl:TE):TI:=fun σ H R=>tl σ H fun x H1=>∃ a,x=.ref a/\(∃ xs,aD K H1 a xs)/\R (kM K a) H1
def Rj {l:Expr} {tl:TE} (hl:PE X l tl):PI X tg l (Vz X.K tl):=by
 intro π s σ H R I h;refine aB (hl π s σ H _ I h) fun v s1 ⟨x,H1,I1,r1,q1⟩=>?_;obtain ⟨a,e,⟨xs,hq⟩,q⟩:=q1;subst e;cases r1;obtain ⟨aj,rv,p,hz⟩:=I1.list hq;refine wpAny_pyIter_list p.isList ?_;refine ⟨s1.heap.objs.size,[s1.heap.objs.size],_,_,H1,rfl,I1.kept (t':=s1.toks) fun b o e=>pc _ e,QQ a _,⟨_,wn _ rfl,rfl,rfl⟩,fun b hb=>?_,q⟩;have e:b=s1.heap.objs.size:=by simpa using hb
 subst e;exact I1.wa (sK _) (I1.ay.fresh (sK _))
def RB {π:List (Addr×Obj)} {σ:St} {H:Hp} {s:Shared} {R:It->Hp->Prop} {E:Value->Shared->Prop} {lo hi:Int} {t u v:Tok} {tk:Nat} (I:Inv X π σ H s) (h1:-(2 ^ 62)<=lo) (h2:lo < 2 ^ 62) (h3:-(2 ^ 62)<=hi) (h4:hi < 2 ^ 62)
  (q:R (tj lo (hi - lo).toNat) H):wpAny (model X.prog X.w) X.A (pyIter (.ref s.heap.objs.size)) (JN X π σ tg R) E { s with heap:=s.heap.push { cls:=.type "range",data:=.fields #[.int lo t,.int hi u,.int 1 v] },toks:=tk }:=by
 refine wpAny_pyIter_range (IsRange.new ..) (small_one h1 h2 h3 h4) ?_;have I1:Inv X π σ H { s with heap:=s.heap.push { cls:=.type "range",data:=.fields #[.int lo t,.int hi u,.int 1 v] },toks:=tk }:=I.kept fun b o e=>pc _ e;refine ⟨(s.heap.push { cls:=.type "range",data:=.fields #[.int lo t,.int hi u,.int 1 v] }).objs.size,[(s.heap.push { cls:=.type "range",data:=.fields #[.int lo t,.int hi u,.int 1 v] }).objs.size],_,_,H,rfl,
  I1.kept (t':=tk) fun b o e=>pc _ e,acK _ lo (hi - lo).toNat,?_,fun b hb=>?_,q⟩
 ·have e1:lo+((0:Nat):Int) * 1=lo:=by simp
  have e2:(((hi - lo).toNat:Nat):Int) - ((0:Nat):Int)=Builtin.Range.rangeSize lo hi 1:=by rw [rangeSize_one];split <;> omega
  show IsRangeIter _ _ (lo+((0:Nat):Int) * 1) ((((hi - lo).toNat:Nat):Int) - ((0:Nat):Int)) 1;rw [e1,e2];exact wn _ rfl
 ·have e:b=(s.heap.push { cls:=.type "range",data:=.fields #[.int lo t,.int hi u,.int 1 v] }).objs.size:=by simpa using hb
  subst e;exact I1.wa (sK _) (I1.ay.fresh (sK _))
def ZC (ta:TA):TI:=fun σ H R=>ta σ H fun vs H1=>∃ j:Int,vs=[.int j]/\-(2 ^ 62)<=j/\j < 2 ^ 62/\R (tj 0 j.toNat) H1
def UQ {a:Expr} {ta:TA} {p pos:Pos} (hg:Gl X "range") (hm:X.mg "range" = none) (ha:PA X [a] ta) (hs:starEach [a] X.env=[(false,eval a X.env)]:=by rfl):PI X tg (.Call (.Name "range" p) [a] [] pos) (ZC ta):=by
 intro π s σ H R I h;refine Call_ (nQ I hg hm boot_range (TW (aB (ha pos π s σ H _ I h) fun us s1 ⟨vs,H1,I1,r1,q1⟩=>?_) hs rfl));obtain ⟨j,e,q1,q2,q⟩:=q1;subst e;cases r1 with
 | cons r rr =>
  cases rr;obtain ⟨t,rfl⟩:=r;exact call_range_1 (RB I1 (by omega) (by omega) q1 q2 (by simpa using q))
def BP (wi:TI) (g:TG) (tb:TS):TS:=fun D σ H=>wi σ H fun J H1=>∃ W:Nat->Nat->St->Hp->Prop,(∃ m,W 0 m σ H1)/\∀ i m σ H,W i m σ H ->
 (J.stop i H/\D.nx σ H)\/(J.go i H/\∃ N:St->Hp->Prop,(∀ σ' H',N σ' H'->∃ m',m' < m/\W (i+1) m' σ' H')/\∀ x H',J.mK i H x H'->g x σ H' fun σ2 H2=>tb { D with nx:=N,ct:=N,bk:=D.nx } σ2 H2)
def tJ (fp:List Addr) (h:Heap):List (Addr×Obj):=fp.filterMap fun b=>(h.get? b).map fun o=>(b,o)
def v9 {fp:List Addr} {h:Heap} {b:Addr} {o:Obj} (hb:b∈fp) (e:h.get? b=some o):(b,o)∈tJ fp h:=_H.mpr ⟨b,hb,by rw [e];rfl⟩
def YZ {fp:List Addr} {h:Heap} {p:Addr×Obj} (hp:p∈tJ fp h):p.1∈fp/\h.get? p.1=some p.2:=by
 obtain ⟨b,hb,e⟩:=_H.mp hp;cases q:h.get? b with
 | none=>rw [q] at e;cases e
 | some o =>
  rw [q] at e;have e':(b,o)=p:=Fa e;subst e';exact ⟨hb,q⟩
def Inv.pinned {π:List (Addr×Obj)} {σ:St} {H:Hp} {s:Shared} {fp:List Addr} (I:Inv X π σ H s) (hf:∀ b∈fp,gS X π H b) (ho:∀ b∈fp,∃ o,s.heap.get? b=some o/\∀ v,o.data≠.cell v):Inv X (π++tJ fp s.heap) σ H s :=
 I.uB fun p hp=>(Go.mp hp).elim (fun z=>I.pin p (wS _ z)) fun z=>by
  obtain ⟨hb,e⟩:=YZ z;obtain ⟨f0,f1,f2,_⟩:=hf p.1 hb;obtain ⟨o,e',d⟩:=ho p.1 hb;rw [e] at e';cases e';exact ⟨e,f0,f1,f2,d⟩
def Inv.y8 {π pl:List (Addr×Obj)} {σ:St} {H:Hp} {s:Shared} (I:Inv X (π++pl) σ H s):Inv X π σ H s:=I.uB fun p hp=>I.pin p (wS _ (_a _ hp))
def adh {iter:Expr} {body:List Stmt} {wi:TI} {g:TG} {tb:TS} {pos:Pos} (hp:PassesOwn (model X.prog X.w) X.A X.env X.xe) (hc:X.calm=true) (hi:PI X tg iter wi) (hg:PG X tg g) (hb:dz X body tb)
  (hs:∀ x,foldedSetIterable iter X.env x=pure x:=by intro _;rfl):PS X (.For tg iter body [] pos) (BP wi g tb):=by
 intro π s σ H D I h;refine wpAny_For (aB (hi π s σ H _ I h) fun v s1 h1=>aB h1 fun Fb s2 h2=>?_) hs;obtain ⟨it,fp,tn,J,H2,e,I2,T,kz,f2,W,⟨m0,w0⟩,turn⟩:=h2;subst e
 -- what stays true of ki iterator's objects through ki loop
 have E3:∀ {H':Hp},(∀ b∈fp,H' b=none)->∀ b∈fp,gS X π H' b:=fun hn b hb=>⟨hn b hb,(f2 b hb).2⟩;refine codeAny_forLoop_any (fun n s'=>∃ i σ' H',Inv X π σ' H' s'/\tn i s'.heap/\(∀ b∈fp,H' b=none)/\W i n σ' H') ?_ m0 ⟨0,σ,H2,I2,kz,fun b hb=>(f2 b hb).1,w0⟩;rintro n s3 ⟨i,σ3,H3,I3,Oe,yx,w3⟩;rcases turn i n σ3 H3 w3 with ⟨stop,qn⟩ | ⟨go,N,hN,step⟩
 ·refine XV hp (aB (T.done X rfl rfl rfl hc i π s3 σ3 H3 X.xe I3 (E3 yx) Oe stop) fun r s4 ⟨hr,I4⟩=>?_);subst hr;exact _E ⟨σ3,H3,I4,qn⟩
 ·refine XV hp (aB (T.item X rfl rfl rfl hc i π s3 σ3 H3 X.xe I3 (E3 yx) Oe go) fun r s4 ⟨u,hr,h4⟩=>?_);subst hr;refine XV hp (aB h4 fun _ s5 ⟨x,H5,I5,r5,y5,qV,yz⟩=>?_);have I5':=I5.pinned (E3 yz) (T.obj _ _ qV);refine XV hp (aB (hg _ s5 σ3 H5 x u _ I5' r5 (step x H5 y5)) fun _ s6 ⟨σ6,H6,I6,q6⟩=>?_);refine XV hp (aB (hb _ s6 σ6 H6 _ I6 q6) fun f s7 q7=>?_);have again:∀ {σ7:St} {H7:Hp},Inv X (π++tJ fp s5.heap) σ7 H7 s7->N σ7 H7->∃ m,m < n/\∃ i σ' H',Inv X π σ' H' s7/\tn i s7.heap/\(∀ b∈fp,H' b=none)/\W i m σ' H':=fun {σ7 H7} I7 n7=>by
   obtain ⟨m',hm,w7⟩:=hN σ7 H7 n7;refine ⟨m',hm,i+1,σ7,H7,I7.y8,T.keep _ _ _ qV fun b hb o e=>(I7.pin (b,o) (wS _ (wS _ (v9 hb e)))).1,fun b hb=>?_,w7⟩;obtain ⟨o,e,d⟩:=T.obj _ _ qV b hb;exact (I7.pin (b,o) (wS _ (wS _ (v9 hb e)))).2.1
  cases f with
  | next=>obtain ⟨σ7,H7,I7,n7⟩:=q7;exact again I7 n7
  | cont=>obtain ⟨σ7,H7,I7,n7⟩:=q7;exact again I7 n7
  | brk=>obtain ⟨σ7,H7,I7,q7⟩:=q7;exact ⟨σ7,H7,I7.y8,q7⟩
  | ret v=>obtain ⟨x7,σ7,H7,I7,r7,q7⟩:=q7;exact ⟨x7,σ7,H7,I7.y8,r7,q7⟩
end
def Tu {K:ν} {a:Addr} {xs:List V} {g:TG} {tb:TS} {D:Ends} {σ:St} {H:Hp} (Pv:Nat->St->Hp->Prop) (h0:Pv 0 σ H) (hl:∀ i σ H,i<=xs.length->Pv i σ H->aD K H a xs)
  (hs:∀ i x σ H,xs[i]?=some x->Pv i σ H->g x σ H fun σ2 H2=>tb { D with nx:=Pv (i+1),ct:=Pv (i+1),bk:=D.nx } σ2 H2) (hd:∀ σ H,Pv xs.length σ H->D.nx σ H) :
  ∃ W:Nat->Nat->St->Hp->Prop,(∃ m,W 0 m σ H)/\∀ i m σ H,W i m σ H ->
   ((kM K a).stop i H/\D.nx σ H)\/((kM K a).go i H/\∃ N:St->Hp->Prop,(∀ σ' H',N σ' H'->∃ m',m' < m/\W (i+1) m' σ' H')/\∀ x H',(kM K a).mK i H x H'->g x σ H' fun σ2 H2=>tb { D with nx:=N,ct:=N,bk:=D.nx } σ2 H2):=by
 refine ⟨fun i m σ H=>m=xs.length - i/\i<=xs.length/\Pv i σ H,⟨xs.length,by simp,Da _,h0⟩,?_⟩;rintro i m σ H ⟨rfl,hi,p⟩;have q:=hl i σ H hi p;by_cases bO:i < xs.length
 ·refine .inr ⟨⟨xs,xs[i],q,by simp [bO]⟩,Pv (i+1),fun σ' H' p'=>⟨xs.length - (i+1),by omega,rfl,bO,p'⟩,fun x H' y=>?_⟩;obtain ⟨e,y⟩:=y;subst e;exact hs i x σ _ (y xs q) p
 ·have e:i=xs.length:=by omega
  subst e;exact .inl ⟨⟨xs,q,sK _⟩,hd σ H p⟩
abbrev R2:=V->V->Hp->VK->Prop
def aR (X:Cx) (f:Value->Value->Sem Value) (r:R2):Prop :=
 ∀ (π:List (Addr×Obj)) (s:Shared) (σ:St) (H:Hp) (x y:V) (v u:Value) (Q:VK),Inv X π σ H s->RelV x v->RelV y u->r x y H Q ->
  wpAny (model X.prog X.w) X.A (f v u) (EP X π σ Q) X.xe s
def ud (X:Cx) (f:Value->Sem Value) (r:V->Hp->VK->Prop):Prop :=
 ∀ (π:List (Addr×Obj)) (s:Shared) (σ:St) (H:Hp) (x:V) (v:Value) (Q:VK),Inv X π σ H s->RelV x v->r x H Q ->
  wpAny (model X.prog X.w) X.A (f v) (EP X π σ Q) X.xe s
def cZ (X:Cx) (f:Value) (r:List V->Hp->VK->Prop):Prop :=
 ∀ (π:List (Addr×Obj)) (s:Shared) (σ:St) (H:Hp) (xs:List V) (us:List Value) (Q:VK),Inv X π σ H s->Vals xs us->r xs H Q ->
  wpAny (model X.prog X.w) X.A (call f us) (EP X π σ Q) X.xe s
def cL (r:R2) (ta tb:TE):TE:=fun σ H Q=>ta σ H fun x H1=>tb σ H1 fun y H2=>r x y H2 Q
def BR (r:V->Hp->VK->Prop) (ta:TE):TE:=fun σ H Q=>ta σ H fun x H1=>r x H1 Q
def rI (C:Int->Int->Prop) (g:Int->Int->V):R2:=fun x y H Q=>∃ i j,x=.int i/\y=.int j/\C i j/\Q (g i j) H
def lZ (g:Int->Int->V):R2:=fun x y H Q=>∃ i j,x=.int i/\y=.int j/\Q (g i j) H
def rU (g:Int->V):V->Hp->VK->Prop:=fun x H Q=>∃ i,x=.int i/\Q (g i) H
section
variable {X:Cx} {a b c:Expr} {ta tb tc:TE} {pos:Pos}
def Bo (ha:PE X a ta) (hb:PE X b tb) {π:List (Addr×Obj)} {s:Shared} {σ:St} {H:Hp} {R:V->V->Hp->Prop} (I:Inv X π σ H s)
  (h:ta σ H fun x H1=>tb σ H1 fun y H2=>R x y H2) {Q:Value->Shared->Prop} {f:Value->Value->Sem Value}
  (hf:∀ v u s2 x y H2,Inv X π σ H2 s2->RelV x v->RelV y u->R x y H2->wpAny (model X.prog X.w) X.A (f v u) Q X.xe s2) :
  wpAny (model X.prog X.w) X.A (eval a X.env) (fun v s₁=>wpAny (model X.prog X.w) X.A (eval b X.env) (fun u s₂=>wpAny (model X.prog X.w) X.A (f v u) Q X.xe s₂) X.xe s₁) X.xe s:=by
 refine aB (ha π s σ H _ I h) fun v s1 ⟨x,H1,I1,r1,q1⟩=>?_;refine aB (hb π s1 σ H1 _ I1 q1) fun u s2 ⟨y,H2,I2,r2,q2⟩=>?_;exact hf v u s2 x y H2 I2 r1 r2 q2
def SM {op:Operator} {r:R2} (ho:aR X (binaryOp op) r) (ha:PE X a ta) (hb:PE X b tb):PE X (.BinOp a op b pos) (cL r ta tb):=by
 intro π s σ H Q I h;exact wpAny_BinOp (Bo ha hb I h fun v u s2 x y H2 I2 rx ry q=>ho π s2 σ H2 x y v u Q I2 rx ry q)
def ZL {op:UnaryOp} {r:V->Hp->VK->Prop} (ho:ud X (unaryOp op) r) (ha:PE X a ta):PE X (.UnaryOp op a pos) (BR r ta):=by
 intro π s σ H Q I h;exact UnaryOp_ (aB (ha π s σ H _ I h) fun v s1 ⟨x,H1,I1,r1,q1⟩=>ho π s1 σ H1 x v Q I1 r1 q1)
def xD {f:Value->Value->Sem Value} {C:Int->Int->Prop} {g:Int->Int->Int}
  (rule:∀ (i j:Int) (t u:Tok) (s:Shared) (Q:Value->Shared->Prop) (E:Value->Shared->Prop),C i j->Q (.int (g i j) s.toks) { s with toks:=s.toks+1 }->wpAny (model X.prog X.w) X.A (f (.int i t) (.int j u)) Q E s) :
  aR X f (rI C fun i j=>.int (g i j)):=by
 intro π s σ H x y v u Q I rx ry h;obtain ⟨i,j,rfl,rfl,hc,q⟩:=h;obtain ⟨t,rfl⟩:=rx;obtain ⟨t',rfl⟩:=ry;exact rule i j t t' s _ _ hc ⟨.int (g i j),H,I.tok _,⟨_,rfl⟩,q⟩
def F9 {f:Value->Value->Sem Value} {g:Int->Int->Int}
  (rule:∀ (i j:Int) (t u:Tok) (s:Shared) (Q:Value->Shared->Prop) (E:Value->Shared->Prop),Q (.int (g i j) s.toks) { s with toks:=s.toks+1 }->wpAny (model X.prog X.w) X.A (f (.int i t) (.int j u)) Q E s) :
  aR X f (lZ fun i j=>.int (g i j)):=by
 intro π s σ H x y v u Q I rx ry h;obtain ⟨i,j,rfl,rfl,q⟩:=h;obtain ⟨t,rfl⟩:=rx;obtain ⟨t',rfl⟩:=ry;exact rule i j t t' s _ _ ⟨.int (g i j),H,I.tok _,⟨_,rfl⟩,q⟩
def DO {f:Value->Value->Sem Value} {g:Int->Int->Bool}
  (rule:∀ (i j:Int) (t u:Tok) (s:Shared) (Q:Value->Shared->Prop) (E:Value->Shared->Prop),Q (.bool (g i j)) s->wpAny (model X.prog X.w) X.A (f (.int i t) (.int j u)) Q E s) :
  aR X f (lZ fun i j=>.bl (g i j)):=by
 intro π s σ H x y v u Q I rx ry h;obtain ⟨i,j,rfl,rfl,q⟩:=h;obtain ⟨t,rfl⟩:=rx;obtain ⟨t',rfl⟩:=ry;exact rule i j t t' s _ _ ⟨.bl (g i j),H,I,rfl,q⟩
def Il (i j:Int):Prop:=0 < j/\j < 1073741824
def K8 (i j:Int):Prop:=0<=j/\j<=1000000/\i.natAbs < 2 ^ 64
def we (i j:Int):Prop:=(-(2 ^ 64) < i/\i < 2 ^ 64)\/(-(2 ^ 64) < j/\j < 2 ^ 64)
def we.ok {i j:Int} (h:we i j):IntMulOk i j:=by
 rcases h with ⟨h1,h2⟩ | ⟨h1,h2⟩
 ·exact .of_left (intBits_le_64 h1 h2)
 ·exact .of_right (intBits_le_64 h1 h2)
def aaT:aR X (binaryOp .Add) (lZ fun i j=>.int (i+j)):=F9 fun _ _ _ _ _ _ _ q=>add_int q
def acx:aR X (binaryOp .Sub) (lZ fun i j=>.int (i - j)):=F9 fun _ _ _ _ _ _ _ q=>sub_int q
def V5:aR X (binaryOp .Mult) (rI we fun i j=>.int (i * j)):=xD fun _ _ _ _ _ _ _ hc q=>mul_int q hc.ok
def TF:aR X (binaryOp .FloorDiv) (rI Il fun i j=>.int (i / j)):=xD fun i j _ _ _ _ _ hc q=>by
 have h1:(0:Int) < j:=hc.1;have h2:j < 1073741824:=hc.2;exact floordiv_int (by omega) (by rw [Int.fdiv_eq_ediv_of_nonneg i (by omega)];exact q) (.inl (PyProof.noPylong_small (by omega)))
def Tn:aR X (binaryOp .Mod) (rI (fun _ j=>0 < j) fun i j=>.int (i % j)):=xD fun i j _ _ _ _ _ hc q=>by
 have h1:(0:Int) < j:=hc;exact mod_int' (by omega) (by rw [Int.fmod_eq_emod_of_nonneg i (by omega)];exact q)
def ON:aR X (binaryOp .Pow) (rI K8 fun i j=>.int (i ^ j.toNat)):=xD fun _ _ _ _ _ _ _ hc q=>pow_int_small hc.1 hc.2.1 hc.2.2 q
def unI {f:Value->Sem Value} {g:Int->Int}
  (rule:∀ (i:Int) (t:Tok) (s:Shared) (Q:Value->Shared->Prop) (E:Value->Shared->Prop),Q (.int (g i) s.toks) { s with toks:=s.toks+1 }->wpAny (model X.prog X.w) X.A (f (.int i t)) Q E s) :
  ud X f (rU fun i=>.int (g i)):=by
 intro π s σ H x v Q I rx h;obtain ⟨i,rfl,q⟩:=h;obtain ⟨t,rfl⟩:=rx;exact rule i t s _ _ ⟨.int (g i),H,I.tok _,⟨_,rfl⟩,q⟩
def acM:ud X (unaryOp .USub) (rU fun i=>.int (-i)):=unI fun _ _ _ _ _ q=>neg_int q
end
def wB:V->V->Bool
 | .aq,.aq=>true | .aq,.int _=>true | .int _,.aq=>true | .aq,.bl _=>true | .bl _,.aq=>true | .aq,.str _=>true | .str _,.aq=>true
 | .int _,.int _=>true | .bl _,.bl _=>true | .str _,.str _=>true | .byt _,.byt _=>true
 | .int _,.str _=>true | .str _,.int _=>true | .bl _,.str _=>true | .str _,.bl _=>true
 | _,_=>false
def PX:R2:=fun x y H Q=>wB x y=true/\Q (.bl (decide (x=y))) H
def rNe:R2:=fun x y H Q=>wB x y=true/\Q (.bl (!decide (x=y))) H
def Jv {i j:Int}:decide (V.int i=V.int j)=(i == j):=by
 rw [ZB];simp
def Kg {i j:Bool}:decide (V.bl i=V.bl j)=(i == j):=by
 rw [ZB];simp
def K2 {i j:Str}:decide (V.str i=V.str j)=(i == j):=by
 rw [ZB];simp
def HI {i j:Array UInt8}:decide (V.byt i=V.byt j)=(i.toList == j.toList):=by
 rw [ZB];cases i;cases j;simp
section
variable {X:Cx} {a b c:Expr} {ta tb tc:TE} {pos:Pos}
def cK {π:List (Addr×Obj)} {σ:St} {H:Hp} {s:Shared} {Q:VK} {k k':Bool} (I:Inv X π σ H s) (q:Q (.bl k) H) (e:k=k'):EP X π σ Q (.bool k') s:=by
 subst e;exact ⟨.bl k,H,I,rfl,q⟩
def aaF:aR X (compareOp .Eq) PX:=by
 intro π s σ H x y v u Q I rx ry h;obtain ⟨hs,q⟩:=h;cases x with
 | aq =>
  cases rx;cases y with
  | aq=>cases ry;exact PySem.EqNone.eq_none_none (cK I q (by simp))
  | bl j=>cases ry;exact PySem.EqNone.eq_none_bool (cK I q (by simp))
  | int j=>obtain ⟨t',rfl⟩:=ry;exact PySem.EqNone.eq_none_int (cK I q (by simp))
  | str j=>obtain ⟨t',rfl⟩:=ry;exact PySem.EqNone.eq_none_str (cK I q (by simp))
  | _=>exact absurd (show false=true from hs) ww
 | bl i =>
  cases rx;cases y with
  | aq=>cases ry;exact PySem.EqNone.eq_bool_none (cK I q (by simp))
  | bl j=>cases ry;exact eq_bool (cK I q Kg)
  | str j=>obtain ⟨t',rfl⟩:=ry;exact PySem.EqMixed.eq_bool_str (cK I q (by simp))
  | _=>exact absurd (show false=true from hs) ww
 | int i =>
  obtain ⟨t,rfl⟩:=rx;cases y with
  | aq=>cases ry;exact PySem.EqNone.eq_int_none (cK I q (by simp))
  | int j=>obtain ⟨t',rfl⟩:=ry;exact eq_int (cK I q Jv)
  | str j=>obtain ⟨t',rfl⟩:=ry;exact PySem.EqMixed.eq_int_str (cK I q (by simp))
  | _=>exact absurd (show false=true from hs) ww
 | str i =>
  obtain ⟨t,rfl⟩:=rx;cases y with
  | aq=>cases ry;exact PySem.EqNone.eq_str_none (cK I q (by simp))
  | bl j=>cases ry;exact PySem.EqMixed.eq_str_bool (cK I q (by simp))
  | int j=>obtain ⟨t',rfl⟩:=ry;exact PySem.EqMixed.eq_str_int (cK I q (by simp))
  | str j=>obtain ⟨t',rfl⟩:=ry;exact eq_str (cK I q K2)
  | _=>exact absurd (show false=true from hs) ww
 | byt i =>
  obtain ⟨t,rfl⟩:=rx;cases y with
  | byt j=>obtain ⟨t',rfl⟩:=ry;exact W.eq_bytes (cK I q HI)
  | _=>exact absurd (show false=true from hs) ww
 | _=>cases y <;> exact absurd (show false=true from hs) ww
def abR:aR X (compareOp .NotEq) rNe:=by
 intro π s σ H x y v u Q I rx ry h;obtain ⟨hs,q⟩:=h;cases x with
 | aq =>
  cases rx;cases y with
  | aq=>cases ry;exact PySem.EqNone.ne_none_none (cK I q (by simp))
  | bl j=>cases ry;exact PySem.EqNone.ne_none_bool (cK I q (by simp))
  | int j=>obtain ⟨t',rfl⟩:=ry;exact PySem.EqNone.ne_none_int (cK I q (by simp))
  | str j=>obtain ⟨t',rfl⟩:=ry;exact PySem.EqNone.ne_none_str (cK I q (by simp))
  | _=>exact absurd (show false=true from hs) ww
 | bl i =>
  cases rx;cases y with
  | aq=>cases ry;exact PySem.EqNone.ne_bool_none (cK I q (by simp))
  | bl j=>cases ry;exact ne_bool (cK I q (P3 not Kg))
  | str j=>obtain ⟨t',rfl⟩:=ry;exact PySem.EqMixed.ne_bool_str (cK I q (by simp))
  | _=>exact absurd (show false=true from hs) ww
 | int i =>
  obtain ⟨t,rfl⟩:=rx;cases y with
  | aq=>cases ry;exact PySem.EqNone.ne_int_none (cK I q (by simp))
  | int j=>obtain ⟨t',rfl⟩:=ry;exact ne_int (cK I q (P3 not Jv))
  | str j=>obtain ⟨t',rfl⟩:=ry;exact PySem.EqMixed.ne_int_str (cK I q (by simp))
  | _=>exact absurd (show false=true from hs) ww
 | str i =>
  obtain ⟨t,rfl⟩:=rx;cases y with
  | aq=>cases ry;exact PySem.EqNone.ne_str_none (cK I q (by simp))
  | bl j=>cases ry;exact PySem.EqMixed.ne_str_bool (cK I q (by simp))
  | int j=>obtain ⟨t',rfl⟩:=ry;exact PySem.EqMixed.ne_str_int (cK I q (by simp))
  | str j=>obtain ⟨t',rfl⟩:=ry;exact ne_str (cK I q (P3 not K2))
  | _=>exact absurd (show false=true from hs) ww
 | byt i =>
  obtain ⟨t,rfl⟩:=rx;cases y with
  | byt j=>obtain ⟨t',rfl⟩:=ry;exact W.ne_bytes (cK I q (P3 not HI))
  | _=>exact absurd (show false=true from hs) ww
 | _=>cases y <;> exact absurd (show false=true from hs) ww
def PY:aR X (compareOp .Lt) (lZ fun i j=>.bl (decide (i < j))):=DO fun _ _ _ _ _ _ _ q=>lt_int q
def YW:aR X (compareOp .LtE) (lZ fun i j=>.bl (decide (i<=j))):=DO fun _ _ _ _ _ _ _ q=>le_int q
def abW:aR X (compareOp .Gt) (lZ fun i j=>.bl (decide (j < i))):=DO fun _ _ _ _ _ _ _ q=>gt_int q
def WL:aR X (compareOp .In) (fun x y H Q=>∃ i j,x=.str i/\y=.str j/\Q (.bl (!(Builtin.Str.occurrences j i 0 j.length 1).isEmpty)) H):=by
 intro π s σ H x y v u Q I rx ry h;obtain ⟨i,j,rfl,rfl,q⟩:=h;obtain ⟨t,rfl⟩:=rx;obtain ⟨t',rfl⟩:=ry;exact in_str (cK I q rfl)
def vL:aR X (compareOp .Is) (fun x y H Q=>y=.aq/\Q (.bl (decide (x=.aq))) H):=by
 intro π s σ H x y v u Q I rx ry h;obtain ⟨rfl,q⟩:=h;cases ry;refine is_none_gen (cK I q ?_);cases x <;> first
  | (cases rx;rfl)
  | (obtain ⟨t,rfl⟩:=rx;rfl)
def GG:aR X (compareOp .IsNot) (fun x y H Q=>y=.aq/\Q (.bl (!decide (x=.aq))) H):=by
 intro π s σ H x y v u Q I rx ry h;obtain ⟨rfl,q⟩:=h;cases ry;refine isnot_none_gen (cK I q ?_);cases x <;> first
  | (cases rx;rfl)
  | (obtain ⟨t,rfl⟩:=rx;rfl)
def adL:aR X (compareOp .NotIn) (fun x y H Q=>∃ i j,x=.str i/\y=.str j/\Q (.bl (!(!(Builtin.Str.occurrences j i 0 j.length 1).isEmpty))) H):=by
 intro π s σ H x y v u Q I rx ry h;obtain ⟨i,j,rfl,rfl,q⟩:=h;obtain ⟨t,rfl⟩:=rx;obtain ⟨t',rfl⟩:=ry;exact notIn_str (cK I q rfl)
def aR.or {f:Value->Value->Sem Value} {r r':R2} (h:aR X f r) (h':aR X f r'):aR X f (fun x y H Q=>r x y H Q\/r' x y H Q):=by
 intro π s σ H x y v u Q I rx ry q;rcases q with q | q
 ·exact h π s σ H x y v u Q I rx ry q
 ·exact h' π s σ H x y v u Q I rx ry q
def ZO {op:CmpOp} {r:R2} (ho:aR X (compareOp op) r) (ha:PE X a ta) (hb:PE X b tb) (hm:behindInMarks op b=false):PE X (.Compare a [op] [b] pos) (cL r ta tb):=by
 intro π s σ H Q I h;exact wpAny_Compare1 (Bo ha hb I h fun v u s2 x y H2 I2 rx ry q=>ho π s2 σ H2 x y v u Q I2 rx ry q) hm
def acu {κ:Type} {kvs:List (κ×V)} {vs:List (κ×Value)} (r:KV kvs vs):(!vs.isEmpty)=!kvs.isEmpty:=by
 cases r <;> rfl
def tq:(sizeLine:Nat) < 2 ^ 63:=by rw [_Y];decide
def Xj:aR X (binaryOp .Add) (fun x y H Q=>∃ i j,x=.str i/\y=.str j/\i.length+j.length<=sizeLine/\Q (.str (i++j)) H):=by
 intro π s σ H x y v u Q I rx ry h;obtain ⟨i,j,rfl,rfl,hz,q⟩:=h;obtain ⟨t,rfl⟩:=rx;obtain ⟨t',rfl⟩:=ry;exact add_str (fun t' tk=>⟨.str (i++j),H,I.tok _,⟨_,rfl⟩,q⟩) hz
def vals1 {x:V} {us:List Value} (r:Vals [x] us):∃ u,us=[u]/\RelV x u:=by
 cases r with
 | cons r1 r2=>cases r2;exact ⟨_,rfl,r1⟩
def vals2 {x y:V} {us:List Value} (r:Vals [x,y] us):∃ u w',us=[u,w']/\RelV x u/\RelV y w':=by
 cases r with
 | cons r1 r2 =>
  cases r2 with
  | cons r3 r4=>cases r4;exact ⟨_,_,rfl,r1,r3⟩
def RQ (K:ν) (x:V) (H:Hp) (n:Nat):Prop :=
 match x with
 | .str y=>y.length<=sizeLine/\n=y.length
 | .byt y=>y.size<=sizeLine/\n=y.size
 | .ref p=>(∃ xs,aD K H p xs/\n=xs.length)\/∃ xs,cJ K H p xs/\n=xs.length
 | _=>False
def adi:cZ X (.builtin "len") (fun xs H Q=>∃ x n,xs=[x]/\RQ X.K x H n/\Q (.int n) H):=by
 intro π s σ H xs us Q I r h;obtain ⟨x,n,rfl,e,q⟩:=h;obtain ⟨u,rfl,rx⟩:=vals1 r;have hl:=tq;have hs:sizeLine=16777216:=_Y;cases x with
 | str y =>
  obtain ⟨t,rfl⟩:=rx;obtain ⟨hy,e'⟩:y.length<=sizeLine/\n=y.length:=e;subst e';exact len_str (by omega) ⟨.int _,H,I.tok _,⟨_,rfl⟩,q⟩
 | byt y =>
  obtain ⟨t,rfl⟩:=rx;obtain ⟨hy,e'⟩:y.size<=sizeLine/\n=y.size:=e;subst e';exact W.len_bytes (by omega) ⟨.int _,H,I.tok _,⟨_,rfl⟩,q⟩
 | ref p =>
  cases rx;have e':(∃ xs,aD X.K H p xs/\n=xs.length)\/∃ xs,cJ X.K H p xs/\n=xs.length:=e;rcases e' with ⟨xs,hx,e'⟩ | ⟨xs,hx,e'⟩
  ·subst e';obtain ⟨aj,r',pl,hz⟩:=I.list hx;have hlen:=r'.length;exact Calls.call_len_list pl.isList (by simp only [sB];omega) ⟨.int xs.length,H,I.tok _,⟨_,by simp only [sB];rw [hlen]⟩,q⟩
  ·subst e';obtain ⟨aj,r',pl,hz⟩:=I.tuple hx;have hlen:=r'.length;exact len_tuple pl (by simp only [sB];omega) ⟨.int xs.length,H,I.tok _,⟨_,by simp only [sB];rw [hlen]⟩,q⟩
 | _=>exact (show False from e).elim
end
structure oC (h:Heap) (x dx C:Addr) (mA:Str->Option Value):Prop where
 obj:h.get? x=some (W.instObj C dx)
 ns:h.Ns1 dx mA
 ne:dx≠x
def Wz {h:Heap} {dx:Addr} {mA:Str->Option Value} (n:h.Ns1 dx mA):∃ od,h.get? dx=some od/\∀ name,W.lookIn name od=some (mA name):=by
 obtain ⟨o,es,ep,ho,hd,hk,_,hm⟩:=n;refine ⟨o,ho,fun name=>?_⟩;have e:=hm name;unfold nsFind findBy at e;rw [<- Array.find?_toList] at e;unfold W.lookIn;rw [hd];dsimp only;split
 ·rename_i y q;rw [q] at e;exact P3 some e
 ·rename_i q;rw [q] at e;have a:es.toList.any (·.refKey)=false:=by
   rw [List.any_eq_false];intro y hy;obtain ⟨z,t,hkey⟩:=hk y (Array.mem_toList_iff.mp hy);simp [DictEntry.refKey,hkey]
  have a':¬ es.toList.any (·.refKey)=true:=by rw [a];exact ww
  rw [xL a'];exact P3 some e
def oC.look {h:Heap} {x dx C:Addr} {mA:Str->Option Value} (I:oC h x dx C mA):∃ od,W.InstAt h x (W.instObj C dx) C (some od)/\∀ name,W.lookIn name od=some (mA name) :=
 let ⟨od,ho,hl⟩:=Wz I.ns
 ⟨od,⟨I.obj,rfl,rfl,ho⟩,hl⟩
section
variable {prog:Program} {w:World} {A:Around} {E:Value->Shared->Prop} {s:Shared} {K:ν} {x dx C f:Addr} {mA:Str->Option Value} {name:Str} {v:Value}
def get_map {expr:Bool} {Q:Value->Shared->Prop} (X:K.In s.heap) (I:oC s.heap x dx C mA) (hg:W.plainGet K C name=true) (hh:W.hasDictIn K C=true)
  (ha:W.findIn K (.ref C) name=some none) (hv:mA name=some v) (hv':W.handedIn v=true) (h:Q v { s with toks:=s.toks+1 }) :
  wpAny (model prog w) A (getAttr (.ref x) name expr) Q E s:=by
 obtain ⟨od,J,hl⟩:=I.look;exact W.get_value X J (_6 hg).1 (W.findObj_own hh ha rfl (by rw [hl,hv])) hv' h
def abc {pl:Sem Bool} {Q:Value×List Value->Shared->Prop} (X:K.In s.heap) (I:oC s.heap x dx C mA) (hg:W.plainGet K C name=true)
  (hf:W.findIn K (.ref C) name=some (some (.ref f))) (ht:W.isFn K (.ref f)=true) (hv:mA name=none) (h:Q (.ref f,[.ref x]) s) :
  wpAny (model prog w) A (getMethod (.ref x) name pl) Q E s:=by
 obtain ⟨od,J,hl⟩:=I.look;exact W.method_fn X J (_6 hg).1 (_6 hg).2 hf (WF.mp ht) (by show (W.lookIn name od).map (·.isSome)=some false;rw [hl,hv];rfl) h
def Q8 {ns:List Str} {Q:Unit->Shared->Prop} (X:K.In s.heap) (I:oC s.heap x dx C mA)
  (hs:W.findIn K (.ref C) "__setattr__" = some (some (.builtin "object.__setattr__"))) (hp:W.plainOver K C=true) (ht:W.takerIn K C name=some none) (hh:W.hasDictIn K C=true)
  (hw:PySem.Within mA ns) (hsz:ns.length<=sizeLine)
  (h:∀ h',oC h' x dx C (fun y=>if y=name then some v else mA y)->Heap.SameBut dx s.heap h'->Q () { s with heap:=h',toks:=s.toks+2 }) :
  wpAny (model prog w) A (setAttr (.ref x) name v) Q E s:=by
 obtain ⟨od,J,hl⟩:=I.look;refine W.set_plain X J hs (W.osa_open (s:={ s with toks:=s.toks+1 }) (r:=none) X J hp ht fun b=>?_);obtain ⟨cd,hc,hd'⟩:=W.any_some hh;have hx:s.heap.get? x=some ⟨.ref C,some dx,.plain,#[]⟩:=I.obj;refine li (sw (li (li (_j hx (li (W.Looks.here (s:={ s with toks:=s.toks+1 }) (W.looks_clsIn X hc) ?_))))));rw [hd'];refine sw (a:=some dx) (li (sw (li ?_)));refine wpAny_nsSet1 (s:={ s with toks:=s.toks+1 }) I.ns fun h' fv xP=>?_;obtain ⟨oD,esD,epD,EH,Ea,Fm⟩:=fv.count (PySem.Within.cons name v hw);refine li (wpAny_lookBehind EH (by rw [Ea];exact pastItsLine_dict (wl Fm (by rw [FB];omega))) ?_);exact sw (h _ ⟨(xP.2 _ (pp I.ne)).trans I.obj,fv,I.ne⟩ xP)
def Ud {R:Result->Shared->Prop} {vs:List Value} {kw:List (Str×Value)} (X:K.In s.heap) (hm:W.makesIn K C=true)
  (hi:W.findIn K (.ref C) "__init__" = some (some (.ref f))) (hf:W.typeIn K (.ref f)=some (.type "function"))
  (h:codeAny (model prog w) (A.under (.builtin "type.__call__" ⟨.ref C::vs,kw⟩)) (.call (.ref f) ⟨.ref (s.heap.objs.size+1)::vs,kw⟩) (W.InitBack (s.heap.objs.size+1) R)
   { s with heap:=(s.heap.push W.emptyDict).push (W.instObj C s.heap.objs.size) }) :
  codeAny (model prog w) A (.call (.ref C) ⟨vs,kw⟩) R s:=by
 obtain ⟨hh,g,d,t,os⟩:=s;exact W.make_core (W.makes_of X hm) (GE X hi) (fun self=>W.bind_fn X self hf) (.inl rfl) h
end
def ax (f:Str) (v:V):List (Str×V)->List (Str×V)
 | []=>[(f,v)]
 | (g,x)::r=>if g=f then (g,v)::r else (g,x)::ax f v r
def eL (f g:Str) (v:V):∀ fs:List (Str×V),(ax f v fs).lookup g=if g=f then some v else fs.lookup g
 | []=>by
  show List.lookup g [(f,v)]=_;by_cases h:g=f
  ·have hb:(g == f)=true:=WF.mpr h;simp only [List.lookup,hb,At h]
  ·have hb:(g == f)=false:=EQ.mpr h;simp only [List.lookup,hb,xL h]
 | (k,x)::r=>by
  have ih:=eL f g v r;rw [show ax f v ((k,x)::r)=(if k=f then (k,v)::r else (k,x)::ax f v r) from rfl];by_cases hk:k=f
  ·rw [At hk];by_cases h:g=k
   ·have hb:(g == k)=true:=WF.mpr h;simp only [List.lookup,hb,At (h.trans hk)]
   ·have hb:(g == k)=false:=EQ.mpr h;simp only [List.lookup,hb,xL (fun e:g=f=>h (e.trans hk.symm))]
  ·rw [xL hk];by_cases h:g=k
   ·have hb:(g == k)=true:=WF.mpr h;simp only [List.lookup,hb,xL (fun e:g=f=>hk (h.symm.trans e))]
   ·have hb:(g == k)=false:=EQ.mpr h;simp only [List.lookup,hb];exact ih
def Ai (f:Str) (v:V):∀ fs:List (Str×V),f∈(ax f v fs).map (·.1)/\∀ g,g∈fs.map (·.1)->g∈(ax f v fs).map (·.1)
 | []=>⟨by simp [ax],fun g h=>by simp at h⟩
 | (k,x)::r=>by
  obtain ⟨i1,i2⟩:=Ai f v r;rw [show ax f v ((k,x)::r)=(if k=f then (k,v)::r else (k,x)::ax f v r) from rfl];by_cases hk:k=f
  ·rw [At hk];subst hk;exact ⟨by simp,fun g h=>by simpa using h⟩
  ·rw [xL hk];refine ⟨?_,fun g h=>?_⟩
   ·rw [wT];exact Db _ i1
   ·rw [wT] at h ⊢;rcases lv.mp h with e | e
    ·exact lv.mpr (.inl e)
    ·exact Db _ (i2 g e)
def Cy (f:Str) (v:V):∀ fs:List (Str×V),(ax f v fs).length<=fs.length+1
 | []=>by simp [ax]
 | (k,x)::r=>by
  have ih:=Cy f v r;rw [show ax f v ((k,x)::r)=(if k=f then (k,v)::r else (k,x)::ax f v r) from rfl];by_cases hk:k=f
  ·rw [At hk,FB,FB];omega
  ·rw [xL hk,FB,FB];omega
def eM.some_of {v:V} {o:Option Value} (r:eM (some v) o):∃ u,o=some u/\RelV v u:=by
 cases o with
 | none=>exact (show False from r).elim
 | some u=>exact ⟨u,rfl,r⟩
def eM.none_of {o:Option Value} (r:eM none o):o=none:=by
 cases o with
 | none=>rfl
 | some u=>exact (show False from r).elim
def Z4 {v:V} {u:Value} (r:RelV v u):W.handedIn u=true:=by
 cases v with
 | aq=>cases (show u=Value.none from r);rfl
 | bl b=>cases (show u=Value.bool b from r);rfl
 | int i=>obtain ⟨t,e⟩:=(show ∃ t,u=Value.int i t from r);cases e;rfl
 | str x=>obtain ⟨t,e⟩:=(show ∃ t,u=Value.str x t from r);cases e;rfl
 | byt b=>obtain ⟨t,e⟩:=(show ∃ t,u=Value.bytes b t from r);cases e;rfl
 | oA b=>obtain ⟨t,e⟩:=(show ∃ t,u=Value.float b t from r);cases e;rfl
 | ref a=>cases (show u=Value.ref a from r);rfl
 | ty n=>cases (show u=Value.type n from r);rfl
section
variable {P:Program} {w:World} {H H':Hp} {h h':Heap} {a C dx:Addr} {fs fs':List (Str×V)}
def vc (ay:cg P w H h) (e:H a=some (.ins C dx fs)):∃ mA,oC h a dx C mA/\(∀ f,eM (fs.lookup f) (mA f))/\PySem.Within mA (fs.map (·.1))/\fs.length<=1000/\H dx=some (.own a):=by
 obtain ⟨d,z,ne,ob,mA,n,r,q⟩:=(show bR P w H h a (.ins C dx fs) from ay a _ e);exact ⟨mA,⟨ob,n,ne⟩,r,q,z,d⟩
end
structure cX (K:ν) (C:Addr):Prop where
 pg:W.plainGet K C Str.empty=true
 hd:W.hasDictIn K C=true
 po:W.plainOver K C=true
 sa:W.findIn K (.ref C) "__setattr__" = some (some (.builtin "object.__setattr__"))
def cX.get {K:ν} {C:Addr} (c:cX K C) (f:Str):W.plainGet K C f=true:=c.pg
def bw (K:ν) (C:Addr) (f:Str):Prop:=W.findIn K (.ref C) f=some none
def bw.abw {K:ν} {C:Addr} {f:Str} (n:bw K C f):W.takerIn K C f=some none:=by
 unfold W.takerIn;rw [show W.findIn K (.ref C) f=some none from n];rfl
structure Con (K:ν) (C:Addr) (f:Str) (v:V) (u:Value):Prop where
 at_:W.findIn K (.ref C) f=some (some u)
 rel:RelV v u
 get:W.specialIn K u "__get__" = some none
 cp:W.copiedNames.contains f=false
structure Meth (K:ν) (C:Addr) (m:Str) (f:Addr):Prop where
 at_:W.findIn K (.ref C) m=some (some (.ref f))
 fn:W.isFn K (.ref f)=true
 kp:W.keepIn K (.ref f)=true
section
variable {X:Cx} {π:List (Addr×Obj)} {σ:St} {H:Hp} {s:Shared} {a C dx:Addr} {fs:List (Str×V)} {f:Str} {v:V} {A:Around} {E:Value->Shared->Prop}
def Mw {b:Bool} {Q:Value->Shared->Prop} (I:Inv X π σ H s) (e:H a=some (.ins C dx fs)) (c:cX X.K C) (n:bw X.K C f) (l:fs.lookup f=some v)
  (h:∀ u s',Inv X π σ H s'->RelV v u->Q u s'):wpAny (model X.prog X.w) A (getAttr (.ref a) f b) Q E s:=by
 obtain ⟨mA,O,r,_,_,_⟩:=vc I.ay e;obtain ⟨u,hu,ru⟩:=eM.some_of (v:=v) (o:=mA f) (by rw [<- l];exact r f);exact get_map I.bX O (c.get f) c.hd n hu (Z4 ru) (h u _ (I.tok _) ru)
def yY {m:Str} {g:Addr} {pl:Sem Bool} {Q:Value×List Value->Shared->Prop} (I:Inv X π σ H s) (e:H a=some (.ins C dx fs)) (c:cX X.K C) (k:Meth X.K C m g) (l:fs.lookup m=none)
  (h:Q (.ref g,[.ref a]) s):wpAny (model X.prog X.w) A (getMethod (.ref a) m pl) Q E s:=by
 obtain ⟨mA,O,r,_,_,_⟩:=vc I.ay e;have hn:mA m=none:=eM.none_of (by rw [<- l];exact r m);exact abc I.bX O (c.get m) k.at_ k.fn hn h
def Le {y:V} {u:Value} {Q:Unit->Shared->Prop} (I:Inv X π σ H s) (e:H a=some (.ins C dx fs)) (c:cX X.K C) (n:bw X.K C f) (hl:fs.length < 1000) (ry:RelV y u)
  (h:∀ s',Inv X π σ (upd H a (.ins C dx (ax f y fs))) s'->Q () s'):wpAny (model X.prog X.w) A (setAttr (.ref a) f u) Q E s:=by
 obtain ⟨mA,O,r,wi,_,ho⟩:=vc I.ay e;have hz:(fs.map (·.1)).length<=sizeLine:=by rw [ss,_Y];omega
 refine Q8 I.bX O c.sa c.po n.abw c.hd wi hz fun h' O' sb=>h _ ?_;have hd:∃ o,h'.get? dx=some o:=let ⟨o,_,_,e',_⟩:=O'.ns;⟨o,e'⟩
 refine I.write (x:=a) (e:=dx) (by rw [e];exact True.intro) (.inr ho) (fun b q hb z=>(sb.2 b hb).trans z) hd ?_;refine ⟨by rw [ag O.ne];exact ho,?_,O.ne,O'.obj,_,O'.ns,fun g=>?_,fun g hg=>?_⟩
 ·have:=Cy f y fs;omega
 ·show eM ((ax f y fs).lookup g) (if g=f then some u else mA g);rw [eL];by_cases q:g=f
  ·rw [At q,At q];exact ry
  ·rw [xL q,xL q];exact r g
 ·by_cases q:g=f
  ·rw [q];exact (Ai f y fs).1
  ·refine (Ai f y fs).2 g (wi g fun z=>hg ?_);show (if g=f then some u else mA g)=none;rw [xL q];exact z
def Inv.made (I:Inv X π σ H s):Inv X π σ (upd (upd H s.heap.objs.size (.own (s.heap.objs.size+1))) (s.heap.objs.size+1) (.ins C s.heap.objs.size []))
  { s with heap:=(s.heap.push W.emptyDict).push (W.instObj C s.heap.objs.size) }:=by
 have e1:(s.heap.push W.emptyDict).get? s.heap.objs.size=some W.emptyDict:=wn s.heap rfl;have e2:((s.heap.push W.emptyDict).push (W.instObj C s.heap.objs.size)).get? (s.heap.objs.size+1)=some (W.instObj C s.heap.objs.size):=by
  have:=wn (s.heap.push W.emptyDict) (o:=W.instObj C s.heap.objs.size) rfl
  rwa [_t] at this
 have e3:(s.heap.push W.emptyDict).Ns s.heap.objs.size (fun _=>none):=⟨W.emptyDict,#[],_,e1,rfl,(fun e he=>absurd he (by simp)),fun _=>rfl⟩;have I1:=I.laid (a:=s.heap.objs.size) (o:=.own (s.heap.objs.size+1)) (h':=s.heap.push W.emptyDict) (t':=s.toks) (fun b u q=>pc _ q) (sK _) ⟨_,e1⟩;refine I1.laid (a:=s.heap.objs.size+1) (o:=.ins C s.heap.objs.size []) (t':=s.toks) (fun b u q=>pc _ q) (Nat.le_of_eq (_t _ _)) ?_;have ne:s.heap.objs.size≠s.heap.objs.size+1:=zn (KM _);refine ⟨by rw [ag ne,au],Da _,ne,e2,fun _=>none,(Heap.Ns1.of_empty e3).at fun o q=>pc _ q,fun _=>True.intro,fun y hy=>absurd rfl hy⟩
def LC {prog:Program} {w:World} {env:Env} {e:Expr} {f:Str} {pos:Pos} {s:Shared} {Q:Value->Shared->Prop} (hb:attributeBase e f env (eval e env)=eval e env)
  (h:wpAny (model prog w) A (eval e env) (fun o s₁=>wpAny (model prog w) A (getAttr o f true) Q E s₁) E s):wpAny (model prog w) A (eval (.Attribute e f pos) env) Q E s :=
 Attribute_any_ h (by rw [arm_eval_Attribute,hb])
end
def yN (X:Cx) (op:Operator) (rd:V->V->Hp->VK->Prop):Prop :=
 ∀ (π:List (Addr×Obj)) (s:Shared) (σ:St) (H:Hp) (x y:V) (u v:Value) (Q:VK),Inv X π σ H s->RelV x u->RelV y v->rd x y H Q->wpAny (model X.prog X.w) X.A (inplaceOp op u v) (EP X π σ Q) X.xe s
section
variable {X:Cx} {o e value:Expr} {f:Str} {pos pos' rf:Pos} {ta tv:TE}
def Lz:V->V->Hp->VK->Prop:=fun x y H Q=>∃ i j,x=.int i/\y=.int j/\Q (.int (i+j)) H
def jW:yN X .Add Lz:=by
 rintro π s σ H x y u v Q I rx ry ⟨i,j,rfl,rfl,q⟩;obtain ⟨t,rfl⟩:=(show ∃ t,u=Value.int i t from rx);obtain ⟨t',rfl⟩:=(show ∃ t',v=Value.int j t' from ry);exact PyProof.Rows.iadd_int ⟨.int (i+j),H,I.tok _,⟨_,rfl⟩,q⟩
end
section
variable {X:Cx} {π:List (Addr×Obj)} {σ:St} {H:Hp} {s:Shared} {A:Around} {E:Value->Shared->Prop} {Q:Value->Shared->Prop} {c:Value} {b:Bool}
inductive fV (K:ν) (H:Hp):V->Value->Prop where
 | aq:fV K H .aq (.type "NoneType")
 | bl (x:Bool):fV K H (.bl x) (.type "bool")
 | int (i:Int):fV K H (.int i) (.type "int")
 | str (x:Str):fV K H (.str x) (.type "str")
 | oA (x:UInt64):fV K H (.oA x) (.type "float")
 | lst {a:Addr} {xs:List V} (e:H a=some (.lst xs)):fV K H (.ref a) (.type "list")
 | cO {a:Addr} {o:Obj} {xs:List V} (e:H a=some (.cO o (.lst xs))):fV K H (.ref a) (.type "list")
 | tup {a:Addr} {xs:List V} (e:H a=some (.tup xs)):fV K H (.ref a) (.type "tuple")
 | dK {a:Addr} {kvs:List (Key×V)} (e:H a=some (.dK kvs)):fV K H (.ref a) (.type "dict")
 | dT {a:Addr} {kvs:List (List Key×V)} (e:H a=some (.dT kvs)):fV K H (.ref a) (.type "dict")
 | ins {a C dx:Addr} {fs:List (Str×V)} (e:H a=some (.ins C dx fs)) (cl:cX K C) (ha:W.findIn K (.ref C) "__class__" = some (some (.builtin "object.__class__")))
   (hn:W.specialIn K (.builtin "object.__class__") "__get__" = some (some (.builtin "getset_descriptor.__get__"))) (fe:W.takesIn K (.builtin "object.__class__")=some true)
   (hm:W.mroIn K C (.type "object")=some true):fV K H (.ref a) (.ref C)
def zy {x:V} {u t:Value} (I:Inv X π σ H s) (rx:RelV x u) (ty:fV X.K H x t) (e:W.kitOne X.K t c=some b) (h:∀ tk,Q (.bool b) { s with toks:=tk }) :
  wpAny (model X.prog X.w) A (call (.builtin "isinstance") [u,c]) Q E s:=by
 cases ty with
 | aq=>cases (show u=Value.none from rx);exact IO W.kitx_none I.bX True.intro e (fun z=>nomatch z) h
 | bl y=>cases (show u=Value.bool y from rx);exact IO W.kitx_bool I.bX True.intro e (fun z=>nomatch z) h
 | int i=>obtain ⟨t,q⟩:=(show ∃ t,u=Value.int i t from rx);cases q;exact IO W.kitx_int I.bX True.intro e (fun z=>nomatch z) h
 | str y=>obtain ⟨t,q⟩:=(show ∃ t,u=Value.str y t from rx);cases q;exact IO W.kitx_str I.bX True.intro e (fun z=>nomatch z) h
 | oA y=>obtain ⟨t,q⟩:=(show ∃ t,u=Value.float y t from rx);cases q;exact IO W.kitx_float I.bX True.intro e (fun z=>nomatch z) h
 | @lst a xs ea =>
  cases (show u=Value.ref a from rx);obtain ⟨_,_,n,_,h1⟩:=(show bR X.prog X.w H s.heap a (.lst xs) from I.ay a _ ea);exact IO W.kitx_list I.bX ⟨_,h1,rfl⟩ e (fun z=>nomatch z) h
 | @cO a ob xs ea =>
  cases (show u=Value.ref a from rx);obtain ⟨_,_,_,n,_,h1⟩:=(show bR X.prog X.w H s.heap a (.cO ob (.lst xs)) from I.ay a _ ea);exact IO W.kitx_list I.bX ⟨_,h1,rfl⟩ e (fun z=>nomatch z) h
 | @tup a xs ea =>
  cases (show u=Value.ref a from rx);obtain ⟨_,_,_,p⟩:=(show bR X.prog X.w H s.heap a (.tup xs) from I.ay a _ ea);obtain ⟨o,h1,h2,_⟩:=p;exact IO W.kitx_tuple I.bX ⟨o,h1,h2⟩ e (fun z=>nomatch z) h
 | @dK a kvs ea =>
  cases (show u=Value.ref a from rx);obtain ⟨_,_,vs,_,p⟩:=(show bR X.prog X.w H s.heap a (.dK kvs) from I.ay a _ ea);obtain ⟨o,es,ep,h1,h2,_⟩:=p;exact IO W.kitx_dict I.bX ⟨o,h1,h2.1⟩ e (fun z=>nomatch z) h
 | @dT a kvs ea =>
  cases (show u=Value.ref a from rx);obtain ⟨_,_,xs,_,o,es,ep,h1,h2,_⟩:=(show bR X.prog X.w H s.heap a (.dT kvs) from I.ay a _ ea);exact IO W.kitx_dict I.bX ⟨o,h1,h2.1⟩ e (fun z=>nomatch z) h
 | @ins a C dx fs ea cl ha hn fe hm =>
  cases (show u=Value.ref a from rx);obtain ⟨mA,O,_⟩:=vc I.ay ea;obtain ⟨od,J,_⟩:=O.look;exact IO (W.kitx_own (cl.get _) cl.hd ha hn fe hm) I.bX J e (fun z=>nomatch z) h
end
structure bb (k:Nat) (A:Around):Prop where
 hd:A.handled=none
 dp:A.depth+3 * k+5 < recursionLimit
 un:A.units+16 * k+200 < cLine
def bb.mono {j k:Nat} {A:Around} (r:bb k A) (h:j<=k):bb j A:=⟨r.hd,by have:=r.dp;omega,by have:=r.un;omega⟩
def bb.deeper {k:Nat} {A:Around} (r:bb (k+1) A) (env:Env):bb k (A.deeper env) :=
 ⟨r.hd,by have:=r.dp;show A.depth+1+3 * k+5 < _;omega,by have:=r.un;show A.units+3+16 * k+200 < _;omega⟩
def Tv {A:Around} {C:Addr} {us:List Value} {kw:List (Str×Value)}:(A.under (.builtin "type.__call__" ⟨.ref C::us,kw⟩)).depth=A.depth+1:=by
 first | rfl | simp [Around.under,Code.weight,Code.isCreation,Code.isGuard,Code.isCaller,Code.frames,Code.isFrame,guardIds]
def XG {A:Around} {C:Addr} {us:List Value} {kw:List (Str×Value)}:(A.under (.builtin "type.__call__" ⟨.ref C::us,kw⟩)).units=A.units+1:=by
 first | rfl | simp [Around.under,Code.cUnits,Code.frames,Code.isFrame]
def bb.make {k:Nat} {A:Around} (r:bb (k+1) A) (C:Addr) (us:List Value) (kw:List (Str×Value)):bb k (A.under (.builtin "type.__call__" ⟨.ref C::us,kw⟩)) :=
 ⟨r.hd,by have:=r.dp;rw [Tv];omega,by have:=r.un;rw [XG];omega⟩
def bb.depth {k:Nat} {A:Around} (r:bb k A):A.depth < recursionLimit:=by have:=r.dp;omega
def bb.units {k:Nat} {A:Around} (r:bb k A):A.units+64 < cLine:=by have:=r.un;omega
def bb.kO {k:Nat} {A:Around} (r:bb k A):A.units < cLine:=by have:=r.un;omega
def lV:TA:=fun _ H Q=>Q [] H
def qi (ta:TE) (tr:TA):TA:=fun σ H Q=>ta σ H fun x H1=>tr σ H1 fun xs H2=>Q (x::xs) H2
section
variable {X:Cx} {e:Expr} {es:List Expr} {te:TE} {t:TA} {pos:Pos}
def aan:PA X [] lV:=fun _ _ _ _ H Q I h=>Tk ⟨[],H,I,.nil,h⟩
def Rw (ha:PE X e te) (hr:PA X es t) (hs:starEach (e::es) X.env=(false,eval e X.env)::starEach es X.env:=by rfl):PA X (e::es) (qi te t):=by
 intro pos π s σ H Q I h;rw [hs];show wpAny _ _ (spliced ((false,eval e X.env)::backTo pos (starEach es X.env))) _ _ s;refine SL (aB (ha π s σ H _ I h) fun u s1 ⟨x,H1,I1,r1,q1⟩=>?_);exact aB (hr pos π s1 σ H1 _ I1 q1) fun us s2 ⟨xs,H2,I2,r2,q2⟩=>⟨x::xs,H2,I2,.cons r1 r2,q2⟩
def v8 (t:TA):TE:=fun σ H Q=>t σ H fun xs H1=>xs.length<=sizeLine/\∀ p,H1 p=none->Q (.ref p) (upd H1 p (.tup xs))
def C4 (t:TA):TE:=fun σ H Q=>t σ H fun xs H1=>xs.length<=sizeLine/\∀ p,H1 p=none->Q (.ref p) (upd H1 p (.lst xs))
def aax {x1} (h:PA X es t):PE X (.Tuple es x1 pos) (v8 t):=by
 intro π s σ H Q I hq;refine wpAny_Tuple_spliced (aB (h pos π s σ H _ I hq) fun us s1 ⟨xs,H1,I1,r,z,q⟩=>⟨by rw [<- r.length];exact z,?_⟩);have hf:H1 s1.heap.objs.size=none:=I1.ay.fresh (sK _);refine ⟨.ref s1.heap.objs.size,upd H1 s1.heap.objs.size (.tup xs),I1.laid (t':=s1.toks) (fun b u e=>pc _ e) (sK _) ?_,rfl,q _ hf⟩;exact ⟨z,us,r,⟨_,wn _ rfl,rfl,_,rfl,rfl⟩⟩
def XF (h:PA X es t):PE X (.List es pos) (C4 t):=by
 intro π s σ H Q I hq;refine wpAny_List_spliced (aB (h pos π s σ H _ I hq) fun us s1 ⟨xs,H1,I1,r,z,q⟩=>⟨by rw [<- r.length];exact z,?_⟩);have hf:H1 s1.heap.objs.size=none:=I1.ay.fresh (sK _);refine ⟨.ref s1.heap.objs.size,upd H1 s1.heap.objs.size (.lst xs),I1.laid (t':=s1.toks) (fun b u e=>pc _ e) (sK _) ?_,rfl,q _ hf⟩;exact ⟨z,us,0,r,wn _ rfl⟩
end
abbrev Sp:=List V->Hp->VK->XK->Prop
abbrev dW:=List Env->Hp->Shared->XK->Value->Shared->Prop
structure kS (P:Program) (w:World) (K:ν) (mg:Str->Option Value) (base:Heap) (A:Around) (outer:List Env) (s:Shared) (H:Hp):Prop where
 frames:A.frames=some outer
 mod:Mod K mg base
 bs:∀ b o,base.get? b=some o->s.heap.get? b=some o/\H b=none
 gY:base.objs.size<=s.heap.objs.size
 fz:s.heap.FunFrames base outer
 jk:∀ b∈bL outer,H b=none
 ay:cg P w H s.heap
 bare:AllBare s.gens
def CE (outer:List Env) (P:Program) (w:World) (H:Hp) (s:Shared) (Q:VK) (u:Value) (s':Shared):Prop :=
 ∃ v H',s'.os=s.os/\AllBare s'.gens/\Un (bL outer) [] H H' s.heap s'.heap/\cg P w H' s'.heap/\RelV v u/\Q v H'
def CR (CX:dW) (outer:List Env) (P:Program) (w:World) (H:Hp) (s:Shared) (Q:VK) (E:XK) (r:Result) (s':Shared):Prop :=
 match r with
 | .ok (.ret u)=>CE outer P w H s Q u s'
 | .ok _=>False
 | .error e=>CX outer H s E e s'
structure aA (P:Program) (w:World) (K:ν) (mg:Str->Option Value) (base:Heap) (CX:dW) (k:Nat) (f:Addr) (fd:FuncData) (ps:List Str) (sp:Sp):Prop where
 len:∀ vs H Q E,sp vs H Q E->vs.length=ps.length
 run:∀ (A:Around) (outer:List Env) (s:Shared) (H:Hp) (args:Args) (us:List Value) (vs:List V) (Q:VK) (E:XK),bb k A->kS P w K mg base A outer s H->BindsTo s fd args (ps.zip us)->Vals vs us->sp vs H Q E ->
  codeAny (model P w) A (.call (.ref f) args) (CR CX outer P w H s Q E) s
def kS.make {P:Program} {w:World} {K:ν} {mg:Str->Option Value} {base:Heap} {A:Around} {outer:List Env} {s:Shared} {H:Hp} (e:kS P w K mg base A outer s H) (C:Addr) (us:List Value) (kw:List (Str×Value)) :
  kS P w K mg base (A.under (.builtin "type.__call__" ⟨.ref C::us,kw⟩)) outer s H:=⟨by first | exact e.frames | (simpa [Around.under,Code.envs,Code.isFrame,pushEnvs] using e.frames),e.mod,e.bs,e.gY,e.fz,e.jk,e.ay,e.bare⟩
section
variable {X:Cx} {π:List (Addr×Obj)} {σ:St} {H:Hp} {s s':Shared}
def Inv.qQ (I:Inv X π σ H s):kS X.prog X.w X.K X.mg X.base X.A X.stack s H :=
 ⟨I.ok.frames,I.ok.mod,I.bs,wl I.ok.gY I.sz,I.stack,I.vN,I.ay,I.bare⟩
def Inv.after {Q:VK} {u:Value} (I:Inv X π σ H s) (h:CE X.stack X.prog X.w H s Q u s'):EP X π σ Q u s':=by
 obtain ⟨v,H',os,bare,un,ay,r,q⟩:=h;obtain ⟨hh,g,d,t,os'⟩:=s';obtain rfl:os'=s.os:=os;exact ⟨v,H',I.call (h':=hh) (g':=g) (d':=d) (t':=t) (ch:=[]) un ay bare (fun b z=>absurd z (by simp)),r,q⟩
end
def xC (sp:Sp) (bj:List V) (E:XK) (t:TA):TE:=fun σ H Q=>t σ H fun vs H1=>sp (vs++bj) H1 Q E
inductive MI (C:Addr) (m:Str) (x:V) (H:Hp) (q:Prop):Prop
 | mk:∀ a dx fs,x=.ref a->H a=some (.ins C dx fs)->fs.lookup m=none->q->MI C m x H q
def uq (C:Addr) (m:Str) (sp:Sp) (bj:List V) (E:XK) (ta:TE) (t:TA):TE:=fun σ H Q=>ta σ H fun x H1=>MI C m x H1 (t σ H1 fun vs H2=>sp (x::(vs++bj)) H2 Q E)
def r9 (C:Addr) (sp:Sp) (bj:List V) (E:XK) (t:TA):TE:=fun σ H Q=>t σ H fun vs H1=>∀ x dx,H1 x=none->H1 dx=none->dx≠x ->
 sp (.ref x::(vs++bj)) (upd (upd H1 dx (.own x)) x (.ins C dx [])) (fun v H2=>v=.aq/\Q (.ref x) H2) E
def Binds (K:ν) (fd:FuncData) (ps:List Str) (ds:List Value):Prop :=
 ∀ (s:Shared) (us:List Value),K.In s.heap->(us++ds).length=ps.length->BindsTo s fd ⟨us,[]⟩ (ps.zip (us++ds))
def Binds.all {K:ν} {fd:FuncData} {ps:List Str} (h:∀ us:List Value,us.length=ps.length->bindArgs fd ⟨us,[]⟩=pure (ps.zip us)):Binds K fd ps []:=fun s us _ hl=>by
 rw [_1] at hl ⊢;exact .of_eq (h us hl)
def Passes (CX:dW) (X:Cx) (E:XK):Prop:=∀ (π:List (Addr×Obj)) (σ:St) (H:Hp) (s:Shared) (e:Value) (s':Shared),Inv X π σ H s->CX X.stack H s E e s'->X.xe e s'
section
variable {X:Cx} {CX:dW} {k:Nat} {f C:Addr} {fd:FuncData} {ps:List Str} {sp:Sp} {bj:List V} {ds:List Value} {E:XK} {x m:Str} {p pos apos:Pos} {e o:Expr} {es:List Expr} {ta:TE} {t:TA}
def AY {π:List (Addr×Obj)} {σ:St} {H:Hp} {s:Shared} {Q:VK} {us:List Value} {vs:List V} (F:aA X.prog X.w X.K X.mg X.base CX k f fd ps sp) (hr:bb k X.A) (hb:Binds X.K fd ps ds) (hd:Vals bj ds) (hx:Passes CX X E)
  (I:Inv X π σ H s) (r:Vals vs us) (h:sp (vs++bj) H Q E):wpAny (model X.prog X.w) X.A (call (.ref f) us) (EP X π σ Q) X.xe s:=by
 have r2:Vals (vs++bj) (us++ds):=r.append hd;have hl:(us++ds).length=ps.length:=by rw [<- r2.length];exact F.len _ _ _ _ h
 refine WP (_b (F.run X.A X.stack s H ⟨us,[]⟩ (us++ds) (vs++bj) Q E hr I.qQ (hb s us I.bX hl) r2 h) fun r s' hq=>?_);cases r with
 | error e=>exact hx π σ H s e s' I hq
 | ok fl =>
  cases fl with
  | ret u=>exact I.after hq
  | next=>exact False.elim hq
  | brk=>exact False.elim hq
  | cont=>exact False.elim hq
def Xn (F:aA X.prog X.w X.K X.mg X.base CX k f fd ps sp) (hr:bb k X.A) (hg:Gl X x) (hm:X.mg x=some (.ref f)) (hk:W.keepIn X.K (.ref f)=true) (hb:Binds X.K fd ps ds) (hd:Vals bj ds) (hx:Passes CX X E)
  (ha:PA X (e::es) t) (bM:(x == ("__debug__":Str))=false:=by decide) (he:starEach (e::es) X.env=(false,eval e X.env)::starEach es X.env:=by rfl) (bY:(backTo pos (starEach es X.env)).any (·.1)=false:=by rfl) :
  PE X (.Call (.Name x p) (e::es) [] pos) (xC sp bj E t):=by
 intro π s σ H Q I h;refine FM (kJ I hg hm ?_ bM);refine ST (h₀:=X.base) I.ok.mod.il hk (aB (ha pos π s σ H _ I h) fun us s1 ⟨vs,H1,I1,r,q⟩=>⟨I1.bX,?_⟩) he bY;exact AY F hr hb hd hx I1 r q
def U1 {pl:Sem Bool} (he:PE X o ta) (c:cX X.K C) (hm:Meth X.K C m f) (F:aA X.prog X.w X.K X.mg X.base CX k f fd ps sp) (hr:bb k X.A) (hb:Binds X.K fd ps ds) (hd:Vals bj ds) (hx:Passes CX X E) (ha:PA X (e::es) t)
  (aJ:starEach (e::es) X.env=(false,eval e X.env)::starEach es X.env:=by rfl) (bY:(backTo pos (starEach es X.env)).any (·.1)=false:=by rfl)
  (ht:eval (.Call (.Attribute o m apos) (e::es) [] pos) X.env=(do
   let ov <- eval o X.env
   standAt apos.atName
   let (f,first) <- holding [ov] (getMethod ov m pl)
   callWith pos f first (backTo pos (starEach (e::es) X.env)) (backToKw pos (keywordEach [] X.env))):=by rfl) :
  PE X (.Call (.Attribute o m apos) (e::es) [] pos) (uq C m sp bj E ta t):=by
 intro π s σ H Q I h;refine _S (pl:=pl) (aB (he π s σ H _ I h) fun u s1 ⟨x,H1,I1,rx,a,dx,fs,ex,ea,l,q⟩=>?_) ht;subst ex;obtain rfl:u=Value.ref a:=rx;refine yY I1 ea c hm l ?_;refine ST (first:=[.ref a]) (h₀:=X.base) I.ok.mod.il hm.kp (aB (ha pos π s1 σ H1 _ I1 q) fun us s2 ⟨vs,H2,I2,r,q2⟩=>⟨I2.bX,?_⟩) aJ bY;exact AY (us:=.ref a::us) (vs:=.ref a::vs) F hr hb hd hx I2 (.cons rfl r) q2
def QK {pl:Sem Bool} (he:PE X o ta) (c:cX X.K C) (hm:Meth X.K C m f) (F:aA X.prog X.w X.K X.mg X.base CX k f fd ps sp) (hr:bb k X.A) (hb:Binds X.K fd ps ds) (hd:Vals bj ds) (hx:Passes CX X E)
  (ht:eval (.Call (.Attribute o m apos) [] [] pos) X.env=(do
   let ov <- eval o X.env
   standAt apos.atName
   let (f,first) <- holding [ov] (getMethod ov m pl)
   callWith pos f first (backTo pos (starEach [] X.env)) (backToKw pos (keywordEach [] X.env))):=by rfl) :
  PE X (.Call (.Attribute o m apos) [] [] pos) (uq C m sp bj E ta lV):=by
 intro π s σ H Q I h;refine _S (pl:=pl) (aB (he π s σ H _ I h) fun u s1 ⟨x,H1,I1,rx,a,dx,fs,ex,ea,l,q⟩=>?_) ht;subst ex;obtain rfl:u=Value.ref a:=rx;refine yY I1 ea c hm l ?_;exact W.callWith_K0 (first:=[.ref a]) I1.bX hm.kp (AY (us:=[.ref a]) (vs:=[.ref a]) F hr hb hd hx I1 (.cons rfl .nil) q)
structure Mk (K:ν) (C f:Addr):Prop where
 makes:W.makesIn K C=true
 init:W.findIn K (.ref C) "__init__" = some (some (.ref f))
 fn:W.isFn K (.ref f)=true
 kp:W.keepIn K (.ref C)=true
def Ks {π:List (Addr×Obj)} {σ:St} {H:Hp} {s:Shared} {Q:VK} {us:List Value} {vs:List V} (M:Mk X.K C f) (F:aA X.prog X.w X.K X.mg X.base CX k f fd ps sp) (hr:bb (k+1) X.A) (hb:Binds X.K fd ps ds) (hd:Vals bj ds)
  (hx:Passes CX X E) (I:Inv X π σ H s) (r:Vals vs us)
  (h:∀ x dx,H x=none->H dx=none->dx≠x->sp (.ref x::(vs++bj)) (upd (upd H dx (.own x)) x (.ins C dx [])) (fun v H2=>v=.aq/\Q (.ref x) H2) E) :
  wpAny (model X.prog X.w) X.A (call (.ref C) us) (EP X π σ Q) X.xe s:=by
 have hq:=h (s.heap.objs.size+1) s.heap.objs.size (I.ay.fresh (Nat.le_succ _)) (I.ay.fresh (sK _)) (zn (KM _));have I2:=Inv.made (C:=C) I;have r2:Vals (V.ref (s.heap.objs.size+1)::(vs++bj)) (Value.ref (s.heap.objs.size+1)::(us++ds)):=.cons rfl (r.append hd);have hl:(Value.ref (s.heap.objs.size+1)::us++ds).length=ps.length:=by
  have e:=r2.length;rw [F.len _ _ _ _ hq] at e;exact e.symm
 refine WP (Ud (f:=f) I.bX M.makes M.init (WF.mp M.fn) (_b (F.run _ X.stack _ _ ⟨Value.ref (s.heap.objs.size+1)::us,[]⟩ (Value.ref (s.heap.objs.size+1)::(us++ds)) _ _ E (hr.make C us [])
  (I2.qQ.make C us []) (hb _ (Value.ref (s.heap.objs.size+1)::us) I2.bX hl) r2 hq) fun r s' hq'=>?_))
 cases r with
 | error e=>exact hx π σ _ _ e s' I2 hq'
 | ok fl =>
  cases fl with
  | ret u =>
   obtain ⟨v,H',I3,rv,ev,q3⟩:=I2.after hq';subst ev;exact ⟨rv,⟨V.ref (s.heap.objs.size+1),H',I3,rfl,q3⟩⟩
  | next=>exact False.elim hq'
  | brk=>exact False.elim hq'
  | cont=>exact False.elim hq'
def WH (M:Mk X.K C f) (F:aA X.prog X.w X.K X.mg X.base CX k f fd ps sp) (hr:bb (k+1) X.A) (hg:Gl X x) (hm:X.mg x=some (.ref C)) (hb:Binds X.K fd ps ds) (hd:Vals bj ds) (hx:Passes CX X E)
  (ha:PA X (e::es) t) (bM:(x == ("__debug__":Str))=false:=by decide) (he:starEach (e::es) X.env=(false,eval e X.env)::starEach es X.env:=by rfl) (bY:(backTo pos (starEach es X.env)).any (·.1)=false:=by rfl) :
  PE X (.Call (.Name x p) (e::es) [] pos) (r9 C sp bj E t):=by
 intro π s σ H Q I h;refine FM (kJ I hg hm ?_ bM);refine ST (h₀:=X.base) I.ok.mod.il M.kp (aB (ha pos π s σ H _ I h) fun us s1 ⟨vs,H1,I1,r,q⟩=>⟨I1.bX,?_⟩) he bY;exact Ks M F hr hb hd hx I1 r q
def W7 (M:Mk X.K C f) (F:aA X.prog X.w X.K X.mg X.base CX k f fd ps sp) (hr:bb (k+1) X.A) (hg:Gl X x) (hm:X.mg x=some (.ref C)) (hb:Binds X.K fd ps ds) (hd:Vals bj ds) (hx:Passes CX X E)
  (bM:(x == ("__debug__":Str))=false:=by decide):PE X (.Call (.Name x p) [] [] pos) (r9 C sp bj E lV):=by
 intro π s σ H Q I h;refine FM (kJ I hg hm ?_ bM);exact W.callWith_K0 I.bX M.kp (Ks (us:=[]) M F hr hb hd hx I .nil h)
end
section
variable {X:Cx} {CX:dW} {k:Nat} {f C:Addr} {fd:FuncData} {ps ks:List Str} {sp:Sp} {E:XK} {x m:Str} {p pos apos kpos:Pos} {e o:Expr} {es:List Expr} {kws:List Keyword} {te ta:TE} {t tk:TA} {nm:Option Str}
structure adS (K:ν) (fd:FuncData) (ps ks:List Str) (g:List Value->List Value->List Value) (gV:List V->List V->List V):Prop where
 to:∀ (s:Shared) (us ws:List Value),K.In s.heap->(g us ws).length=ps.length->BindsTo s fd ⟨us,ks.zip ws⟩ (ps.zip (g us ws))
 rel:∀ {vs:List V} {us:List Value} {zs:List V} {ws:List Value},Vals vs us->Vals zs ws->Vals (gV vs zs) (g us ws)
def VC (sp:Sp) (gV:List V->List V->List V) (E:XK) (t tk:TA):TE:=fun σ H Q=>t σ H fun vs H1=>tk σ H1 fun zs H2=>sp (gV vs zs) H2 Q E
variable {g:List Value->List Value->List Value} {gV:List V->List V->List V}
end
structure aE (N P:List Str) (sc:Scope):Prop where
 kind:sc.kind=.function
 co:sc.isCoroutine=false
 gen:sc.isGenerator=false
 nd:N.Nodup
 pre:N.take P.length=P
 par:∀ x∈P,sc.names.lookup x=some .local\/sc.names.lookup x=some .cell
 VS:∀ y∈sc.names,y.2≠.free
def GQ {kindOf:Str->Option NameKind} {x:Str}:∀ {binds:List (Str×Value)} {m:Str->Option Value},(∀ v,(x,v) ∉ binds)->bindL kindOf binds m x=m x
 | [],_,_=>rfl
 | (n,v)::r,m,h=>by
  unfold bindL;rw [GQ fun w hw=>h w (Db _ hw)];split
  ·have:x≠n:=by rintro rfl;exact h v LT
   simp [this]
  ·rfl
def JR {kindOf:Str->Option NameKind} {x:Str}:∀ {binds:List (Str×Value)} {m:Str->Option Value},(∀ v,(x,v) ∉ binds)->bindC kindOf binds m x=m x
 | [],_,_=>rfl
 | (n,v)::r,m,h=>by
  unfold bindC;rw [JR fun w hw=>h w (Db _ hw)];split
  ·rfl
  ·have:x≠n:=by rintro rfl;exact h v LT
   simp [this]
def Jh {kindOf:Str->Option NameKind} {x:Str} {v:Value}:∀ {P:List Str} {vs:List Value} {i:Nat} {m:Str->Option Value},P.Nodup->P[i]?=some x->vs[i]?=some v->kindOf x=some .local ->
  bindL kindOf (P.zip vs) m x=some v
 | [],_,_,_,_,h,_,_=>by simp at h
 | _::_,[],_,_,_,_,h,_=>by simp at h
 | p::P,w::vs,0,m,nd,h1,h2,hk=>by
  simp at h1 h2;subst h1;subst h2;show bindL kindOf ((p,w)::P.zip vs) m p=_;unfold bindL;rw [GQ fun v hv=>(Do.mp nd).1 (_2 hv).1,At hk];simp
 | p::P,w::vs,i+1,m,nd,h1,h2,hk=>by
  show bindL kindOf ((p,w)::P.zip vs) m x=_;unfold bindL;exact Jh (i:=i) (Do.mp nd).2 (by simpa using h1) (by simpa using h2) hk
def LO {kindOf:Str->Option NameKind} {x:Str} {v:Value}:∀ {P:List Str} {vs:List Value} {i:Nat} {m:Str->Option Value},P.Nodup->P[i]?=some x->vs[i]?=some v->kindOf x≠some .local ->
  bindC kindOf (P.zip vs) m x=some v
 | [],_,_,_,_,h,_,_=>by simp at h
 | _::_,[],_,_,_,_,h,_=>by simp at h
 | p::P,w::vs,0,m,nd,h1,h2,hk=>by
  simp at h1 h2;subst h1;subst h2;show bindC kindOf ((p,w)::P.zip vs) m p=_;unfold bindC;rw [JR fun v hv=>(Do.mp nd).1 (_2 hv).1,xL hk];simp
 | p::P,w::vs,i+1,m,nd,h1,h2,hk=>by
  show bindC kindOf ((p,w)::P.zip vs) m x=_;unfold bindC;exact LO (i:=i) (Do.mp nd).2 (by simpa using h1) (by simpa using h2) hk
def start (N:List Str) (vs:List V):St:=vs.map some++List.replicate (N.length - vs.length) none
def df (CX:dW) (P:Program) (w:World) (K:ν) (mg:Str->Option Value) (base:Heap) (N:List Str) (qual:Str) (scope:Scope) (f:Addr) (cd:Value) (A:Around) (outer:List Env) (s:Shared) (H:Hp) (E:XK):Cx where
 prog:=P
 w:=w
 K:=K
 mg:=mg
 base:=base
 A:=A.deeper (envOfC qual scope s.heap.objs.size f cd)
 N:=N
 s₀:=s
 H₀:=H
 env:=envOfC qual scope s.heap.objs.size f cd
 outer:=outer
 stack:=envOfC qual scope s.heap.objs.size f cd::outer
 ex:=[]
 calm:=true
 fn:=fun _=>true
 pn:=[]
 xe:=fun e s'=>wpAny (model P w) (A.deeper (envOfC qual scope s.heap.objs.size f cd)) (leaving (envOfC qual scope s.heap.objs.size f cd) e) (fun _ s''=>CX outer H s E e s'') (fun e' s''=>CX outer H s E e' s'') s'
def G8 {sc:Scope} {n:Nat} {x:Str} (h:sc.names.lookup x=some .cell):∃ c,(cellsFrom n sc.names []).lookup x=some c:=by
 have q:=_M sc.names n [] (.inl h);exact Option.isSome_iff_exists.mp q
def JP {CX:dW} {P:Program} {w:World} {K:ν} {mg:Str->Option Value} {base:Heap} {N ps:List Str} {qual:Str} {scope:Scope} {f:Addr} {cd:Value} {A:Around} {outer:List Env} {s s1:Shared} {H:Hp} {E:XK} {us:List Value} {vs:List V}
  (S:aE N ps scope) (hd:A.handled=none) (e0:kS P w K mg base A outer s H) (hl:vs.length=ps.length) (r:Vals vs us)
  (x:InCallC s s.heap.objs.size (bindL (envOfC qual scope s.heap.objs.size f cd).kindOf (ps.zip us) fun _=>none) (cellsFrom (s.heap.objs.size+1) scope.names []) (bindC (envOfC qual scope s.heap.objs.size f cd).kindOf (ps.zip us) fun _=>none) s1) :
  Inv (df CX P w K mg base N qual scope f cd A outer s H E) [] (start N vs) H s1:=by
 have bY:ps.length<=N.length:=by have:=P3 List.length S.pre;rw [_x] at this;omega
 obtain ⟨h1,tk,rfl,hk⟩:=x.done;have lF:∀ b:Addr,b ∉ (df CX P w K mg base N qual scope f cd A outer s H E).ex:=fun b z=>absurd (show b∈([]:List Addr) from z) (by simp);refine ⟨⟨e0.mod,S.kind,rfl,rfl,sK _,fun y z c h1 h2=>?_,fun y hy=>?_,fun y c _ h=>?_,fun _=>hd,Around.frames_deeper e0.frames,.inr ⟨rfl,rfl⟩,fun b z=>absurd z (lF b),e0.bs,e0.gY,fun b _ _=>lF b,fun b z=>absurd z (lF b),e0.fz,e0.jk⟩,
  rfl,e0.bare,Un.kept hk,⟨_,x.toInCall.ns,fun i y v h1 h2 h3=>?_⟩,fun y c h=>⟨_,x.cell y c h⟩,e0.ay.fresh (sK _),fun y c h=>?_,fun p hp=>absurd (show p∈([]:List (Addr×Obj)) from hp) (by simp),e0.ay.kept hk,?_⟩
 ·exact name_of_addr x.apart (Fk h1) (Fk h2)
 ·have hy:scope.names.lookup y=some .cell\/scope.names.lookup y=some .free:=hy;rcases hy with hy | hy
  ·exact G8 hy
  ·exact absurd rfl (S.VS _ (Fk hy))
 ·exact Ja0 (x.above y c (Fk h))
 ·have hi:i < vs.length:=by
   unfold start at h2;by_cases hi:i < vs.length
   ·exact hi
   ·rw [FS (by simpa using hi)] at h2;rw [List.getElem?_replicate] at h2;split at h2 <;> cases h2
  have ha:vs[i]?=some v:=by
   unfold start at h2;rw [Gc (by simpa using hi),Ev] at h2;cases e:vs[i]? with
   | none=>rw [e] at h2;cases h2
   | some a=>rw [e] at h2;cases h2;rfl
  obtain ⟨u,hu,rv⟩:=r.get ha;have hp:ps[i]?=some y:=by
   rw [<- S.pre,List.getElem?_take_of_lt (by omega)];exact h1
  have Ov:ps.Nodup:=by rw [<- S.pre];exact S.nd.sublist (List.take_sublist _ _)
  refine ⟨u,rv,?_⟩;rcases S.par y (NE hp) with k | k
  ·exact .inl ⟨k,Jh Ov hp hu k⟩
  ·obtain ⟨c,e⟩:=G8 (n:=s.heap.objs.size+1) k;refine .inr ⟨.inl k,c,e,?_⟩;have q:=x.cell y c e;rw [LO Ov hp hu (by show scope.names.lookup y≠_;rw [k];decide)] at q;exact q
 ·exact e0.ay.fresh (Ja0 (x.above y c (Fk h)))
 ·unfold start;show _=N.length;rw [xz,ss,List.length_replicate];omega
def wJ {CX:dW} {P:Program} {w:World} {K:ν} {mg:Str->Option Value} {base:Heap} {k:Nat} {f:Addr} {name qual:Str} {params:Arguments} {body:List Stmt} {scope:Scope} {dV kV doc pm cdv ct oc:Value} {an od:Option Addr}
  {dA:Array (Option Value)} {N ps:List Str} {sp:Sp} (lk:K.lookup f=some ⟨oc,od,.func (W.fnOf name qual params body scope dV kV doc pm an cdv ct),dA⟩) (bo:W.codeIn K cdv qual=true) (S:aE N ps scope)
  (len:∀ vs H Q E,sp vs H Q E->vs.length=ps.length)
  (pf:∀ (A:Around) (outer:List Env) (s:Shared) (H:Hp) (vs:List V) (Q:VK) (E:XK),bb k (A.deeper (envOfC qual scope s.heap.objs.size f cdv))->sp vs H Q E ->
   ∃ t,dz (df CX P w K mg base N qual scope f cdv A outer s H E) body t/\t { nx:=fun _ H'=>Q .aq H',rt:=Q } (start N vs) H) :
  aA P w K mg base CX (k+1) f (W.fnOf name qual params body scope dV kV doc pm an cdv ct) ps sp:=by
 refine ⟨len,fun A outer s H args us vs Q E hr e0 hb r dD=>?_⟩;have hl:=len _ _ _ _ dD;have KX:K.In s.heap:=e0.mod.il.keeps fun b o e=>(e0.bs b o e).1;have lim:s.heap.NoLimit:=e0.mod.nolimit.keeps fun b o e=>(e0.bs b o e).1;have Fg:∀ y∈ps.zip us,scope.names.lookup y.1=some .local\/(scope.names.lookup y.1=some .cell/\((cellsFrom (s.heap.objs.size+1) scope.names []).lookup y.1).isSome=true):=fun ⟨n,v⟩ hy=>by
  rcases S.par n (_2 hy).1 with q | q
  ·exact .inl q
  ·exact .inr ⟨q,_M _ _ _ (.inl q)⟩
 refine codeAny_call_function hr.depth (KX _ _ lk) rfl S.co S.gen rfl (W.codeRec_of KX bo) (hb _ _ _ _ ?_);refine wpAny_newFunctionEnv_cells S.kind Fg fun env he s1 x=>?_;subst he;refine ⟨lim.keeps x.toInCall.keep,codeAny_func ?_⟩;obtain ⟨t,ht,hq⟩:=pf A outer s H vs Q E (hr.deeper _) dD;have I:Inv (df CX P w K mg base N qual scope f cdv A outer s H E) [] (start N vs) H s1:=JP S hr.hd e0 hl r x;refine IR (ht [] s1 (start N vs) H _ I hq) (fun fl s' hs=>?_) fun e s' hs=>hs;have fin:∀ {σ':St} {H':Hp} {v:V} {u:Value},Inv (df CX P w K mg base N qual scope f cdv A outer s H E) [] σ' H' s'->RelV v u->Q v H'->CE outer P w H s Q u s' :=
  fun {σ' H' v u} J rv q=>⟨v,H',J.os,J.bare,J.base,J.ay,rv,q⟩
 cases fl with
 | ret u =>
  obtain ⟨v,σ',H',J,rv,q⟩:=hs;exact fin J rv q
 | next =>
  obtain ⟨σ',H',J,q⟩:=hs;exact fin (v:=V.aq) (u:=Value.none) J rfl q
 | brk =>
  obtain ⟨_,_,_,q⟩:=hs;exact False.elim q
 | cont =>
  obtain ⟨_,_,_,q⟩:=hs;exact False.elim q
section
variable {X:Cx} {x:Str} {p pos:Pos} {e:Expr} {es:List Expr} {t:TA} {id T:String} {r:List V->Hp->VK->Prop}
def oi (r:List V->Hp->VK->Prop) (t:TA):TE:=fun σ H Q=>t σ H fun vs H1=>r vs H1 Q
def OA (hc:cZ X (.builtin id) r) (hg:Gl X x) (hm:X.mg x=none) (hv:bootBuiltins x=some (.builtin id)) (ha:PA X (e::es) t) (hn:x ≠ "__name__" := by decide) (bM:(x == ("__debug__":Str))=false:=by decide)
  (he:starEach (e::es) X.env=(false,eval e X.env)::starEach es X.env:=by rfl) (bY:(backTo pos (starEach es X.env)).any (·.1)=false:=by rfl):PE X (.Call (.Name x p) (e::es) [] pos) (oi r t):=by
 intro π s σ H Q I h;refine FM (nQ I hg hm hv ?_ hn bM);exact PyProof.Rows.callWith_builtin1 (aB (ha pos π s σ H _ I h) fun us s1 ⟨vs,H1,I1,r1,q1⟩=>hc π s1 σ H1 vs us Q I1 r1 q1) he bY
def Wv (hc:cZ X (.type T) r) (hg:Gl X x) (hm:X.mg x=none) (hv:bootBuiltins x=some (.type T)) (ha:PA X (e::es) t) (hn:x ≠ "__name__" := by decide) (bM:(x == ("__debug__":Str))=false:=by decide)
  (he:starEach (e::es) X.env=(false,eval e X.env)::starEach es X.env:=by rfl) (bY:(backTo pos (starEach es X.env)).any (·.1)=false:=by rfl):PE X (.Call (.Name x p) (e::es) [] pos) (oi r t):=by
 intro π s σ H Q I h;refine FM (nQ I hg hm hv ?_ hn bM);exact TW (aB (ha pos π s σ H _ I h) fun us s1 ⟨vs,H1,I1,r1,q1⟩=>hc π s1 σ H1 vs us Q I1 r1 q1) he bY
end
end L2
namespace HT
open PySem PyProof.Rows
section
open PySem.SeqAt
open PySem.AutoSeq1 (wpAny_loadPart')
open PySem.MeetsSeq PySem.MeetsSeq2 PySem.MeetsSeq3
end
section
variable {prog:Program} {w:World} {A:Around} {E:Value->Shared->Prop} {s:Shared}
def dR (n d:Nat):Option Int->Nat
 | none=>d
 | some v=>if v < 0 then (v+(n:Int)).toNat else min v.toNat n
def B5 (n d:Nat):dR n d none=d:=rfl
def Az (n d k:Nat):dR n d (some (k:Int))=min k n:=by
 show (if (k:Int) < 0 then ((k:Int)+(n:Int)).toNat else min (k:Int).toNat n)=min k n;rw [if_neg (by omega),Int.toNat_natCast]
end
end HT
namespace L2
open PySem PySem.Spec PyProof.Rows
abbrev TO:=St->Hp->(Option Int->Hp->Prop)->Prop
def PO (X:Cx) (e:Option Expr) (t:TO):Prop :=
 ∀ (π:List (Addr×Obj)) (s:Shared) (σ:St) (H:Hp) (Q:Option Int->Hp->Prop),Inv X π σ H s->t σ H Q ->
  wpAny (model X.prog X.w) X.A (evalPart e X.env) (fun u s'=>∃ o H',Inv X π σ H' s'/\IsPart u o/\Q o H') X.xe s
def Cr:TO:=fun _ H Q=>Q none H
section
variable {X:Cx} {e:Expr} {te:TE} {lo hi:Option Expr} {tl th:TO} {pos p2:Pos}
def V2:PO X none Cr:=by
 intro π s σ H Q I h;rw [evalPart_none];exact sw ⟨none,H,I,.none,h⟩
def jR (X:Cx) (r:V->Option Int->Option Int->Hp->VK->Prop):Prop :=
 ∀ (π:List (Addr×Obj)) (s:Shared) (σ:St) (H:Hp) (x:V) (v vl vu:Value) (lo hi:Option Int) (sl:Addr) (Q:VK),Inv X π σ H s->RelV x v->s.heap.IsSliceOf sl vl vu .none->IsPart vl lo->IsPart vu hi->r x lo hi H Q ->
  ∃ T id,typeLookup (.type T) "__getitem__" = pure (some (.builtin id))/\s.TypeIs v T/\wpAny (model X.prog X.w) X.A (getItem v (.ref sl)) (EP X π σ Q) X.xe s
def jR.or {r r':V->Option Int->Option Int->Hp->VK->Prop} (h:jR X r) (h':jR X r'):jR X (fun x lo hi H Q=>r x lo hi H Q\/r' x lo hi H Q):=by
 intro π s σ H x v vl vu lo hi sl Q I rx hs pl pu q;rcases q with q | q
 ·exact h π s σ H x v vl vu lo hi sl Q I rx hs pl pu q
 ·exact h' π s σ H x v vl vu lo hi sl Q I rx hs pl pu q
def Ar (r:V->Option Int->Option Int->Hp->VK->Prop) (te:TE) (tl th:TO):TE:=fun σ H Q=>te σ H fun x H1=>tl σ H1 fun l H2=>th σ H2 fun u H3=>r x l u H3 Q
def aap {r:V->Option Int->Option Int->Hp->VK->Prop} (hr:jR X r) (he:PE X e te) (hl:PO X lo tl) (hu:PO X hi th):PE X (.Subscript e (.Slice lo hi none p2) pos) (Ar r te tl th):=by
 intro π s σ H Q I h;refine Subscript_ (aB (he π s σ H _ I h) fun v s1 ⟨x,H1,I1,r1,q1⟩=>?_);refine wpAny_Slice (aB (hl π s1 σ H1 _ I1 q1) fun vl s2 ⟨l,H2,I2,pl,q2⟩=>aB (hu π s2 σ H2 _ I2 q2) fun vu s3 ⟨u,H3,I3,pu,q3⟩=>?_);rw [evalPart_none];refine sw ?_;have I4:Inv X π σ H3 { s3 with heap:=s3.heap.push { cls:=.type "slice",data:=.fields #[vl,vu,.none] } }:=I3.kept (t':=s3.toks) fun b ob q=>pc _ q;obtain ⟨T,id,hT,ht,hg⟩:=hr π { s3 with heap:=s3.heap.push { cls:=.type "slice",data:=.fields #[vl,vu,.none] } } σ H3 x v vl vu l u s3.heap.objs.size Q I4 r1 (Heap.IsSliceOf.new ..) pl pu q3;show wpAny (model X.prog X.w) X.A (subscriptTail e (.Slice lo hi none p2) v (.ref s3.heap.objs.size)) (EP X π σ Q) X.xe { s3 with heap:=s3.heap.push { cls:=.type "slice",data:=.fields #[vl,vu,.none] } };exact tail_any (ops:=[.ref s3.heap.objs.size,v]) ht hT hg (by with_unfolding_all rfl)
def gA (xs:List V) (lo hi:Option Int):List V:=(xs.drop (HT.dR xs.length 0 lo)).take (HT.dR xs.length xs.length hi - HT.dR xs.length 0 lo)
def abO (xs:List V) (lo hi:Option Int):(gA xs lo hi).length<=xs.length:=by
 unfold gA;rw [_x,List.length_drop];omega
end
def gB (n:Nat) (i:Int):Option Nat:=if 0<=i then (if i < n then some i.toNat else none) else if -(n:Int)<=i then some (i+n).toNat else none
def dv {α:Type} (xs:List α) (i:Int):Option α:=(gB xs.length i).bind fun j=>xs[j]?
def Mp {n:Nat} {i:Int} {j:Nat} (h:gB n i=some j):seqIndex? i n=some j/\j < n/\-(n:Int)<=i/\i < n:=by
 unfold gB at h;by_cases h0:0<=i
 ·rw [At h0] at h;by_cases h1:i < n
  ·rw [At h1] at h;have e:i.toNat=j:=Fa h;exact ⟨by rw [seqIndex_of h0 h1,e],by omega,by omega,h1⟩
  ·rw [xL h1] at h;cases h
 ·rw [xL h0] at h;by_cases h1:-(n:Int)<=i
  ·rw [At h1] at h;have e:(i+n).toNat=j:=Fa h;exact ⟨by rw [seqIndex_neg (by omega) h1,e],by omega,h1,by omega⟩
  ·rw [xL h1] at h;cases h
def AX {α:Type} {xs:List α} {i:Int} {v:α} (h:dv xs i=some v):∃ j,seqIndex? i xs.length=some j/\xs[j]?=some v/\j < xs.length/\-(xs.length:Int)<=i/\i < xs.length:=by
 unfold dv at h;cases e:gB xs.length i with
 | none=>rw [e] at h;cases h
 | some j =>
  rw [e] at h;obtain ⟨h1,h2,h3,h4⟩:=Mp e;exact ⟨j,h1,h,h2,h3,h4⟩
def oJ {α:Type} {xs:List α} {j:Nat} {v:α} (h:xs[j]?=some v):dv xs (j:Int)=some v:=by
 have hj:j < xs.length:=(ul.mp h).1;have e:gB xs.length (j:Int)=some j:=by
  unfold gB;rw [At (by omega),At (by omega)];simp
 unfold dv;rw [e];exact h
def qg {α:Type} (xs:List α) (v:α):dv (xs++[v]) (-1)=some v:=by
 have hl:(xs++[v]).length=xs.length+1:=by simp
 have e:gB (xs++[v]).length (-1)=some xs.length:=by
  unfold gB;rw [hl,xL (by decide),At (by omega)]
  congr 1
  omega
 unfold dv;rw [e];show (xs++[v])[xs.length]?=some v;simp
def LZ (b:Expr):Prop:=∀ o i,subscripted b false o i=operate [o,i] (getItem o i)
def f7 (X:Cx) (r:R2):Prop :=
 ∀ (value slice:Expr) (π:List (Addr×Obj)) (s:Shared) (σ:St) (H:Hp) (x y:V) (v u:Value) (Q:VK),Inv X π σ H s->RelV x v->RelV y u->r x y H Q ->
  subscripted slice false v u=operate [v,u] (getItem v u)->wpAny (model X.prog X.w) X.A (subscriptTail value slice v u) (EP X π σ Q) X.xe s
def en (X:Cx) (id:String) (r:V->List V->Hp->VK->Prop):Prop :=
 ∀ (π:List (Addr×Obj)) (s:Shared) (σ:St) (H:Hp) (x:V) (xs:List V) (v:Value) (us:List Value) (Q:VK),Inv X π σ H s->RelV x v->Vals xs us->r x xs H Q ->
  wpAny (model X.prog X.w) X.A (call (.builtin id) (v::us)) (EP X π σ Q) X.xe s
section
variable {X:Cx} {a b:Expr} {ta tb:TE} {pos:Pos}
def f7.or {r r':R2} (h:f7 X r) (h':f7 X r'):f7 X (fun x y H Q=>r x y H Q\/r' x y H Q):=by
 intro value slice π s σ H x y v u Q I rx ry q hs;rcases q with q | q
 ·exact h value slice π s σ H x y v u Q I rx ry q hs
 ·exact h' value slice π s σ H x y v u Q I rx ry q hs
def Vi {r:R2} (hr:f7 X r) (ha:PE X a ta) (hb:PE X b tb) (hs:LZ b):PE X (.Subscript a b pos) (cL r ta tb):=by
 intro π s σ H Q I h;exact Subscript_ (Bo ha hb I h fun v u s2 x y H2 I2 rx ry q=>hr a b π s2 σ H2 x y v u Q I2 rx ry q (hs _ _))
def IJ (K:ν):R2:=fun x y H Q=>∃ p xs i v,x=.ref p/\y=.int i/\aD K H p xs/\dv xs i=some v/\Q v H
def Ht (K:ν):R2:=fun x y H Q=>∃ p xs i v,x=.ref p/\y=.int i/\cJ K H p xs/\dv xs i=some v/\Q v H
def Gw:R2:=fun x y H Q=>∃ z i c,x=.str z/\y=.int i/\z.length<=sizeLine/\dv z.cps.toList i=some c/\Q (.str ⟨#[c]⟩) H
def P2:f7 X (IJ X.K):=by
 intro value slice π s σ H x y v u Q I rx ry h hs;obtain ⟨p,xs,i,z,rfl,rfl,hq,he,q⟩:=h;cases rx;obtain ⟨t,rfl⟩:=ry;obtain ⟨aj,r,pl,hz⟩:=I.list hq;obtain ⟨j,h1,h2,h3,h4,h5⟩:=AX he;obtain ⟨w,ew,rw'⟩:=r.get h2;have hl:=r.length;have hn:=tq;have fin:EP X π σ Q w s:=⟨z,H,I,rw',q⟩;by_cases h0:0<=i
 ·have hj:i.toNat=j:=by
   rw [seqIndex_of h0 h5] at h1;exact Fa h1
  exact item_listR pl.isList h0 (by omega) (by rw [hj];simpa using ew) fin hs
 ·have hj:(i+(aj.toArray.size:Int)).toNat=j:=by
   rw [seqIndex_neg (by omega) h4] at h1;rw [sB,<- hl];exact Fa h1
  exact subscriptTail_builtinR (x:=w) pl.isList.typeIs slot_list_getitem.lookup
   (wpAny_getItem_list_neg (Q:=fun r s'=>r=w/\EP X π σ Q r s') pl.isList (by omega) (by rw [sB] <;> omega) (by omega) (by rw [hj];simpa using ew) ⟨rfl,fin⟩) hs
def VL:f7 X (Ht X.K):=by
 intro value slice π s σ H x y v u Q I rx ry h hs;obtain ⟨p,xs,i,z,rfl,rfl,hq,he,q⟩:=h;cases rx;obtain ⟨t,rfl⟩:=ry;obtain ⟨aj,r,pl,hz⟩:=I.tuple hq;obtain ⟨j,h1,h2,h3,h4,h5⟩:=AX he;obtain ⟨w,ew,rw'⟩:=r.get h2;have hl:=r.length;have hn:=tq;have fin:EP X π σ Q w s:=⟨z,H,I,rw',q⟩;exact subscriptTail_builtinR (x:=w) pl.typeIs slot_tuple_getitem.lookup
  (getItem_tuple (j:=j) (Q:=fun r s'=>r=w/\EP X π σ Q r s') pl (by omega) (by omega) (by rw [sB,<- hl];exact h1) (by simpa using ew) ⟨rfl,fin⟩) hs
def Zm:f7 X Gw:=by
 intro value slice π s σ H x y v u Q I rx ry h hs;obtain ⟨z,i,c,rfl,rfl,hz,he,q⟩:=h;obtain ⟨t,rfl⟩:=rx;obtain ⟨t',rfl⟩:=ry;obtain ⟨j,h1,h2,h3,h4,h5⟩:=AX he;have hl:z.cps.toList.length=z.length:=by simp [Str.length]
 rw [hl] at h1 h4 h5;have hn:=tq;exact tail_any (_u s z t) slot_str_getitem.lookup (getItem_str (c:=c) (by
  have e1:decide (i < -(2 ^ 63:Int))=false:=pi (by omega);have e2:decide (i ≥ 2 ^ 63)=false:=pi (by omega);rw [e1,e2,Jac]) (by rw [h1];simpa using h2) ⟨.str ⟨#[c]⟩,H,I.tok _,⟨_,rfl⟩,q⟩) hs
def Rr (K:ν):R2:=fun x y H Q=>IJ K x y H Q\/Ht K x y H Q\/Gw x y H Q
def Zg:f7 X (Rr X.K):=P2.or (VL.or Zm)
def Xd (aj:List Value) (n j:Nat) (u:Value):Obj.mapSeq (·.setIfInBounds j u) { cls:=.type "list",data:=.seq aj.toArray n }={ cls:=.type "list",data:=.seq (aj.set j u).toArray n }:=by
 simp [Obj.mapSeq]
def Inv.lst {π:List (Addr×Obj)} {σ:St} {H:Hp} {s:Shared} {p:Addr} {xs:List V} (I:Inv X π σ H s) (h:H p=some (.lst xs)) :
  ∃ (aj:List Value) (n:Nat),Vals xs aj/\s.heap.get? p=some { cls:=.type "list",data:=.seq aj.toArray n }/\xs.length<=sizeLine:=by
 obtain ⟨z,aj,n,r,e⟩:=I.ay p _ h;exact ⟨aj,n,r,e,z⟩
def Inv.Sh {π:List (Addr×Obj)} {σ:St} {H:Hp} {s:Shared} {p:Addr} {xs ys:List V} {aj its':List Value} {n n':Nat} {f:Obj->Obj} (I:Inv X π σ H s) (h:H p=some (.lst xs))
  (ho:s.heap.get? p=some { cls:=.type "list",data:=.seq aj.toArray n }) (hf:f { cls:=.type "list",data:=.seq aj.toArray n }={ cls:=.type "list",data:=.seq its'.toArray n' }) (r:Vals ys its') (hz:ys.length<=sizeLine) (t:Nat) :
  Inv X π σ (upd H p (.lst ys)) { s with heap:=s.heap.update p f,toks:=t }:=by
 have e:(s.heap.update p f).get? p=some { cls:=.type "list",data:=.seq its'.toArray n' }:=by
  rw [Sc f ho (by rw [hf] <;> rfl),hf]
 refine I.write (x:=p) (e:=p) (by rw [h];trivial) (.inl rfl) (fun b u hb q=>(GM _ _ (pp hb)).trans q) ⟨_,e⟩ ?_;exact ⟨hz,its',n',r,e⟩
def Y7:V->V->V->Hp->(Hp->Prop)->Prop:=fun o i v H Q=>∃ p xs k j,o=.ref p/\i=.int k/\H p=some (.lst xs)/\gB xs.length k=some j/\Q (upd H p (.lst (xs.set j v)))
def set_list:ve X Y7:=by
 intro π s σ H o i v ov iv u Q I ro ri rv h;obtain ⟨p,xs,k,j,rfl,rfl,hp,hj,q⟩:=h;cases ro;obtain ⟨t,rfl⟩:=ri;obtain ⟨aj,n,r,ho,hz⟩:=I.lst hp;obtain ⟨h1,h2,h3,h4⟩:=Mp hj;have hl:=r.length;have hn:=tq;have I':Inv X π σ (upd H p (.lst (xs.set j v))) { s with heap:=s.heap.update p (Obj.mapSeq (·.setIfInBounds j u)) } :=
  I.Sh hp ho (Xd aj n j u) (r.set rv j) (by rw [List.length_set];exact hz) s.toks
 by_cases h0:0<=k
 ·have hk:k.toNat=j:=by
   rw [seqIndex_of h0 h4] at h1;exact Fa h1
  exact W.ki_setAt ho h0 (by omega) (by rw [sB,<- hl];exact h4) (by rw [hk];exact ⟨_,I',q⟩)
 ·have hk:(k+(aj.toArray.size:Int)).toNat=j:=by
   rw [seqIndex_neg (by omega) h3] at h1;rw [sB,<- hl];exact Fa h1
  exact W.ki_setBack ho (by omega) (by rw [sB,<- hl];exact h3) (by omega) (by rw [hk];exact ⟨_,I',q⟩)
def Zz (lo hi:Option Int) (n:Nat):(sliceBounds lo hi none n).1=((HT.dR n 0 lo:Nat):Int)/\(sliceBounds lo hi none n).2.1=((HT.dR n n hi:Nat):Int)/\(sliceBounds lo hi none n).2.2=1:=by
 refine ⟨?_,?_,rfl⟩
 ·cases lo with
  | none=>simp [sliceBounds,HT.dR]
  | some i =>
   simp only [sliceBounds,HT.dR,Option.getD_none,show (1:Int) > 0 by decide,Ja2];by_cases h:i < 0
   ·simp only [h,Ja2] <;> omega
   ·simp only [h,_c] <;> omega
 ·cases hi with
  | none=>simp [sliceBounds,HT.dR]
  | some i =>
   simp only [sliceBounds,HT.dR,Option.getD_none,show (1:Int) > 0 by decide,Ja2];by_cases h:i < 0
   ·simp only [h,Ja2] <;> omega
   ·simp only [h,_c] <;> omega
def TM (aj:List Value) (lo hi:Option Int):slicePick aj.toArray lo hi none=((aj.drop (HT.dR aj.length 0 lo)).take (HT.dR aj.length aj.length hi - HT.dR aj.length 0 lo)).toArray:=by
 obtain ⟨h1,h2,h3⟩:=Zz lo hi aj.toArray.size;unfold slicePick;rw [h1,h2,h3];simp only [sliceRange_one,pick_run,sB] <;> rfl
def UA (K:ν):V->Option Int->Option Int->Hp->VK->Prop:=fun x lo hi H Q=>∃ a xs,x=.ref a/\aD K H a xs/\∀ p,H p=none->Q (.ref p) (upd H p (.lst (gA xs lo hi)))
def Xw:jR X (UA X.K):=by
 intro π s σ H x v vl vu lo hi sl Q I rx hs pl pu h;obtain ⟨a,xs,rfl,hx,q⟩:=h;cases rx;obtain ⟨aj,r,ht,hz⟩:=I.list hx;have hlen:=r.length;refine ⟨"list",_,slot_list_getitem.lookup,ht.isList.typeIs,?_⟩;refine wpAny_getItem_list_slice ht.isList hs pl pu .none (by simp) ?_ (by rw [sB] <;> omega);rw [TM,<- hlen];refine ⟨.ref s.heap.objs.size,_,I.laid (t':=s.toks) (o:=.lst (gA xs lo hi)) (fun b ob q=>pc _ q) (sK _) ?_,rfl,q _ (I.ay.fresh (sK _))⟩;exact ⟨wl (abO xs lo hi) hz,_,0,(r.drop (HT.dR xs.length 0 lo)).take (HT.dR xs.length xs.length hi - HT.dR xs.length 0 lo),wn _ rfl⟩
def di:V->Bool
 | .aq=>true
 | .bl _=>true
 | .int _=>true
 | .str _=>true
 | _=>false
def fR:V->V->Bool
 | .aq,.aq=>true
 | .bl a,.bl b=>a == b
 | .bl a,.int b=>(if a then 1 else 0) == b
 | .int a,.bl b=>a == (if b then 1 else 0)
 | .int a,.int b=>a == b
 | .str a,.str b=>a == b
 | _,_=>false
def DD {A:Around} {s:Shared} {y x:V} {u v:Value} (ry:RelV y u) (rx:RelV x v) (fy:di y=true) (fx:di x=true):SeqAt.EqAt A s u v (fR y x):=by
 cases y with
 | aq =>
  cases ry;cases x with
  | aq=>cases rx;exact SeqAt.EqAt.same _
  | bl b=>cases rx;exact SeqAt.EqAt.none_bool b
  | int b=>obtain ⟨t,rfl⟩:=rx;exact SeqAt.EqAt.none_int b t
  | str b=>obtain ⟨t,rfl⟩:=rx;exact SeqAt.EqAt.none_str b t
  | _=>exact absurd (show false=true from fx) ww
 | bl a =>
  cases ry;cases x with
  | aq=>cases rx;exact SeqAt.EqAt.bool_none a
  | bl b=>cases rx;exact SeqAt.EqAt.bool_bool a b
  | int b=>obtain ⟨t,rfl⟩:=rx;exact SeqAt.EqAt.bool_int a b t
  | str b=>obtain ⟨t,rfl⟩:=rx;exact SeqAt.EqAt.bool_str a b t
  | _=>exact absurd (show false=true from fx) ww
 | int a =>
  obtain ⟨t',rfl⟩:=ry;cases x with
  | aq=>cases rx;exact SeqAt.EqAt.int_none a t'
  | bl b=>cases rx;exact SeqAt.EqAt.int_bool a t' b
  | int b=>obtain ⟨t,rfl⟩:=rx;exact SeqAt.EqAt.int_int a t' b t
  | str b=>obtain ⟨t,rfl⟩:=rx;exact SeqAt.EqAt.int_str a t' b t
  | _=>exact absurd (show false=true from fx) ww
 | str a =>
  obtain ⟨t',rfl⟩:=ry;cases x with
  | aq=>cases rx;exact SeqAt.EqAt.str_none a t'
  | bl b=>cases rx;exact SeqAt.EqAt.str_bool a t' b
  | int b=>obtain ⟨t,rfl⟩:=rx;exact SeqAt.EqAt.str_int a t' b t
  | str b=>obtain ⟨t,rfl⟩:=rx;exact SeqAt.EqAt.str_str a t' b t
  | _=>exact absurd (show false=true from fx) ww
 | _=>exact absurd (show false=true from fy) ww
def gr (x:V) (u:Value):Bool:=match u with
 | .none=>fR .aq x
 | .bool b=>fR (.bl b) x
 | .int i _=>fR (.int i) x
 | .str z _=>fR (.str z) x
 | _=>false
def HG {x y:V} {u:Value} (r:RelV y u) (f:di y=true):gr x u=fR y x:=by
 cases y with
 | aq=>cases r;rfl
 | bl b=>cases r;rfl
 | int i=>obtain ⟨t,rfl⟩:=r;rfl
 | str z=>obtain ⟨t,rfl⟩:=r;rfl
 | _=>exact absurd (show false=true from f) ww
def uI {x:V}:∀ {xs:List V} {us:List Value},Vals xs us->xs.all di=true->us.any (gr x)=xs.any fun y=>fR y x
 | _,_,.nil,_=>rfl
 | y::xs,u::us,.cons r t,f=>by
  rw [KK,AC] at f;rw [Wp,Wp,HG r f.1,uI t f.2]
def sA {A:Around} {s:Shared} {x:V} {v:Value} (rx:RelV x v) (fx:di x=true):∀ {xs:List V} {us:List Value},Vals xs us->xs.all di=true->∀ u∈us,SeqAt.EqAt A s u v (gr x u)
 | _,_,.nil,_=>fun u hu=>by cases hu
 | y::xs,u::us,.cons r t,f=>fun u' hu=>by
  rw [KK,AC] at f;rcases lv.mp hu with rfl | hu
  ·rw [HG r f.1];exact DD r rx f.1 fx
  ·exact sA rx fx t f.2 u' hu
def fO (x:V) (xs:List V):Bool:=xs.any fun y=>fR y x
def HH (K:ν) (neg:Bool):R2:=fun x y H Q=>∃ p xs,y=.ref p/\(aD K H p xs\/cJ K H p xs)/\di x=true/\xs.all di=true/\Q (.bl (if neg then !fO x xs else fO x xs)) H
def J4:aR X (compareOp .In) (HH X.K false):=by
 intro π s σ H x y v u Q I rx ry h;obtain ⟨p,xs,rfl,hq,fx,fs,q⟩:=h;cases ry;rcases hq with hq | hq
 ·obtain ⟨aj,r,pl,hz⟩:=I.list hq;refine SeqAt.in_listAt (gr x) pl.isList (fun w hw=>sA rx fx r fs w (by simpa using hw)) ⟨.bl _,H,I,rfl,?_⟩;rw [show aj.toArray.any (gr x)=aj.any (gr x) by simp,uI r fs];exact q
 ·obtain ⟨aj,r,pl,hz⟩:=I.tuple hq;refine SeqAt.in_tupleAt (gr x) pl (fun w hw=>sA rx fx r fs w (by simpa using hw)) ⟨.bl _,H,I,rfl,?_⟩;rw [show aj.toArray.any (gr x)=aj.any (gr x) by simp,uI r fs];exact q
def Xh:aR X (compareOp .NotIn) (HH X.K true):=by
 intro π s σ H x y v u Q I rx ry h;obtain ⟨p,xs,rfl,hq,fx,fs,q⟩:=h;cases ry;rcases hq with hq | hq
 ·obtain ⟨aj,r,pl,hz⟩:=I.list hq;refine SeqAt.notIn_listAt (gr x) pl.isList (fun w hw=>sA rx fx r fs w (by simpa using hw)) ⟨.bl _,H,I,rfl,?_⟩;rw [show aj.toArray.any (gr x)=aj.any (gr x) by simp,uI r fs];exact q
 ·obtain ⟨aj,r,pl,hz⟩:=I.tuple hq;refine SeqAt.notIn_tupleAt (gr x) pl (fun w hw=>sA rx fx r fs w (by simpa using hw)) ⟨.bl _,H,I,rfl,?_⟩;rw [show aj.toArray.any (gr x)=aj.any (gr x) by simp,uI r fs];exact q
def ab7:cZ X (.type "list") (fun xs H Q=>∃ p ys,xs=[.ref p]/\(aD X.K H p ys\/cJ X.K H p ys)/\∀ l,H l=none->Q (.ref l) (upd H l (.lst ys))):=by
 intro π s σ H xs us Q I r h;obtain ⟨p,ys,rfl,hq,q⟩:=h;obtain ⟨u,rfl,rx⟩:=vals1 r;cases rx;have fin:∀ (aj:List Value),Vals ys aj->ys.length<=sizeLine->∀ (h':Heap) (c':Nat),(∀ b o',s.heap.get? b=some o'->h'.get? b=some o') ->
   h'.get? s.heap.objs.size=some { cls:=.type "list",dict:=none,data:=.seq aj.toArray c',slots:=#[] }->EP X π σ Q (.ref s.heap.objs.size) { s with heap:=h' }:=fun aj r' hz h' c' kp e =>
  ⟨.ref s.heap.objs.size,_,I.laid (t':=s.toks) kp (sK _) (show bR X.prog X.w _ h' _ (.lst ys) from ⟨hz,aj,c',r',e⟩),rfl,q _ (I.ay.fresh (sK _))⟩
 rcases hq with hq | hq
 ·obtain ⟨aj,r',pl,hz⟩:=I.list hq;have hlen:=r'.length;obtain ⟨o,ho,hc,n,hd⟩:=pl.isList;exact call_list_seq p (.inl rfl) ho hc hd (fun h' c' kp e=>fin aj r' hz h' c' kp e) (by simp only [sB] <;> omega)
 ·obtain ⟨aj,r',pl,hz⟩:=I.tuple hq;have hlen:=r'.length;obtain ⟨o,ho,hc,n,hd⟩:=pl;exact call_list_seq p (.inr rfl) ho hc hd (fun h' c' kp e=>fin aj r' hz h' c' kp e) (by simp only [sB] <;> omega)
def Xv (K:ν) (T:String) (x:V) (H:Hp):Prop:=match x with
 | .str _=>T = "str"
 | .int _=>T = "int"
 | .ref p=>(T = "list" /\ ∃ xs,aD K H p xs)\/(T = "tuple" /\ ∃ o,K.lookup p=some o/\o.cls=.type "tuple" /\ o.dict=none) \/
   (T = "dict" /\ ((∃ kvs,H p=some (.dK kvs))\/∃ kvs,H p=some (.dT kvs)))\/(T = "set" /\ ∃ S n,H p=some (.set S n))
 | _=>False
def yX {π:List (Addr×Obj)} {σ:St} {H:Hp} {s:Shared} {T:String} {x:V} {v:Value} (I:Inv X π σ H s) (r:RelV x v) (ty:Xv X.K T x H) :
  s.TypeIs v T/\∀ a,v=.ref a->∃ ob,s.heap.get? a=some ob/\ob.dict=none:=by
 cases x with
 | str z =>
  obtain ⟨t,rfl⟩:=r;cases (show T = "str" from ty);exact ⟨_u s z t,fun _ e=>nomatch e⟩
 | int i =>
  obtain ⟨t,rfl⟩:=r;cases (show T = "int" from ty);exact ⟨typeIs_int s i t,fun _ e=>nomatch e⟩
 | ref p =>
  cases r;rcases ty with ⟨rfl,xs,hq⟩ | ⟨rfl,o,hk,hc,hd⟩ | ⟨rfl,hk⟩ | ⟨rfl,S,n,hk⟩
  ·obtain ⟨aj,_,pl,_⟩:=I.list hq;refine ⟨pl.isList.typeIs,fun a e=>?_⟩;cases e;obtain ⟨o,n,e,c,hd,_⟩:=pl;exact ⟨o,e,hd⟩
  ·refine ⟨⟨o,I.bX p o hk,hc⟩,fun a e=>?_⟩;cases e;exact ⟨o,I.bX _ o hk,hd⟩
  ·have z:∃ o,s.heap.get? p=some o/\o.ExactDict:=by
    rcases hk with ⟨kvs,hk⟩ | ⟨kvs,hk⟩
    ·obtain ⟨_,_,_,_,o,_,_,e,ex,_⟩:=I.ay p _ hk;exact ⟨o,e,ex⟩
    ·obtain ⟨_,_,_,_,o,_,_,e,ex,_⟩:=I.ay p _ hk;exact ⟨o,e,ex⟩
   obtain ⟨o,e,ex⟩:=z;refine ⟨⟨o,e,ex.1⟩,fun a e2=>?_⟩;cases e2;exact ⟨o,e,ex.2.1⟩
  ·obtain ⟨o,_,_,_,e,ex,_⟩:=I.ay p _ hk;refine ⟨⟨o,e,ex.1⟩,fun a e2=>?_⟩;cases e2;exact ⟨o,e,ex.2.1⟩
 | _=>exact False.elim ty
variable {o e:Expr} {es:List Expr} {to:TE} {t:TA} {name:Str} {apos bh:Pos} {T id:String} {r:V->List V->Hp->VK->Prop}
/- xs.append(e),list.index on a module's tuple .. are en facts of 06m -/
end
def yE (X:Cx) (id:String) (r:V->List V->Hp->VK->Prop):Prop :=
 ∀ (π:List (Addr×Obj)) (s:Shared) (σ:St) (H:Hp) (x:V) (xs:List V) (v:Value) (us:List Value) (Q:VK),Inv X π σ H s->RelV x v->Vals xs us->r x xs H Q ->
  wpAny (model X.prog X.w) X.A (call (.builtin id) (v::us)) (EP X π σ Q) X.xe s
def Vals.one:∀ {x:V} {us:List Value},Vals [x] us->∃ u,us=[u]/\RelV x u
 | _,_,.cons r .nil=>⟨_,rfl,r⟩
def Vals.zero:∀ {us:List Value},Vals [] us->us=[]
 | _,.nil=>rfl
def Vals.dropLast {xs:List V} {us:List Value} (h:Vals xs us):Vals xs.dropLast us.dropLast:=by
 induction h with
 | nil=>exact .nil
 | cons r t ih =>
  cases t with
  | nil=>exact .nil
  | cons q t'=>exact .cons r ih
def Vals.rep {xs:List V} {us:List Value} (h:Vals xs us):∀ k:Nat,Vals (List.replicate k xs).flatten (List.replicate k us).flatten
 | 0=>.nil
 | k+1=>by
  rw [_g,_g,_N,_N];exact Vals.append h (Vals.rep h k)
def ZE {α:Type} (l:List α):l.eraseIdx (l.length - 1)=l.dropLast:=by
 induction l with
 | nil=>rfl
 | cons a r ih =>
  cases r with
  | nil=>rfl
  | cons b r =>
   have e:(a::b::r).length - 1=((b::r).length - 1)+1:=by
    have h1:(a::b::r).length=r.length+2:=rfl;have h2:(b::r).length=r.length+1:=rfl;omega
   rw [e,List.eraseIdx_cons_succ,ih]
   all_goals rfl
def foldl_rep (aj:List Value):∀ (k:Nat) (acc:List Value),
  List.foldl (fun x1 x2=>x1++x2) acc.toArray (List.replicate k aj.toArray)=(acc++(List.replicate k aj).flatten).toArray
 | 0,acc=>by simp
 | k+1,acc=>by
  have e:acc.toArray++aj.toArray=(acc++aj).toArray:=by simp
  have e2:(acc++aj)++(List.replicate k aj).flatten=acc++(List.replicate (k+1) aj).flatten:=by
   rw [_g,_N,_O]
  rw [<- e2,<- foldl_rep aj k (acc++aj),<- e,_g,List.foldl_cons]
section
variable {X:Cx} {π:List (Addr×Obj)} {σ:St} {H:Hp} {s:Shared} {l b:Addr} {xs ys zs:List V}
def Inv.B0 {aj its':List Value} {n:Nat} {f:Array Value->Array Value} {t':Nat} (I:Inv X π σ H s) (hH:H l=some (.lst xs))
  (e:s.heap.get? l=some { cls:=.type "list",data:=.seq aj.toArray n }) (hf:f aj.toArray=its'.toArray) (hv:Vals ys its') (hz:ys.length<=sizeLine) :
  Inv X π σ (upd H l (.lst ys)) { s with heap:=s.heap.update l (Obj.mapSeq f),toks:=t' }:=by
 have q:=PySem.IsL.update e f;rw [hf] at q;refine I.write (x:=l) (e:=l) (by rw [hH];exact trivial) (.inl rfl) (fun b' u hb hu=>(GM s.heap (Obj.mapSeq f) (pp hb)).trans hu) ⟨_,q⟩ ?_;exact ⟨hz,its',_,hv,q⟩
def Inv.GI {aj:List Value} {t':Nat} (I:Inv X π σ H s) (hv:Vals ys aj) (hz:ys.length<=sizeLine) :
  Inv X π σ (upd H s.heap.objs.size (.lst ys)) { s with heap:=s.heap.push { cls:=.type "list",data:=.seq aj.toArray },toks:=t' } :=
 I.laid (fun _ _ q=>pc _ q) (sK _) ⟨hz,aj,0,hv,wn _ rfl⟩
def Inv.fresh (I:Inv X π σ H s):H s.heap.objs.size=none:=I.ay.fresh (sK _)
def Inv.oF (I:Inv X π σ H s) (hH:H l=some (.lst xs)):xs.length<=sizeLine/\∃ (aj:List Value) (n:Nat),Vals xs aj/\xs.length=aj.length/\s.heap.get? l=some { cls:=.type "list",data:=.seq aj.toArray n }:=by
 obtain ⟨z,aj,n,r,e⟩:=I.ay l _ hH;exact ⟨z,aj,n,r,r.length,e⟩
def LI {n:Nat} (h:n<=sizeLine):Builtin.List.listTooLong n=false:=by
 unfold Builtin.List.listTooLong;exact pi (by omega)
end
section
variable {X:Cx}
def ab4:V->List V->Hp->VK->Prop:=fun x vs H Q=>∃ l xs y,x=.ref l/\vs=[y]/\H l=some (.lst xs)/\xs.length < sizeLine/\Q .aq (upd H l (.lst (xs++[y])))
def adp:yE X "list.append" ab4:=by
 intro π s σ H x vs v us Q I rx rv h;obtain ⟨l,xs,y,rfl,rfl,hH,hz,q⟩:=h;cases rx;obtain ⟨u,rfl,ru⟩:=rv.one;obtain ⟨z,aj,n,r,hl,e⟩:=I.oF hH;refine TD F.slot_list_append ⟨_,e,rfl⟩ F.entry_list_append (F.args_list_append_2 _ _) (PySem.list_append l aj.toArray n u (by rw [sB];omega)) ⟨e,?_⟩;refine ⟨.aq,_,I.B0 (its':=aj++[u]) hH e (by simp) (r.append (.cons ru .nil)) ?_,rfl,q⟩;rw [xz,List.length_singleton];omega
def Qa:V->List V->Hp->VK->Prop:=fun x vs H Q=>∃ l b xs zs,x=.ref l/\vs=[.ref b]/\H l=some (.lst xs)/\H b=some (.lst zs)/\xs.length+zs.length<=sizeLine/\Q .aq (upd H l (.lst (xs++zs)))
def Yz:yE X "list.extend" Qa:=by
 intro π s σ H x vs v us Q I rx rv h;obtain ⟨l,b,xs,zs,rfl,rfl,hH,hB,hz,q⟩:=h;cases rx;obtain ⟨u,rfl,ru⟩:=rv.one;cases ru;obtain ⟨z,aj,n,r,hl,e⟩:=I.oF hH;obtain ⟨z2,pb,n2,r2,cY,e2⟩:=I.oF hB;have hsz:aj.toArray.size+pb.toArray.size<=sizeLine:=by rw [sB,sB];omega
 have Ek:¬ (!aj.toArray.isEmpty && Builtin.List.listTooLong (aj.toArray.size+pb.toArray.size))=true:=by
  rw [LI hsz,Bool.and_false];exact ww
 refine TD F.slot_list_extend ⟨_,e,rfl⟩ F.entry_list_extend (F.args_list_extend_2 _ _)
  (AutoSeq1.list_extend_list_list_0 l aj.toArray n b pb.toArray n2 Ek (by rw [sB];omega) (by omega)) ⟨e,e2,?_⟩
 refine ⟨.aq,_,I.B0 (its':=aj++pb) hH e (by simp) (r.append r2) ?_,rfl,q⟩;rw [xz];omega
def KW:V->List V->Hp->VK->Prop:=fun x vs H Q=>∃ l xs y,x=.ref l/\vs=[]/\H l=some (.lst xs)/\xs[xs.length - 1]?=some y/\Q y (upd H l (.lst xs.dropLast))
def ada:yE X "list.pop" KW:=by
 intro π s σ H x vs v us Q I rx rv h;obtain ⟨l,xs,y,rfl,rfl,hH,hy,q⟩:=h;cases rx;have hus:=rv.zero;subst hus;obtain ⟨z,aj,n,r,hl,e⟩:=I.oF hH;obtain ⟨u,hu,ru⟩:=r.get hy;have hy':aj.toArray[aj.toArray.size - 1]?=some u:=by
  show aj.toArray[aj.length - 1]?=some u;rw [<- SC,<- hl];exact hu
 refine TD F.slot_list_pop ⟨_,e,rfl⟩ F.entry_list_pop (F.args_list_pop_1 _) (MeetsSeq.list_pop_last l aj.toArray n u hy' (by rw [sB];omega)) ⟨e,?_⟩;refine ⟨y,_,I.B0 (its':=aj.dropLast) hH e ?_ r.dropLast ?_,ru,q⟩
 ·show aj.toArray.eraseIdxIfInBounds (aj.toArray.size - 1)=aj.dropLast.toArray;rw [sB,List.eraseIdxIfInBounds_toArray,ZE]
 ·rw [List.length_dropLast];omega
def Pa:R2:=fun x y H Q=>∃ l b xs zs,x=.ref l/\y=.ref b/\H l=some (.lst xs)/\H b=some (.lst zs)/\xs.length+zs.length<=sizeLine/\∀ p,H p=none->Q (.ref p) (upd H p (.lst (xs++zs)))
def Yr:aR X (binaryOp .Add) Pa:=by
 intro π s σ H x y v u Q I rx ry h;obtain ⟨l,b,xs,zs,rfl,rfl,hH,hB,hz,q⟩:=h;cases rx;cases ry;obtain ⟨z,aj,n,r,hl,e⟩:=I.oF hH;obtain ⟨z2,pb,n2,r2,cY,e2⟩:=I.oF hB;refine PySem.P.add_list e e2 ?_ (by rw [sB,sB];omega);have ea:aj.toArray++pb.toArray=(aj++pb).toArray:=by simp
 rw [ea];exact ⟨.ref _,_,I.GI (t':=s.toks) (r.append r2) (by rw [xz];omega),rfl,q _ I.fresh⟩
def Tg:R2:=fun x y H Q=>∃ l k xs,x=.ref l/\y=.int k/\H l=some (.lst xs)/\-(2 ^ 63)<=k/\k < 2 ^ 63/\xs.length * k.toNat<=sizeLine /\
 ∀ p,H p=none->Q (.ref p) (upd H p (.lst (List.replicate k.toNat xs).flatten))
def len_rep {α:Type} (xs:List α) (k:Nat):(List.replicate k xs).flatten.length=k * xs.length:=by
 induction k with
 | zero=>simp
 | succ k ih=>rw [_g,_N,xz,ih,Nat.succ_mul,Nat.add_comm]
def abT:aR X (binaryOp .Mult) Tg:=by
 intro π s σ H x y v u Q I rx ry h;obtain ⟨l,k,xs,rfl,rfl,hH,h1,h2,hz,q⟩:=h;cases rx;obtain ⟨t,rfl⟩:=ry;obtain ⟨z,aj,n,r,hl,e⟩:=I.oF hH;have hlen:aj.toArray.size * k.toNat<=sizeLine:=by rw [sB,<- hl];exact hz
 have hcap:¬ aj.toArray.size * k.toNat > (2 ^ 63 - 1) / 8:=by
  have:(sizeLine:Nat)<=(2 ^ 63 - 1) / 8:=by decide
  omega
 have Er:¬ (!Builtin.List.listFitsIndex k)=true:=by
  rw [fitsIndex_both h1 h2];exact ww
 have Ek:¬ Builtin.List.listTooLong (aj.toArray.size * k.toNat)=true:=by
  rw [LI hlen];exact ww
 have hnew:List.foldl (fun x1 x2=>x1++x2) #[] (List.replicate (if aj.toArray.isEmpty=true then 0 else k.toNat) aj.toArray)=(List.replicate k.toNat aj).flatten.toArray:=by
  have f0:∀ m:Nat,List.foldl (fun x1 x2=>x1++x2) #[] (List.replicate m aj.toArray)=(List.replicate m aj).flatten.toArray:=fun m=>by
   have:=foldl_rep aj m [];rw [List.nil_append] at this;exact this
  rw [f0];cases aj with
  | nil=>simp
  | cons a r'=>rw [xL (by simp)]
 refine wpAny_binaryOp_repeat_ref (T := "list") (U := "int") (by decide) ⟨_,e,rfl⟩ (fun s'=>typeIs_int s' k t) noFill_list_mul F.fills_int_mul F.slot_int_rmul repeat_list F.slot_int_index.lookup
  (TD F.slot_int_rmul (typeIs_int s k t) F.entry_int_rmul (F.args_int_rmul_2 _ _) (int___rmul___int_list k t l aj.toArray n)
   ⟨e,rfl,⟨_,e,rfl⟩,TD F.slot_list_mul ⟨_,e,rfl⟩ F.entry_list_mul (F.args_list_mul_2 _ _) (AutoListH.list___mul___list_int_3 l aj.toArray n k t Er hcap Ek) ⟨e,?_⟩⟩)
 rw [hnew];exact ⟨.ref _,_,I.GI (t':=s.toks) (r.rep k.toNat) (by rw [len_rep,Nat.mul_comm];exact hz),rfl,q _ I.fresh⟩
end
section
variable {prog:Program} {w:World} {A:Around} {E:Value->Shared->Prop} {s:Shared}
end
section
variable {X:Cx}
end
section
variable {κ:Type} [DecidableEq κ]
def aF (kvs:List (κ×V)) (k:κ):Option V:=(kvs.find? fun kv=>decide (kv.1=k)).map (·.2)
def putK (kvs:List (κ×V)) (k:κ) (v:V):List (κ×V) :=
 if (kvs.any fun kv=>decide (kv.1=k))=true then kvs.map (fun kv=>if kv.1=k then (kv.1,v) else kv) else kvs++[(k,v)]
def jJ (kvs:List (κ×V)) (k:κ):List (κ×V):=kvs.filter fun kv=>decide (kv.1≠k)
def nO {p:κ×V} {r:List (κ×V)} {k:κ} (e:p.1=k):aF (p::r) k=some p.2:=by simp [aF,PP,e]
def nK {p:κ×V} {r:List (κ×V)} {k:κ} (e:¬ p.1=k):aF (p::r) k=aF r k:=by simp [aF,PP,e]
def xp (k:κ):∀ kvs:List (κ×V),(kvs.any fun kv=>decide (kv.1=k))=(aF kvs k).isSome
 | []=>rfl
 | p::r=>by
  rw [Wp];by_cases e:p.1=k
  ·simp only [nO e,tz e,Bool.true_or,Option.isSome_some]
  ·rw [nK e,pi e,Bool.false_or];exact xp k r
def FP (k j:κ) (y:V):∀ kvs:List (κ×V),aF kvs k=none->aF (kvs++[(k,y)]) j=if j=k then some y else aF kvs j
 | [],_=>by
  by_cases e:k=j
  ·rw [At e.symm];exact nO (p:=(k,y)) e
  ·rw [xL (fun z=>e z.symm)];exact nK (p:=(k,y)) e
 | p::r,hn=>by
  rw [List.cons_append];have hk:¬ p.1=k:=fun z=>by rw [nO z] at hn;cases hn
  rw [nK hk] at hn;have ih:=FP k j y r hn;by_cases e:p.1=j
  ·rw [nO e,nO e,xL (fun z=>hk (e.trans z))]
  ·rw [nK e,nK e,ih]
def DC (kvs:List (κ×V)) (k:κ) (v:V):(putK kvs k v).length<=kvs.length+1:=by
 unfold putK;split
 ·rw [ss];omega
 ·rw [xz,FB,_F];omega
def Gh {kvs:List (κ×V)} {k:κ} (v:V) (h:aF kvs k=none):putK kvs k v=kvs++[(k,v)]:=by
 unfold putK;rw [xp,h];exact xL (by decide)
def eM.tP {o:Option V} {u:Option Value} (r:eM o u):o.isSome=u.isSome:=by
 cases o with
 | none=>cases u with
  | none=>rfl
  | some _=>exact (show False from r).elim
 | some _=>cases u with
  | none=>exact (show False from r).elim
  | some _=>rfl
def eM.getD {o:Option V} {u:Option Value} {d:V} {d':Value} (r:eM o u) (rd:RelV d d'):RelV (o.getD d) (u.getD d'):=by
 cases o with
 | none=>cases u with
  | none=>exact rd
  | some _=>exact (show False from r).elim
 | some _=>cases u with
  | none=>exact (show False from r).elim
  | some _=>exact r
def KV.val {kvs:List (κ×V)} {vs:List (κ×Value)} (r:KV kvs vs) (k:κ):eM (aF kvs k) (valueAt vs k):=by
 unfold KV at r
 induction r with
 | nil=>exact True.intro
 | @cons p q ps qs h t ih =>
  obtain ⟨h1,h2⟩:=h;by_cases e:p.1=k
  ·have e':q.1=k:=h1.symm.trans e;have b:valueAt (q::qs) k=some q.2:=by simp [valueAt,PP,e']
   rw [nO e,b];exact h2
  ·have e':¬ q.1=k:=fun z=>e (h1.trans z);have b:valueAt (q::qs) k=valueAt qs k:=by simp [valueAt,PP,e']
   rw [nK e,b];exact ih
def KV.any {kvs:List (κ×V)} {vs:List (κ×Value)} (r:KV kvs vs) (k:κ):(kvs.any fun kv=>decide (kv.1=k))=vs.any fun kv=>decide (kv.1=k):=by
 unfold KV at r
 induction r with
 | nil=>rfl
 | cons h t ih=>rw [Wp,Wp,ih,h.1]
def KV.BF {kvs:List (κ×V)} {vs:List (κ×Value)} (r:KV kvs vs) (k:κ) {y:V} {u:Value} (ry:RelV y u) :
  KV (kvs.map fun kv=>if kv.1=k then (kv.1,y) else kv) (vs.map fun kv=>if kv.1=k then (kv.1,u) else kv):=by
 unfold KV at r ⊢
 induction r with
 | nil=>exact .nil
 | @cons p q ps qs h t ih =>
  rw [wT,wT];refine .cons ?_ ih;obtain ⟨h1,h2⟩:=h;by_cases e:p.1=k
  ·rw [At e,At (h1.symm.trans e)];exact ⟨h1,ry⟩
  ·rw [xL e,xL (fun z=>e (h1.trans z))];exact ⟨h1,h2⟩
def KV.put {kvs:List (κ×V)} {vs:List (κ×Value)} (r:KV kvs vs) (k:κ) {y:V} {u:Value} (ry:RelV y u):KV (putK kvs k y) (stored vs k u):=by
 unfold putK stored;rw [r.any k];by_cases e:(vs.any fun kv=>decide (kv.1=k))=true
 ·rw [At e,At e];exact r.BF k ry
 ·rw [xL e,xL e];exact Paired.snoc r ⟨rfl,ry⟩
def KV.drop {kvs:List (κ×V)} {vs:List (κ×Value)} (r:KV kvs vs) (k:κ):KV (jJ kvs k) (without vs k):=by
 unfold KV at r ⊢;unfold jJ without
 induction r with
 | nil=>exact .nil
 | @cons p q ps qs h t ih =>
  obtain ⟨h1,h2⟩:=h;rw [List.filter_cons,List.filter_cons];by_cases e:p.1=k
  ·have a:¬ decide (p.1≠k)=true:=by simp [e]
   have b:¬ decide (q.1≠k)=true:=by simp [h1.symm.trans e]
   rw [xL a,xL b];exact ih
  ·have e':¬ q.1=k:=fun z=>e (h1.trans z);have a:decide (p.1≠k)=true:=by simp [e]
   have b:decide (q.1≠k)=true:=by simp [e']
   rw [At a,At b];exact .cons ⟨h1,h2⟩ ih
def KV.keys {kvs:List (κ×V)} {vs:List (κ×Value)} (r:KV kvs vs):kvs.map (·.1)=vs.map (·.1):=by
 unfold KV at r
 induction r with
 | nil=>rfl
 | cons h t ih=>rw [wT,wT,ih,h.1]
def KV.length {kvs:List (κ×V)} {vs:List (κ×Value)} (r:KV kvs vs):kvs.length=vs.length:=Paired.length r
def acC (kvs:List (κ×V)) (k:κ):(jJ kvs k).length<=kvs.length:=Pi _ _
end
def mf {P:Program} {w:World} {k:Key} {u:Value} (r:RelV (kV k) u):(dI P w).is k u=true:=by
 cases k with
 | inl i=>obtain ⟨t,e⟩:=(show ∃ t,u=Value.int i t from r);subst e;exact acE P w i t
 | inr x=>obtain ⟨t,e⟩:=(show ∃ t,u=Value.str x t from r);subst e;exact OV P w x t
def Ie {P:Program} {w:World}:∀ {ks:List Key} {us:List Value},Vals (ks.map kV) us->ItemsAre (dI P w) ks us
 | [],_,r=>by rw [IN] at r;cases r;exact .nil
 | k::ks,_,r=>by
  rw [wT] at r;cases r with
  | cons h t=>exact .cons (mf h) (Ie t)
abbrev KT (H:Hp):List (List Key×V)->List (List Key×Addr×Value)->Prop:=Paired fun p q=>p.1=q.1/\H q.2.1=some (.tup (p.1.map kV))/\RelV p.2 q.2.2
def KT.val {H:Hp} {kvs:List (List Key×V)} {xs:List (List Key×Addr×Value)} (r:KT H kvs xs) (k:List Key):eM (aF kvs k) ((atKey xs k).map (·.2)):=by
 induction r with
 | nil=>exact True.intro
 | @cons p q ps qs h t ih =>
  obtain ⟨h1,_,h2⟩:=h;by_cases e:p.1=k
  ·have e':q.1=k:=h1.symm.trans e;have b:atKey (q::qs) k=some q.2:=by simp [atKey,PP,e']
   rw [nO e,b];exact h2
  ·have e':¬ q.1=k:=fun z=>e (h1.trans z);have b:atKey (q::qs) k=atKey qs k:=by simp [atKey,PP,e']
   rw [nK e,b];exact ih
def KT.BF {H:Hp} {kvs:List (List Key×V)} {xs:List (List Key×Addr×Value)} (r:KT H kvs xs) (k:List Key) {y:V} {u:Value} (ry:RelV y u) :
  KT H (kvs.map fun kv=>if kv.1=k then (kv.1,y) else kv) (xs.map (putAt k u)):=by
 induction r with
 | nil=>exact .nil
 | @cons p q ps qs h t ih =>
  rw [wT,wT];refine .cons ?_ ih;obtain ⟨h1,h2,h3⟩:=h;unfold putAt;by_cases e:p.1=k
  ·rw [At e,At (h1.symm.trans e)];exact ⟨h1,h2,ry⟩
  ·rw [xL e,xL (fun z=>e (h1.trans z))];exact ⟨h1,h2,h3⟩
def KT.put {H:Hp} {kvs:List (List Key×V)} {xs:List (List Key×Addr×Value)} (r:KT H kvs xs) (k:List Key) {b:Addr} {y:V} {u:Value} (hb:H b=some (.tup (k.map kV))) (ry:RelV y u) :
  KT H (putK kvs k y) (storedH xs k b u):=by
 have e:(kvs.any fun kv=>decide (kv.1=k))=(atKey xs k).isSome:=by
  rw [xp,(r.val k).tP,_P]
 unfold putK storedH;rw [e];by_cases q:(atKey xs k).isSome=true
 ·rw [At q,At q];exact r.BF k ry
 ·rw [xL q,xL q];exact Paired.snoc r ⟨rfl,hb,ry⟩
def KT.keeps {H H':Hp} {kvs:List (List Key×V)} {xs:List (List Key×Addr×Value)} (r:KT H kvs xs) (ht:∀ b ys,H b=some (.tup ys)->H' b=some (.tup ys)):KT H' kvs xs :=
 Paired.C6 r fun _ _ z=>⟨z.1,ht _ _ z.2.1,z.2.2⟩
section
variable {P:Program} {w:World} {H:Hp} {h:Heap} {a:Addr}
def KA {u:HO} (ok:cg P w H h) (e:Rd H a u):bR P w H h a u:=e.ok ok
def nX {kvs:List (Key×V)} (ok:cg P w H h) (e:Rd H a (.dK kvs)):kvs.length<=sizeLine/\(a == sysModules)=false/\∃ vs,KV kvs vs/\h.DictOf (dI P w) a vs :=
 show bR P w H h a (.dK kvs) from KA ok e
def yZ {kvs:List (Key×V)} (ok:cg P w H h) (e:H a=some (.dK kvs)):kvs.length<=sizeLine/\(a == sysModules)=false/\∃ vs,KV kvs vs/\h.DictOf (dI P w) a vs:=nX ok (.inl e)
def qR {ks:List Key} (ok:cg P w H h) (e:H a=some (.tup (ks.map kV))):(tupleKind (dI P w)).is h ks a:=by
 obtain ⟨_,aj,r,o,h1,h2,n,h3⟩:=(show bR P w H h a (.tup (ks.map kV)) from ok a _ e);exact ⟨o,aj.toArray,n,h1,h2,h3.1,by simpa using Ie r⟩
def oB {kvs:List (List Key×V)} (ok:cg P w H h) (e:Rd H a (.dT kvs)):kvs.length<=sizeLine/\(a == sysModules)=false /\
  ∃ xs,KT H kvs xs/\h.DictOfH (tupleKind (dI P w)) a xs:=by
 obtain ⟨z,y,xs,r,o,es,ep,h1,h2,h3,h4,h5⟩:=(show bR P w H h a (.dT kvs) from KA ok e);refine ⟨z,y,xs,r,o,es,ep,h1,h2,h3,h4,fun x hx=>?_,h5⟩;have all:∀ {l:List (List Key×V)} {m:List (List Key×Addr×Value)},KT H l m->∀ x∈m,(tupleKind (dI P w)).is h x.1 x.2.1:=by
  intro l m q
  induction q with
  | nil=>intro x hx;exact nomatch hx
  | @cons p q ps qs hq t ih =>
   intro x hx;rcases lv.mp hx with e | hx
   ·subst e;exact qR ok (by rw [<- hq.1];exact hq.2.1)
   ·exact ih x hx
 exact all r x hx
def Q7 {kvs:List (List Key×V)} (ok:cg P w H h) (e:H a=some (.dT kvs)):kvs.length<=sizeLine/\(a == sysModules)=false /\
  ∃ xs,KT H kvs xs/\h.DictOfH (tupleKind (dI P w)) a xs:=oB ok (.inl e)
end
def ei (H:Hp) (a:Addr) (y:V) (r:Option V):Prop :=
 (∃ kvs k,Rd H a (.dK kvs)/\y=kV k/\r=aF kvs k)\/∃ kvs k b,Rd H a (.dT kvs)/\y=.ref b/\H b=some (.tup (k.map kV))/\r=aF kvs k
def gR (H:Hp) (a:Addr) (y v:V) (H':Hp):Prop :=
 (∃ kvs k,H a=some (.dK kvs)/\y=kV k/\kvs.length < sizeLine/\H'=upd H a (.dK (putK kvs k v))) \/
 ∃ kvs k b,H a=some (.dT kvs)/\y=.ref b/\H b=some (.tup (k.map kV))/\kvs.length < sizeLine/\H'=upd H a (.dT (putK kvs k v))
def ei.k {H:Hp} {a:Addr} {kvs:List (Key×V)} {k:Key} (e:H a=some (.dK kvs)):ei H a (kV k) (aF kvs k):=.inl ⟨kvs,k,.inl e,rfl,rfl⟩
def gR.k {H:Hp} {a:Addr} {kvs:List (Key×V)} {k:Key} {v:V} (e:H a=some (.dK kvs)) (hl:kvs.length < sizeLine):gR H a (kV k) v (upd H a (.dK (putK kvs k v))):=.inl ⟨kvs,k,e,rfl,hl,rfl⟩
def gR.t {H:Hp} {a b:Addr} {kvs:List (List Key×V)} {k:List Key} {v:V} (e:H a=some (.dT kvs)) (eb:H b=some (.tup (k.map kV))) (hl:kvs.length < sizeLine) :
  gR H a (.ref b) v (upd H a (.dT (putK kvs k v))):=.inr ⟨kvs,k,b,e,rfl,eb,hl,rfl⟩
section
variable {X:Cx} {π:List (Addr×Obj)} {σ:St} {H:Hp} {s:Shared} {a:Addr} {y v:V} {u r:Value} {o:Option V} {A:Around} {E:Value->Shared->Prop}
def Inv.big (I:Inv X π σ H s):sysModules < s.heap.objs.size:=by
 have h:mainGlobals < s.heap.objs.size:=(I.mod.glob.keeps I.bk).lt;exact Nat.lt_trans (by decide) h
def Sn {Q:Value->Shared->Prop} (hu:A.units+1 < cLine) (I:Inv X π σ H s) (g:ei H a y (some v)) (ry:RelV y u) (h:∀ w' s',Inv X π σ H s'->RelV v w'->Q w' s') :
  wpAny (model X.prog X.w) A (getItem (.ref a) u) Q E s:=by
 rcases g with ⟨kvs,k,e,ey,l⟩ | ⟨kvs,k,b,e,ey,eb,l⟩
 ·subst ey;obtain ⟨z,hd,vs,rel,dd⟩:=nX I.ay e;obtain ⟨w',hw,rw'⟩:=eM.some_of (v:=v) (o:=valueAt vs k) (by rw [l];exact rel.val k);exact wpAny_getItem_of (mf ry) dd.mapOf hw (h w' _ (I.tok _) rw')
 ·subst ey;cases (show u=Value.ref b from ry);obtain ⟨z,hd,xs,rel,dd⟩:=oB I.ay e;obtain ⟨w',hw,rw'⟩:=eM.some_of (v:=v) (o:=(atKey xs k).map (·.2)) (by rw [l];exact rel.val k);obtain ⟨p,hp,gL⟩:=T0.mp hw;refine wpAny_getItem_heap (_n hu) (qR I.ay eb) dd hp ?_;rw [gL];exact h w' _ (I.tok _) rw'
def acn {Q:Value->Shared->Prop} (hu:A.units+1 < cLine) (I:Inv X π σ H s) (g:ei H a y o) (ry:RelV y u) (h:∀ s',Inv X π σ H s'->Q (.bool o.isSome) s') :
  wpAny (model X.prog X.w) A (compareOp .In u (.ref a)) Q E s:=by
 rcases g with ⟨kvs,k,e,ey,l⟩ | ⟨kvs,k,b,e,ey,eb,l⟩
 ·subst ey;obtain ⟨z,hd,vs,rel,dd⟩:=nX I.ay e;refine wpAny_in_of (mf ry) hd dd.mapOf ?_;rw [<- (rel.val k).tP,<- l];exact h _ (I.tok _)
 ·subst ey;cases (show u=Value.ref b from ry);obtain ⟨z,hd,xs,rel,dd⟩:=oB I.ay e;refine wpAny_in_heap (_n hu) (qR I.ay eb) hd dd ?_;have q:=(rel.val k).tP;rw [_P] at q;rw [<- q,<- l];exact h _ (I.tok _)
def aaZ {Q:Value->Shared->Prop} (hu:A.units+1 < cLine) (I:Inv X π σ H s) (g:ei H a y o) (ry:RelV y u) (h:∀ s',Inv X π σ H s'->Q (.bool (!o.isSome)) s') :
  wpAny (model X.prog X.w) A (compareOp .NotIn u (.ref a)) Q E s:=by
 rcases g with ⟨kvs,k,e,ey,l⟩ | ⟨kvs,k,b,e,ey,eb,l⟩
 ·subst ey;obtain ⟨z,hd,vs,rel,dd⟩:=nX I.ay e;refine wpAny_notIn_of (mf ry) hd dd.mapOf ?_;rw [<- (rel.val k).tP,<- l];exact h _ (I.tok _)
 ·subst ey;cases (show u=Value.ref b from ry);obtain ⟨z,hd,xs,rel,dd⟩:=oB I.ay e;refine wpAny_notIn_heap (_n hu) (qR I.ay eb) hd dd ?_;have q:=(rel.val k).tP;rw [_P] at q;rw [<- q,<- l];exact h _ (I.tok _)
def wH {h':Heap} {t':Nat} {ob:HO} (I:Inv X π σ H s) (mu:qF (H a)) (hs:Heap.SameBut a s.heap h') (he:∃ q,h'.get? a=some q) (new:bR X.prog X.w (upd H a ob) h' a ob) :
  Inv X π σ (upd H a ob) { s with heap:=h',toks:=t' } :=
 I.write (x:=a) (e:=a) mu (.inl rfl) (fun b q hb z=>(hs.2 b hb).trans z) he new
def By {P:Program} {w:World} {H':Hp} {h':Heap} {kvs:List (Key×V)} {vs:List (Key×Value)} (z:kvs.length<=sizeLine) (hd:(a == sysModules)=false) (rel:KV kvs vs) (dd:h'.DictOf (dI P w) a vs) :
  bR P w H' h' a (.dK kvs):=⟨z,hd,vs,rel,dd⟩
def RL {H':Hp} {Q:Unit->Shared->Prop} (hu:A.units+1 < cLine) (I:Inv X π σ H s) (g:gR H a y v H') (ry:RelV y u) (rv:RelV v r) (h:∀ s',Inv X π σ H' s'->Q () s') :
  wpAny (model X.prog X.w) A (setItem (.ref a) u r) Q E s:=by
 rcases g with ⟨kvs,k,e,ey,l,eH⟩ | ⟨kvs,k,b,e,ey,eb,l,eH⟩
 ·subst ey eH;obtain ⟨z,hd,vs,rel,dd⟩:=yZ I.ay e;have hz:vs.length<=sizeLine:=by rw [<- rel.length];exact z
  have hl:(putK kvs k v).length<=sizeLine:=by have:=DC kvs k v;omega
  refine wpAny_setItem_pairs (hsz:=hz) (mf ry) dd fun h' dd' hs=>h _ ?_;have he:∃ q,h'.get? a=some q:=let ⟨q,_,_,hq,_⟩:=dd';⟨q,hq⟩
  exact wH I (by rw [e];exact True.intro) hs he (By hl hd (rel.put k rv) dd')
 ·subst ey eH;cases (show u=Value.ref b from ry);obtain ⟨z,hd,xs,rel,dd⟩:=Q7 I.ay e;have hz:xs.length<=sizeLine:=by rw [<- Paired.length rel];exact z
  have hl:(putK kvs k v).length<=sizeLine:=by have:=DC kvs k v;omega
  refine wpAny_setItem_heap (hsz:=hz) (_n hu) (qR I.ay eb) dd fun h' dd' hs=>h _ ?_;obtain ⟨q,es,ep,hq,h2,h3,h4,_,h5⟩:=dd';refine wH I (by rw [e];exact True.intro) hs ⟨q,hq⟩ ⟨hl,hd,_,(rel.put k eb rv).keeps fun c ys ec=>?_,q,es,ep,hq,h2,h3,h4,h5⟩;rw [ag (uF ec e (fun z=>nomatch z))];exact ec
end
section
variable {X:Cx} {π:List (Addr×Obj)} {σ:St} {H:Hp} {s:Shared} {a:Addr} {kvs:List (Key×V)} {k:Key} {u:Value} {A:Around} {E:Value->Shared->Prop}
def abG {v:V} {more:List Value} {Q:Value->Shared->Prop} (I:Inv X π σ H s) (e:H a=some (.dK kvs)) (ry:RelV (kV k) u) (l:aF kvs k=some v) (hm:more=[]\/∃ x,more=[x])
  (h:∀ w' s',Inv X π σ (upd H a (.dK (jJ kvs k))) s'->RelV v w'->Q w' s'):wpAny (model X.prog X.w) A (call (.builtin "dict.pop") (.ref a::u::more)) Q E s:=by
 obtain ⟨z,hd,vs,rel,dd⟩:=yZ I.ay e;obtain ⟨w',hw,rw'⟩:=eM.some_of (v:=v) (o:=valueAt vs k) (by rw [<- l];exact rel.val k);have hp:(keyPart u).isSome=true:=by
  cases k with
  | inl i=>obtain ⟨t,q⟩:=(show ∃ t,u=Value.int i t from ry);subst q;rfl
  | inr x=>obtain ⟨t,q⟩:=(show ∃ t,u=Value.str x t from ry);subst q;rfl
 have ha:argsOk "dict.pop" ⟨.ref a::u::more,[]⟩:=by
  rcases hm with q | ⟨x,q⟩
  ·subst q;exact PySem.F.args_dict_pop_2 _ _
  ·subst q;exact PySem.F.args_dict_pop_3 _ _ _
 refine call_meetsIn PySem.F.slot_dict_pop dd.typeIs PySem.F.entry_dict_pop ha (meets_dict_pop_there (dI X.prog X.w) a (mf ry) more hm hp)
  ⟨vs,w',dd,by rw [<- rel.length];exact z,hw,fun h' dd' hs=>h w' _ ?_ rw'⟩
 have he:∃ q,h'.get? a=some q:=let ⟨q,_,_,hq,_⟩:=dd';⟨q,hq⟩
 exact wH I (by rw [e];exact True.intro) hs he (By (wl (acC kvs k) z) hd (rel.drop k) dd')
end
def Dm (i:Expr):Prop:=∀ ov iv,subscripted i false ov iv=operate [ov,iv] (getItem ov iv)
def YD {prog:Program} {w:World} {A:Around} {E:Value->Shared->Prop} {s:Shared} {env:Env} {value slice:Expr} {pos:Pos} {T id:String} {Q:Value->Shared->Prop}
  (hl:typeLookup (.type T) "__getitem__" = pure (some (.builtin id))) (hs:Dm slice)
  (h:wpAny (model prog w) A (eval value env) (fun o s₁=>wpAny (model prog w) A (eval slice env) (fun i s₂=>s₂.TypeIs o T/\wpAny (model prog w) A (getItem o i) Q E s₂) E s₁) E s) :
  wpAny (model prog w) A (eval (.Subscript value slice pos) env) Q E s:=by
 refine Subscript_ (IR h (fun o s₁ h₁=>IR h₁ (fun i s₂ h₂=>?_) fun _ _ x=>x) fun _ _ x=>x);obtain ⟨hT,h₂⟩:=h₂;unfold subscriptTail;refine li ?_;rw [getitemInPython_of_ne hT.not_modules];refine li (wpAny_specialOf hT hl ?_);have fin:wpAny (model prog w) A (subscripted slice false o i) (fun r s₃=>wpAny (model prog w) A (letTemporaryGo value o r >>= fun _=>pure r) Q E s₃) E s₂:=by
  rw [hs o i];exact wpAny_operating (IR h₂ (fun r s₃ h₃=>li (wpAny_letTemporaryGo (sw h₃))) fun _ _ x=>x)
 first
  | exact sw (li fin)
  | exact li (sw (li fin))
  | exact li fin
def ZJ {X:Cx} {π:List (Addr×Obj)} {σ:St} {H:Hp} {s:Shared} {a:Addr} {y:V} {o:Option V} (I:Inv X π σ H s) (g:ei H a y o):s.TypeIs (.ref a) "dict" := by
 rcases g with ⟨kvs,k,e,_,_⟩ | ⟨kvs,k,b,e,_,_,_⟩
 ·obtain ⟨_,_,vs,_,dd⟩:=nX I.ay e;exact dd.typeIs
 ·obtain ⟨_,_,xs,_,dd⟩:=oB I.ay e;exact dd.typeIs
def zH (td ty:TE):TE:=fun σ H Q=>td σ H fun x H1=>ty σ H1 fun y H2=>∃ a v,x=.ref a/\ei H2 a y (some v)/\Q v H2
def Ap (ty td:TE):TE:=fun σ H Q=>ty σ H fun y H1=>td σ H1 fun x H2=>∃ a o,x=.ref a/\ei H2 a y o/\Q (.bl o.isSome) H2
def zO (ty td:TE):TE:=fun σ H Q=>ty σ H fun y H1=>td σ H1 fun x H2=>∃ a o,x=.ref a/\ei H2 a y o/\Q (.bl (!o.isSome)) H2
def Ao (td ty tv:TE):TS:=fun D σ H=>tv σ H fun v H1=>td σ H1 fun x H2=>ty σ H2 fun y H3=>∃ a H4,x=.ref a/\gR H3 a y v H4/\D.nx σ H4
section
variable {X:Cx} {o i e value:Expr} {pos pos' rf:Pos} {td ty tv:TE}
def abx (hu:X.A.units+1 < cLine) (ho:PE X o td) (hi:PE X i ty) (hs:Dm i):PE X (.Subscript o i pos) (zH td ty):=by
 intro π s σ H Q I h;refine YD PySem.F.slot_dict_getitem.lookup hs (aB (ho π s σ H _ I h) fun u s1 ⟨x,H1,I1,rx,q1⟩=>aB (hi π s1 σ H1 _ I1 q1) fun iv s2 ⟨y,H2,I2,ry,a,v,ex,g,q2⟩=>?_);subst ex;obtain rfl:u=Value.ref a:=rx;exact ⟨ZJ I2 g,Sn hu I2 g ry fun w' s3 I3 rw'=>⟨v,H2,I3,rw',q2⟩⟩
def aaf (hu:X.A.units+1 < cLine) (hi:PE X i ty) (ho:PE X o td):PC X .In i o (Ap ty td):=by
 intro π s σ H Q I h;refine aB (hi π s σ H _ I h) fun iv s1 ⟨y,H1,I1,ry,q1⟩=>aB (ho π s1 σ H1 _ I1 q1) fun u s2 ⟨x,H2,I2,rx,a,ov,ex,g,q2⟩=>?_;subst ex;obtain rfl:u=Value.ref a:=rx;exact acn hu I2 g ry fun s3 I3=>⟨.bl ov.isSome,H2,I3,rfl,q2⟩
def S4 (hu:X.A.units+1 < cLine) (hi:PE X i ty) (ho:PE X o td):PC X .NotIn i o (zO ty td):=by
 intro π s σ H Q I h;refine aB (hi π s σ H _ I h) fun iv s1 ⟨y,H1,I1,ry,q1⟩=>aB (ho π s1 σ H1 _ I1 q1) fun u s2 ⟨x,H2,I2,rx,a,ov,ex,g,q2⟩=>?_;subst ex;obtain rfl:u=Value.ref a:=rx;exact aaZ hu I2 g ry fun s3 I3=>⟨.bl (!ov.isSome),H2,I3,rfl,q2⟩
def ab9 (hu:X.A.units+1 < cLine) (ho:PE X o td) (hi:PE X i ty) (hv:PE X value tv) (hs:swapsWith value (some (.Subscript o i pos')) pos.line X.env=pure false) :
  PS X (.Assign [.Subscript o i pos'] value pos) (Ao td ty tv):=by
 intro π s σ H D I h;refine wpAny_Assign_Subscript (aB (hv π s σ H _ I h) fun r s1 ⟨v,H1,I1,rv,q1⟩=>aB (ho π s1 σ H1 _ I1 q1) fun u s2 ⟨x,H2,I2,rx,q2⟩=>aB (hi π s2 σ H2 _ I2 q2) fun iv s3 ⟨y,H3,I3,ry,a,H4,ex,g,q3⟩=>?_) hs;subst ex;obtain rfl:u=Value.ref a:=rx;exact RL hu I3 g ry rv fun s4 I4=>⟨σ,H4,I4,q3⟩
end
def KY {P:Program} {w:World} {H:Hp} (h:Heap) (hb:sysModules < h.objs.size):bR P w H (h.push { cls:=.type "dict",data:=.dict #[] }) h.objs.size (.dK []) :=
 ⟨Da _,EQ.mpr (pp (zn hb)),[],.nil,Heap.DictOf.new h⟩
def aaI {P:Program} {w:World} {H:Hp} (h:Heap) (hb:sysModules < h.objs.size):bR P w H (h.push { cls:=.type "dict",data:=.dict #[] }) h.objs.size (.dT []) :=
 ⟨Da _,EQ.mpr (pp (zn hb)),[],.nil,_,#[],0,wn _ rfl,⟨rfl,rfl,rfl⟩,rfl,rfl,_Q⟩
def ij:TE:=fun _ H Q=>∀ p,H p=none->Q (.ref p) (upd H p (.dK []))
def zI:TE:=fun _ H Q=>∀ p,H p=none->Q (.ref p) (upd H p (.dT []))
section
variable {X:Cx} {pos:Pos}
def Zx:PE X (.Dict [] [] pos) ij:=fun π s σ H Q I h =>
 wpAny_Dict_empty ⟨.ref s.heap.objs.size,_,I.laid (a:=s.heap.objs.size) (o:=.dK []) (t':=s.toks) (fun _ _ q=>pc _ q) (sK _) (KY s.heap I.big),rfl,h _ (I.ay.fresh (sK _))⟩
def XR:PE X (.Dict [] [] pos) zI:=fun π s σ H Q I h =>
 wpAny_Dict_empty ⟨.ref s.heap.objs.size,_,I.laid (a:=s.heap.objs.size) (o:=.dT []) (t':=s.toks) (fun _ _ q=>pc _ q) (sK _) (aaI s.heap I.big),rfl,h _ (I.ay.fresh (sK _))⟩
end
def vj:List (TE×TE)->St->Hp->(List (V×V)->Hp->Prop)->Prop
 | [],_,H,Q=>Q [] H
 | (tk,tv)::r,σ,H,Q=>tk σ H fun x H1=>tv σ H1 fun y H2=>vj r σ H2 fun ps H3=>Q ((x,y)::ps) H3
abbrev VV:List (V×V)->List (Value×Value)->Prop:=Paired fun p q=>RelV p.1 q.1/\RelV p.2 q.2
def uz (X:Cx) (pos:Pos) (keys:List (Option Expr)) (values:List Expr) (gy:List (TE×TE)):Prop :=
 ∀ (π:List (Addr×Obj)) (s:Shared) (σ:St) (H:Hp) (Q:List (V×V)->Hp->Prop),Inv X π σ H s->vj gy σ H Q ->
  wpAny (model X.prog X.w) X.A (evalPairs (pairTrees keys values X.env pos)) (fun vs s'=>∃ ps H',Inv X π σ H' s'/\VV ps vs/\Q ps H') X.xe s
def abY {X:Cx} {pos:Pos}:uz X pos [] [] []:=fun π s σ H Q I h=>pairTrees_nil_walk ⟨[],H,I,.nil,h⟩
def SA {X:Cx} {pos:Pos} {k v:Expr} {ks:List (Option Expr)} {vs:List Expr} {tk tv:TE} {gy:List (TE×TE)} (hk:PE X k tk) (hv:PE X v tv) (hr:uz X pos ks vs gy) :
  uz X pos (some k::ks) (v::vs) ((tk,tv)::gy):=fun π s σ H Q I h =>
 pairTrees_cons_walk (aB (hk π s σ H _ I h) fun u s1 ⟨x,H1,I1,rx,q1⟩=>aB (hv π s1 σ H1 _ I1 q1) fun w2 s2 ⟨y,H2,I2,ry,q2⟩ =>
  aB (hr π s2 σ H2 _ I2 q2) fun ws s3 ⟨ps,H3,I3,rel,q3⟩=>⟨(x,y)::ps,H3,I3,.cons ⟨rx,ry⟩ rel,q3⟩)
def qc (kvs more:List (Key×V)):List (Key×V):=more.foldl (fun acc kv=>putK acc kv.1 kv.2) kvs
def KV.merge:∀ {more:List (Key×V)} {rs:List (Key×Value)} {kvs:List (Key×V)} {vs:List (Key×Value)},KV more rs->KV kvs vs->KV (qc kvs more) (merged vs rs):=by
 intro more rs kvs vs r;unfold KV at r
 induction r generalizing kvs vs with
 | nil=>intro q;exact q
 | @cons p q ps qs h t ih =>
  intro r0;have e:KV (putK kvs p.1 p.2) (stored vs q.1 q.2):=by
   have:=r0.put p.1 h.2;rw [<- h.1];exact this
  exact ih e
def J0:∀ (more kvs:List (Key×V)),(qc kvs more).length<=kvs.length+more.length
 | [],kvs=>by show kvs.length<=kvs.length+0;omega
 | p::r,kvs=>by
  have h1:=J0 r (putK kvs p.1 p.2);have h2:=DC kvs p.1 p.2;show (qc (putK kvs p.1 p.2) r).length<=_;rw [FB];omega
def IC {P:Program} {w:World}:∀ {kvs:List (Key×V)} {ws:List (Value×Value)},VV (kvs.map fun kv=>(kV kv.1,kv.2)) ws->∃ rs,Carries (dI P w) ws rs/\KV kvs rs
 | [],_,r=>by rw [IN] at r;cases r;exact ⟨[],True.intro,.nil⟩
 | p::kvs,_,r=>by
  rw [wT] at r;cases r with
  | @cons a b as bs h t =>
   obtain ⟨rs,c,q⟩:=IC (P:=P) (w:=w) t;obtain ⟨b1,b2⟩:=b;exact ⟨(p.1,b2)::rs,⟨mf h.1,rfl,c⟩,.cons ⟨rfl,h.2⟩ q⟩
def HN (gy:List (TE×TE)):TE:=fun σ H Q=>∀ p,H p=none->vj gy σ (upd H p (.dK [])) fun ps H2=>H2 p=some (.dK [])/\∃ kvs:List (Key×V),ps=kvs.map (fun kv=>(kV kv.1,kv.2))/\kvs.length<=15/\Q (.ref p) (upd H2 p (.dK (qc [] kvs)))
def TK {X:Cx} {pos:Pos} {keys:List (Option Expr)} {values:List Expr} {gy:List (TE×TE)} (h:uz X pos keys values gy) (jb:keys.all (·.isSome)=true) (hl:keys.length=values.length) (h0:keys≠[])
  (D8:keys.length<=15):PE X (.Dict keys values pos) (HN gy):=by
 intro π s σ H Q I q;have hn:=I.ay.fresh (sK s.heap.objs.size);have I1:=I.laid (a:=s.heap.objs.size) (o:=.dK []) (h':=s.heap.push { cls:=.type "dict",data:=.dict #[] }) (t':=s.toks) (fun _ _ q=>pc _ q) (sK _) (KY s.heap I.big);refine wpAny_Dict_walk (knd:=dI X.prog X.w) jb hl h0 D8 (aB (h π _ σ _ _ I1 (q _ hn)) fun ws s2 ⟨ps,H2,I2,rel,e,kvs,ep,lk,q2⟩=>?_);subst ep;obtain ⟨rs,c,rk⟩:=IC (P:=X.prog) (w:=X.w) rel;obtain ⟨z,hd,vs0,r0,dd⟩:=yZ I2.ay e;cases r0;refine ⟨rs,c,dd,fun h' dd' hs=>⟨.ref s.heap.objs.size,_,?_,rfl,q2⟩⟩;have hz:(qc [] kvs).length<=sizeLine:=by
  have h1:=J0 kvs [];rw [_F] at h1;rw [_Y];omega
 have he:∃ q,h'.get? s.heap.objs.size=some q:=let ⟨q,_,_,hq,_⟩:=dd';⟨q,hq⟩
 exact wH I2 (by rw [e];exact True.intro) hs he (By hz hd (rk.merge .nil) dd')
structure M1 (X:Cx) (o:Expr) (m:Str) (apos:Pos) (e:Expr) (bh:Pos):Prop where
 base:attributeBase o m X.env (eval o X.env)=eval o X.env
 Bs:((backTo bh (starEach [e] X.env)).all (fun x=>!x.1) && (backToKw bh (keywordEach [] X.env)).all (fun x=>x.1.isSome)
  && decide (([e]:List Expr).length+([]:List Keyword).length+(if ([]:List Keyword).isEmpty then 0 else 1) < 30))=true
 line:(apos.endLine == bh.line)=true
 trees:backTo bh (starEach [e] X.env)=[(false,eval e X.env)]
structure M2 (X:Cx) (o:Expr) (m:Str) (apos:Pos) (e f:Expr) (bh:Pos):Prop where
 base:attributeBase o m X.env (eval o X.env)=eval o X.env
 Bs:((backTo bh (starEach [e,f] X.env)).all (fun x=>!x.1) && (backToKw bh (keywordEach [] X.env)).all (fun x=>x.1.isSome)
  && decide (([e,f]:List Expr).length+([]:List Keyword).length+(if ([]:List Keyword).isEmpty then 0 else 1) < 30))=true
 line:(apos.endLine == bh.line)=true
 trees:backTo bh (starEach [e,f] X.env)=[(false,eval e X.env),(false,eval f X.env)]
def BA (H:Hp) (a:Addr):Prop:=(∃ kvs,Rd H a (.dK kvs))\/∃ kvs,Rd H a (.dT kvs)
def Iq {X:Cx} {π:List (Addr×Obj)} {σ:St} {H:Hp} {s:Shared} {a:Addr} (I:Inv X π σ H s) (d:BA H a) :
  s.TypeIs (.ref a) "dict" /\ (∀ b,Value.ref a=.ref b->∃ ob,s.heap.get? b=some ob/\ob.dict=none)/\(a == sysModules)=false:=by
 rcases d with ⟨kvs,e⟩ | ⟨kvs,e⟩
 ·obtain ⟨_,hd,vs,_,dd⟩:=nX I.ay e;refine ⟨dd.typeIs,fun b q=>?_,hd⟩;cases q;obtain ⟨ob,_,_,h1,h2,_⟩:=dd;exact ⟨ob,h1,h2.2.1⟩
 ·obtain ⟨_,hd,xs,_,dd⟩:=oB I.ay e;refine ⟨dd.typeIs,fun b q=>?_,hd⟩;cases q;obtain ⟨ob,_,_,h1,h2,_⟩:=dd;exact ⟨ob,h1,h2.2.1⟩
section
variable {X:Cx} {π:List (Addr×Obj)} {σ:St} {H:Hp} {s:Shared} {a:Addr} {y d:V} {u r:Value} {o:Option V} {A:Around} {E:Value->Shared->Prop}
def adf {Q:Value->Shared->Prop} (hu:A.units+1 < cLine) (I:Inv X π σ H s) (g:ei H a y o) (ry:RelV y u) (h:∀ w' s',Inv X π σ H s'->RelV (o.getD .aq) w'->Q w' s') :
  wpAny (model X.prog X.w) A (call (.builtin "dict.get") [.ref a,u]) Q E s:=by
 rcases g with ⟨kvs,k,e,ey,l⟩ | ⟨kvs,k,b,e,ey,eb,l⟩
 ·subst ey;obtain ⟨z,hd,vs,rel,dd⟩:=nX I.ay e;refine call_meetsIn _T dd.typeIs PySem.F.entry_dict_get (PySem.F.args_dict_get_2 _ _) (meets_dict_get (dI X.prog X.w) a (mf ry) hd) ⟨_,dd.mapOf,h _ _ (I.tok _) ?_⟩;rw [l];exact (rel.val k).getD rfl
 ·subst ey;cases (show u=Value.ref b from ry);obtain ⟨z,hd,xs,rel,dd⟩:=oB I.ay e;refine call_meetsIn _T dd.typeIs PySem.F.entry_dict_get (PySem.F.args_dict_get_2 _ _) (meetsH_dict_get (tupleKind (dI X.prog X.w)) a b hd) ⟨_n hu,k,xs,qR I.ay eb,dd,h _ _ (I.tok _) ?_⟩;rw [l];exact (rel.val k).getD rfl
end
def Dk (td ty:TE):TE:=fun σ H Q=>td σ H fun x H1=>∃ a,x=.ref a/\BA H1 a/\ty σ H1 fun y H2=>∃ o,ei H2 a y o/\Q (o.getD .aq) H2
def yR (td ty:TE):TE:=fun σ H Q=>td σ H fun x H1=>∃ a,x=.ref a/\BA H1 a/\ty σ H1 fun y H2=>∃ kvs k v,H2 a=some (.dK kvs)/\y=kV k/\aF kvs k=some v/\Q v (upd H2 a (.dK (jJ kvs k)))
section
variable {X:Cx} {o e f:Expr} {apos bh:Pos} {td ty tx:TE}
def Zo (hu:X.A.units+1 < cLine) (ho:PE X o td) (he:PE X e ty) (m:M1 X o "get" apos e bh):PE X (.Call (.Attribute o "get" apos) [e] [] bh) (Dk td ty):=by
 intro π s σ H Q I h;refine wpAny_Call_method m.base m.Bs m.line PySem.F.plainAttrs_dict _T PySem.F.type_dict_get (aB (ho π s σ H _ I h) fun u s1 ⟨x,H1,I1,rx,a,ex,d,q1⟩=>?_);subst ex;obtain rfl:u=Value.ref a:=rx;obtain ⟨t1,t2,_⟩:=Iq I1 d;refine ⟨t1,t2,?_⟩;rw [m.trees];refine Uf rfl (_d (SL (aB (he π s1 σ H1 _ I1 q1) fun iv s2 ⟨y,H2,I2,ry,ov,g,q2⟩=>Tk ?_)));exact adf hu I2 g ry fun w' s3 I3 rw'=>⟨_,H2,I3,rw',q2⟩
def WG (ho:PE X o td) (he:PE X e ty) (m:M1 X o "pop" apos e bh):PE X (.Call (.Attribute o "pop" apos) [e] [] bh) (yR td ty):=by
 intro π s σ H Q I h;refine wpAny_Call_method m.base m.Bs m.line PySem.F.plainAttrs_dict PySem.F.slot_dict_pop PySem.F.type_dict_pop (aB (ho π s σ H _ I h) fun u s1 ⟨x,H1,I1,rx,a,ex,d,q1⟩=>?_);subst ex;obtain rfl:u=Value.ref a:=rx;obtain ⟨t1,t2,_⟩:=Iq I1 d;refine ⟨t1,t2,?_⟩;rw [m.trees];refine Uf rfl (_d (SL (aB (he π s1 σ H1 _ I1 q1) fun iv s2 ⟨y,H2,I2,ry,kvs,k,v,ea,ey,l,q2⟩=>Tk ?_)));subst ey;exact abG I2 ea ry l (.inl rfl) fun w' s3 I3 rw'=>⟨v,_,I3,rw',q2⟩
end
section
variable {X:Cx} {π:List (Addr×Obj)} {σ:St} {H:Hp} {s:Shared} {a:Addr} {kvs:List (Key×V)} {A:Around} {E:Value->Shared->Prop}
end
section
variable {X:Cx} {π:List (Addr×Obj)} {σ:St} {H:Hp} {s:Shared} {a:Addr} {y:V} {u:Value} {A:Around} {E:Value->Shared->Prop}
end
end L2
namespace Att
open PySem PySem.W PySem.Calls PyProof.Rows
def aa8 {P:Params} {h:Heap}:∀ (ns:List Int) (vs:List Value),WellAll P h vs (ns.map WData.int)->IntsAre vs ns:=by
 intro ns
 induction ns with
 | nil =>
  intro vs w;rw [List.map_nil] at w;cases w;exact .nil
 | cons n ns ih =>
  intro vs w;rw [List.map_cons] at w;cases w with
  | cons a b =>
   cases a;exact .cons _ _ (ih _ b)
def R4 {l:OpenLaw} {n:Nat} (hn:l.most=some n) {P:Params} {h:Heap} {args:List WData} {vals:List Value}
  (xV:l.row.toRowW.claim.pre args=true) (m9:WellAll P h vals args) :
  ∃ a vs ns,vals=[Value.ref a]/\args=[WData.list (ns.map WData.int)]/\h.get? a=some { cls:=.type "list",data:=.seq vs.toArray }/\IntsAre vs ns/\ns.length<=n:=by
 have lJ:WShape.hasAll [] args [.list .int]=true:=(pre_splitW xV).1;have hc:l.pre.holds [] { args:=args }=true:=(pre_splitW xV).2;obtain ⟨d,r,rfl,h1,h2⟩:=hasAllW_cons lJ;obtain rfl:=hasAllW_nil h2;obtain ⟨xs,rfl,h3⟩:=hasW_list h1;obtain ⟨ns,rfl⟩:=items_int h3;have hlen:ns.length<=n:=by
  unfold OpenLaw.pre at hc;have h4:(WTm.not (.lt (.lit (.int (n:Int))) (.len (.arg 0)))).holds [] { args:=[.list (ns.map .int)] }=true:=by
   have h4:=(holds_andW hc).1;rw [hn] at h4;exact h4
  have h5:=condW_of h4 (w_not (w_lt w_lit (w_len_list (w_arg rfl))));rw [List.length_map] at h5;refine Nat.le_of_not_lt fun q=>?_;have q':(n:Int) < ((ns.length:Nat):Int):=by omega
  first
   | (rw [decide_eq_true q'] at h5;exact absurd h5 (by decide))
   | (simp at h5;omega)
 cases m9 with
 | cons w1 w2 =>
  cases w2;cases w1 with
  | list ho jb=>exact ⟨_,_,ns,rfl,rfl,ho,aa8 ns _ jb,hlen⟩
def TR (l:OpenLaw) (args:List WData):l.row.toRowW.claim.post args (.bool true) args=true :=
 postW_of (r:=l.row.toRowW) (X:=(true == true))
  (show WShape.has [] (.bool true) .bool=true by first | rfl | decide | simp [WShape.has,WShape.arms,WShape.armsAll])
  (show (WTm.eq .res (.lit (.bool true))).value [] { args:=args,res:=some (.bool true),after:=args }=some (.bool (true == true)) from w_eq_bool (w_res rfl) w_lit) rfl
def Vn {l:OpenLaw} {n:Nat} {q:Program} {loose:List Str} {XP:(Str->Option Value)->Heap->Prop} {YP:World->Heap->Prop} {d:DefRec}
  (hn:l.most=some n) (u3:d.params.defaults=[])
  (call:∀ (w:World) (s₀ s₁:Shared) (mg mb:Str->Option Value) (fa:Addr) (o:Obj) (pm cd doc:Value) (a:Addr) (vs:List Value) (ns:List Int),
   Ground q loose [] XP w s₀ mg mb s₁.heap->YP w s₁.heap ->
   s₁.heap.get? fa=some o->o.data=.func (docDef d.name d.params d.body d.scope pm cd doc)->s₁.heap.CodeRec cd d.name->mg d.name=some (.ref fa) ->
   s₁.heap.get? a=some { cls:=.type "list",data:=.seq vs.toArray }->IntsAre vs ns->ns.length<=n->s₁.gens=#[] ->
   codeAny (model l.prog w) callerA (.call (.ref fa) ⟨[.ref a],[]⟩) (fun r s'=>r=.ok (.ret (.bool true))/\OldK s₁.heap s'.heap/\s'.os=s₁.os/\AllBare s'.gens) s₁) :
  WalkO q loose XP YP l.row.toRowW d [] (fun f vs=>PySem.call f vs):=by
 intro w s₀ s₁ mg mb G Y fa o pm cd doc dV kV ho hd bo hD hmg hg args vals as xV hlay gJ m9 hlo;obtain rfl:dV=.none:=Dflts.none hD u3;obtain rfl:kV=.none:=Dflts.noKw hD;obtain ⟨a,vs,ns,rfl,rfl,uU,hints,hlen⟩:=R4 hn xV m9;refine enter_call (codeAny_mono (call w s₀ s₁ mg mb fa o pm cd doc a vs ns G Y ho (fd_plain hd) bo hmg uU hints hlen hg) fun r s' hq=>?_);obtain ⟨rfl,h2,h3,h4⟩:=hq;exact ⟨.inl ⟨.bool true,.bool true,[],rfl,fun _=>rfl,.bool true,TR l _,fun _=>⟨List.Pairwise.nil,fun _ hm=>(nomatch hm)⟩⟩,h2,h3,h4⟩
section
variable {prog:Program} {w:World} {A:Around} {E:Value->Shared->Prop} {s:Shared} {K:Frag}
end
end Att
namespace L2
open PySem PySem.Spec PyProof.Rows
def Hu:∀ {vs:List Value} {ns:List Int},IntsAre vs ns->Vals (ns.map V.int) vs
 | _,_,.nil=>.nil
 | _,_,.cons n t h=>.cons ⟨t,rfl⟩ (Hu h)
abbrev KOf {K:ν} {h:Heap} (_:K.In h):ν:=K
def inClass (s:Stmt) (j:Nat):Stmt:=match s with
 | .ClassDef _ _ _ body _ _ _ _ _ _ _=>body.getD j (.Pass ⟨0,0,0,0⟩)
 | _=>.Pass ⟨0,0,0,0⟩
def fh (s:Stmt):Arguments:=match s with
 | .FunctionDef _ a _ _ _ _ _ _ _ _=>a
 | _=>{ posonlyargs:=[],args:=[],vararg:=none,kwonlyargs:=[],kw_defaults:=[],kwarg:=none,defaults:=[] }
def aQ (s:Stmt):List Stmt:=match s with
 | .FunctionDef _ _ b _ _ _ _ _ _ _=>b
 | _=>[]
def az (s:Stmt):Scope:=match s with
 | .FunctionDef _ _ _ _ _ _ sc _ _ _=>sc
 | _=>{ kind:=.function,names:=[],isGenerator:=false,isCoroutine:=false }
abbrev aM:dW:=fun _ _ _ _ _ _=>False
abbrev E0:XK:=fun _ _ _=>False
def aC {X:Cx}:Passes aM X E0:=fun _ _ _ _ _ _ _ h=>h.elim
structure fD (K:ν) (x qual:Str) (st:Stmt) (f:Addr) (fd:FuncData):Prop where
 ex:∃ (oc:Value) (od:Option Addr) (kV doc pm:Value) (an:Option Addr) (cdv ct:Value) (dA:Array (Option Value)),
  fd=W.fnOf x qual (fh st) (aQ st) (az st) .none kV doc pm an cdv ct/\K.lookup f=some ⟨oc,od,.func fd,dA⟩/\W.codeIn K cdv qual=true
 kp:W.keepIn K (.ref f)=true
section
variable {P:Program} {w:World} {K:ν} {mg:Str->Option Value} {base:Heap}
def fD.ok {x qual:Str} {st:Stmt} {f:Addr} {fd:FuncData} {N ps:List Str} {k:Nat} {sp:Sp} (F:fD K x qual st f fd) (S:aE N ps (az st)) (len:∀ vs H Q E,sp vs H Q E->vs.length=ps.length)
  (pf:∀ (cdv:Value) (A:Around) (outer:List Env) (s:Shared) (H:Hp) (vs:List V) (Q:VK) (E:XK),bb k (A.deeper (envOfC qual (az st) s.heap.objs.size f cdv))->sp vs H Q E ->
   ∃ t,dz (df aM P w K mg base N qual (az st) f cdv A outer s H E).qA (aQ st) t/\t { nx:=fun _ H'=>Q .aq H',rt:=Q } (start N vs) H):aA P w K mg base aM (k+1) f fd ps sp:=by
 obtain ⟨oc,od,kV,doc,pm,an,cdv,ct,dA,rfl,lk,bo⟩:=F.ex;refine wJ lk bo S len fun A outer s H vs Q E hr dD=>?_;obtain ⟨t,h,q⟩:=pf cdv A outer s H vs Q E hr dD;exact ⟨t,h.qA,q⟩
def fD.binds {x qual:Str} {st:Stmt} {f:Addr} {fd:FuncData} {ps:List Str} (F:fD K x qual st f fd)
  (h:∀ (kV doc pm:Value) (an:Option Addr) (cdv ct:Value) (us:List Value),us.length=ps.length->bindArgs (W.fnOf x qual (fh st) (aQ st) (az st) .none kV doc pm an cdv ct) ⟨us,[]⟩=pure (ps.zip us)):Binds K fd ps []:=by
 obtain ⟨oc,od,kV,doc,pm,an,cdv,ct,dA,rfl,lk,bo⟩:=F.ex;exact .all (h kV doc pm an cdv ct)
def y4 {x qual:Str} {st:Stmt} {f:Addr} {oc:Value} {od an:Option Addr} {dA:Array (Option Value)} {kV doc pm cdv ct:Value} (l:K.lookup f=some ⟨oc,od,.func (W.fnOf x qual (fh st) (aQ st) (az st) .none kV doc pm an cdv ct),dA⟩)
  (c:W.codeIn K cdv qual=true) (k:W.keepIn K (.ref f)=true):fD K x qual st f (W.fnOf x qual (fh st) (aQ st) (az st) .none kV doc pm an cdv ct):=⟨⟨oc,od,kV,doc,pm,an,cdv,ct,dA,rfl,l,c⟩,k⟩
end
def er {A:Around} {k:Nat} (hr:bb k A):A.units+1 < cLine:=_o (Nat.add_le_add_left (by decide:1<=64) _) hr.units
def K3 {n:Nat} (h:n<=1000):n < sizeLine:=_o h (by decide)
section
variable {X:Cx}
def pv (i:Nat) {x:Str} {pos:Pos} (hN:X.N[i]?=some x:=by rfl) (hv:lR X.env.scope x:=by first | exact Or.inl rfl | exact Or.inr (Or.inl rfl) | exact Or.inr (Or.inr rfl)) (hd:(x == ("__debug__":Str))=false:=by decide)
  (bo:(x == ("__classdict__":Str))=false:=by decide):PE X (.Name x pos) (Jx i):=Au hN hv hd bo
end
def aY {A B:Prop} (h:B):if false=true then A else B:=by
 rw [xL ww];exact h
def bD {A B:Prop} (h:A):if true=true then A else B:=by
 rw [At rfl];exact h
def vE {c A B:Prop} [Decidable c] (h1:c->A) (h2:¬ c->B):if c then A else B:=by
 by_cases h:c
 ·rw [At h];exact h1 h
 ·rw [xL h];exact h2 h
def ah (H H':Hp):Prop:=∀ b o,H b=some o->H' b=some o
def ah.refl (H:Hp):ah H H:=fun _ _ h=>h
def ah.trans {H H1 H2:Hp} (a:ah H H1) (b:ah H1 H2):ah H H2:=fun c o h=>b c o (a c o h)
def ah.free {H H':Hp} (e:ah H H') {l:Addr} (h:H' l=Option.none):H l=Option.none:=by
 cases q:H l with
 | none=>rfl
 | some o =>
  rw [e l o q] at h;cases h
def ah.seq {K:ν} {H H':Hp} {a:Addr} {xs:List V} (e:ah H H') (h:aD K H a xs):aD K H' a xs:=by
 rcases h with (h | ⟨o,h⟩) | h
 ·exact .inl (.inl (e _ _ h))
 ·exact .inl (.inr ⟨o,e _ _ h⟩)
 ·exact .inr h
section
variable {X:Cx}
end
section
variable {κ:Type} [DecidableEq κ]
end
end L2
namespace Tx
open PySem PySem.Builtin PySem.Builtin.Str PySem.StrLaws
def S (l:List Nat):Str:=⟨l.toArray⟩
def kg (l:List Nat):(S l).cps.toList=l:=by simp [S]
def FL (s:Str):S s.cps.toList=s:=by cases s;simp [S]
def eB (l:List Nat):(S l).length=l.length:=by simp [S,Str.length]
def Gg {a b:List Nat} (h:S a=S b):a=b:=by
 have:=congrArg (fun s=>s.cps.toList) h
 simpa [kg] using this
def lM (c:Nat):(S [c]).length=1:=by rw [eB];rfl
def subAt_one (x:List Nat) (c i:Nat) (h:i < x.length):subAt (S x) (S [c]) i=decide (x[i]?=some c):=by
 rw [subAt_eq,kg,kg,lM];rw [List.drop_eq_getElem_cons h,List.take_succ_cons,List.take_zero,List.getElem?_eq_getElem h];by_cases e:x[i]=c
 ·simp [e]
 ·simp [e]
def SD (x:List Nat) (c:Nat):(!(occurrences (S x) (S [c]) 0 (S x).length 1).isEmpty)=x.contains c:=by
 rw [Bool.eq_iff_iff,found_iff,lM,eB];constructor
 ·rintro ⟨i,h1,h2⟩;rw [subAt_one x c i (by omega)] at h2;have h3:=of_decide_eq_true h2;exact List.elem_iff.mpr (List.mem_of_getElem? h3)
 ·intro h;obtain ⟨i,hi,e⟩:=List.getElem_of_mem (List.elem_iff.mp h);refine ⟨i,by omega,?_⟩;rw [subAt_one x c i hi,List.getElem?_eq_getElem hi,e];simp
def cut (c:Nat):List Nat->List (List Nat)
 | []=>[[]]
 | a::r=>if a=c then []::cut c r else match cut c r with
  | []=>[[a]]
  | h::t=>(a::h)::t
def Sq (c:Nat):∀ l,cut c l≠[]
 | []=>by simp [cut]
 | a::r=>by
  unfold cut;split
  ·simp
  ·split <;> simp
def da (c:Nat):Nat->List Nat->List Nat
 | _,[]=>[]
 | k,a::r=>if a=c then k::da c (k+1) r else da c (k+1) r
def Ld (c:Nat):∀ (l:List Nat) (k j:Nat),da c (k+j) l=(da c k l).map (· + j)
 | [],_,_=>rfl
 | a::r,k,j=>by
  unfold da;have e:k+j+1=(k+1)+j:=by omega
  rw [e,Ld c r (k+1) j];split <;> simp
def DN (x:List Nat) (c limit:Nat):∀ (l:List Nat) (k:Nat) (acc:Array Nat) (free:Nat),x.drop k=l->free<=k->acc.size+l.length < limit->k<=x.length ->
  (forIn (List.range' k (x.length+1 - k)) (acc,free) (occBody (S x) (S [c]) x.length limit)).run.fst.toList=acc.toList++da c k l
 | [],k,acc,free,hd,hf,hl,hk=>by
  have m5:k=x.length:=by
   have:=congrArg List.length hd;simp at this;omega
  have e:x.length+1 - k=1:=by omega
  have e1:List.range' k 1=[k]:=rfl;rw [e,e1,List.forIn_cons];unfold occBody;have hc:¬ (((((acc,free):Array Nat×Nat).fst.size < limit/\((acc,free):Array Nat×Nat).snd<=k)/\k+(S [c]).length<=x.length)/\subAt (S x) (S [c]) k=true):=by
   rw [lM];rintro ⟨⟨_,h⟩,_⟩;omega
  rw [if_neg hc];simp [da]
 | a::r,k,acc,free,hd,hf,hl,hk=>by
  have bO:k < x.length:=by
   have:=congrArg List.length hd;simp at this;omega
  have e:x.length+1 - k=(x.length+1 - (k+1))+1:=by omega
  have hx:x[k]?=some a:=by
   have h1:(x.drop k)[0]?=some a:=by rw [hd];rfl
   rw [List.getElem?_drop] at h1
   simpa using h1
  have hr:x.drop (k+1)=r:=by
   rw [<- List.drop_drop,hd];rfl
  rw [e,List.range'_succ,List.forIn_cons];unfold occBody;simp only [List.length_cons] at hl;by_cases pq:a=c
  ·have hc:(((((acc,free):Array Nat×Nat).fst.size < limit/\((acc,free):Array Nat×Nat).snd<=k)/\k+(S [c]).length<=x.length)/\subAt (S x) (S [c]) k=true):=by
    rw [lM,subAt_one x c k bO,hx,pq];refine ⟨⟨⟨?_,hf⟩,by omega⟩,by simp⟩;show acc.size < limit;omega
   rw [if_pos hc];have ih:=DN x c limit r (k+1) (acc.push k) (k+(S [c]).length) hr (by rw [lM];omega) (by simp;omega) (by omega);refine Eq.trans ih ?_;rw [show da c k (a::r)=k::da c (k+1) r from if_pos pq];simp
  ·have hc:¬ (((((acc,free):Array Nat×Nat).fst.size < limit/\((acc,free):Array Nat×Nat).snd<=k)/\k+(S [c]).length<=x.length)/\subAt (S x) (S [c]) k=true):=by
    rw [subAt_one x c k bO,hx];rintro ⟨_,h⟩;exact pq (Option.some.inj (of_decide_eq_true h))
   rw [if_neg hc];have ih:=DN x c limit r (k+1) acc free hr (by omega) (by omega) (by omega);refine Eq.trans ih ?_
   conv=>rhs;unfold da
   rw [if_neg pq]
def DG (x:List Nat) (c:Nat):occurrences (S x) (S [c]) 0 (S x).length ((S x).length+1)=da c 0 x:=by
 rw [occ_eq,eB];have h:=DN x c (x.length+1) x 0 #[] 0 rfl (Nat.le_refl _) (by simp) (Nat.zero_le _);rw [h];simp
def pieces (l:List Nat) (ps:List Nat):List (List Nat):=((0::ps.map (· + 1)).zip (ps++[l.length])).map fun p=>(l.drop p.1).take (p.2 - p.1)
def sr (c:Nat):∀ l:List Nat,pieces l (da c 0 l)=cut c l
 | []=>rfl
 | a::r=>by
  have ih:=sr c r;have sh:da c (0+1) r=(da c 0 r).map (· + 1):=Ld c r 0 1;have tail:∀ (A B:List Nat),((A.map (· + 1)).zip (B.map (· + 1))).map (fun p:Nat×Nat=>((a::r).drop p.1).take (p.2 - p.1))=(A.zip B).map (fun p:Nat×Nat=>(r.drop p.1).take (p.2 - p.1)):=fun A B=>by
   rw [List.zip_map,List.map_map];refine List.map_congr_left fun p _=>?_;show ((a::r).drop (p.1+1)).take (p.2+1 - (p.1+1))=_;rw [List.drop_succ_cons]
   congr 1
   omega
  unfold pieces at ih ⊢;unfold da cut;rw [sh];by_cases h:a=c
  ·rw [if_pos h,if_pos h];have e1:(0::(0::(da c 0 r).map (· + 1)).map (· + 1))=0::((0::(da c 0 r).map (· + 1)).map (· + 1)):=rfl;have e2:(0::(da c 0 r).map (· + 1))++[(a::r).length]=0::((da c 0 r++[r.length]).map (· + 1)):=by simp
   rw [e1,e2,List.zip_cons_cons,List.map_cons,tail,ih];simp
  ·rw [if_neg h,if_neg h];have e2:(da c 0 r).map (· + 1)++[(a::r).length]=(da c 0 r++[r.length]).map (· + 1):=by simp
   rw [e2];generalize hB:da c 0 r++[r.length]=B at ih;cases B with
   | nil=>simp at hB
   | cons b B' =>
    rw [List.zip_cons_cons,List.map_cons] at ih;rw [<- ih];rw [List.map_cons (l:=B'),List.zip_cons_cons,List.map_cons,tail];simp
def UR (x:List Nat) (i j:Nat):strSub (S x) i j=S ((x.drop i).take (j - i)):=by
 rw [<- FL (strSub (S x) i j),strSub_toList,kg]
def AN (x:List Nat) (ps:List Nat):partsBetween (S x) ps 1=(pieces x ps).map S:=by
 unfold partsBetween pieces;rw [List.map_map,eB];refine List.map_congr_left fun p _=>?_;exact UR x p.1 p.2
def Kj (c:Nat):∀ l:List Nat,da c 0 l=[]->cut c l=[l]
 | l,h=>by
  have:=sr c l;rw [h] at this;rw [<- this];simp [pieces]
def Iw (x:List Nat) (c:Nat) (hc:c < 256):Txt.split (S x) (S [c])=(cut c x).map S:=by
 unfold Txt.split;rw [DG,lM,AN,sr];have nop:∀ k,¬ c∈x->da c k x=[]:=by
  intro k
  induction x generalizing k with
  | nil=>intro _;rfl
  | cons a r ih =>
   intro hm;unfold da;rw [if_neg (fun e=>hm (by simp [e]))];exact ih (k+1) fun m=>hm (List.mem_cons_of_mem _ m)
 by_cases h1:(decide ((S x).length < 1) || decide (PySem.Builtin.Str.strKind (S x) < PySem.Builtin.Str.strKind (S [c])))=true
 ·rw [if_pos h1];have hx:da c 0 x=[]:=by
   refine nop 0 fun m=>?_;rw [eB] at h1;have hk:PySem.Builtin.Str.strKind (S [c])=1:=by unfold PySem.Builtin.Str.strKind S;simp [hc]
   rw [hk] at h1;have hp:¬ x.length < 1:=by cases x with | nil=>simp at m | cons _ _=>simp
   have hq:¬ PySem.Builtin.Str.strKind (S x) < 1:=by unfold PySem.Builtin.Str.strKind;split <;> (try split) <;> omega
   simp [hp,hq] at h1
  rw [Kj c x hx];rfl
 ·rw [if_neg h1];by_cases h2:(da c 0 x).isEmpty=true
  ·rw [if_pos h2];rw [Kj c x (List.isEmpty_iff.mp h2)];rfl
  ·rw [if_neg h2]
end Tx
namespace L2
open PySem PySem.Spec PyProof.Rows
def noStar:Expr->Bool
 | .Starred _ _=>false
 | _=>true
def fS {e:Expr} {es:List Expr} {env:Env} (h:noStar e=true):starEach (e::es) env=(false,eval e env)::starEach es env:=by
 cases e <;> first | rfl | cases h
def iH {pos:Pos} {env:Env}:∀ {es:List Expr},es.all noStar=true->(backTo pos (starEach es env)).any (·.1)=false
 | [],_=>rfl
 | e::es,h=>by
  rw [KK,AC] at h;rw [fS h.1];have ih:=iH (pos:=pos) (env:=env) h.2;show ((false || (backTo pos (starEach es env)).any (·.1)))=false;rw [ih];rfl
def Ak {pos:Pos} {env:Env}:∀ {es:List Expr},es.all noStar=true->(backTo pos (starEach es env)).all (fun x=>!x.1)=true
 | [],_=>rfl
 | e::es,h=>by
  rw [KK,AC] at h;rw [fS h.1];have ih:=Ak (pos:=pos) (env:=env) h.2;show ((true && (backTo pos (starEach es env)).all (fun x=>!x.1)))=true;rw [ih];rfl
section
variable {X:Cx}
def UU {e:Expr} {es:List Expr} {te:TE} {t:TA} (ha:PE X e te) (hr:PA X es t) (hs:noStar e=true:=by rfl):PA X (e::es) (qi te t):=Rw ha hr (fS hs)
def Y2 {CX:dW} {k:Nat} {f:Addr} {fd:FuncData} {ps:List Str} {sp:Sp} {bj:List V} {ds:List Value} {E:XK} {x:Str} {p pos:Pos} {e:Expr} {es:List Expr} {t:TA}
  (F:aA X.prog X.w X.K X.mg X.base CX k f fd ps sp) (hr:bb k X.A) (hg:Gl X x) (hm:X.mg x=some (.ref f)) (hk:W.keepIn X.K (.ref f)=true) (hb:Binds X.K fd ps ds) (hd:Vals bj ds) (hx:Passes CX X E)
  (ha:PA X (e::es) t) (hs:(e::es).all noStar=true:=by rfl) (bM:(x == ("__debug__":Str))=false:=by decide):PE X (.Call (.Name x p) (e::es) [] pos) (xC sp bj E t):=by
 have hs':=hs;rw [KK,AC] at hs';exact Xn F hr hg hm hk hb hd hx ha bM (fS hs'.1) (iH hs'.2)
def WU {x:Str} {p pos:Pos} {e:Expr} {es:List Expr} {t:TA} {id:String} {r:List V->Hp->VK->Prop} (hc:cZ X (.builtin id) r) (hg:Gl X x) (hm:X.mg x=none) (hv:bootBuiltins x=some (.builtin id)) (ha:PA X (e::es) t)
  (hs:(e::es).all noStar=true:=by rfl) (hn:x ≠ "__name__" := by decide) (bM:(x == ("__debug__":Str))=false:=by decide):PE X (.Call (.Name x p) (e::es) [] pos) (oi r t):=by
 have hs':=hs;rw [KK,AC] at hs';exact OA hc hg hm hv ha hn bM (fS hs'.1) (iH hs'.2)
def adq {x:Str} {p pos:Pos} {e:Expr} {es:List Expr} {t:TA} {T:String} {r:List V->Hp->VK->Prop} (hc:cZ X (.type T) r) (hg:Gl X x) (hm:X.mg x=none) (hv:bootBuiltins x=some (.type T)) (ha:PA X (e::es) t)
  (hs:(e::es).all noStar=true:=by rfl) (hn:x ≠ "__name__" := by decide) (bM:(x == ("__debug__":Str))=false:=by decide):PE X (.Call (.Name x p) (e::es) [] pos) (oi r t):=by
 have hs':=hs;rw [KK,AC] at hs';exact Wv hc hg hm hv ha hn bM (fS hs'.1) (iH hs'.2)
end
section
variable {X:Cx}
def PE.imp {e:Expr} {t t':TE} (h:PE X e t) (i:∀ σ H Q,t' σ H Q->t σ H Q):PE X e t':=fun π s σ H Q I hw=>h π s σ H Q I (i σ H Q hw)
def PS.imp {e:Stmt} {t t':TS} (h:PS X e t) (i:∀ D σ H,t' D σ H->t D σ H):PS X e t':=fun π s σ H D I hw=>h π s σ H D I (i D σ H hw)
def aR.imp {f:Value->Value->Sem Value} {r r':R2} (h:aR X f r) (i:∀ x y H Q,r' x y H Q->r x y H Q):aR X f r':=fun π s σ H x y v u Q I rx ry q=>h π s σ H x y v u Q I rx ry (i x y H Q q)
def cZ.imp {f:Value} {r r':List V->Hp->VK->Prop} (h:cZ X f r) (i:∀ xs H Q,r' xs H Q->r xs H Q):cZ X f r':=fun π s σ H xs us Q I rx q=>h π s σ H xs us Q I rx (i xs H Q q)
def cI (i:Nat):TE:=fun σ H Q=>match σ[i]? with
 | some (some v)=>Q v H
 | _=>False
def qv (i:Nat) {x:Str} {pos:Pos} (hN:X.N[i]?=some x:=by rfl) (hv:lR X.env.scope x:=by first | exact Or.inl rfl | exact Or.inr (Or.inl rfl) | exact Or.inr (Or.inr rfl)) (hd:(x == ("__debug__":Str))=false:=by decide)
  (bo:(x == ("__classdict__":Str))=false:=by decide):PE X (.Name x pos) (cI i):=(Au hN hv hd bo).imp fun σ H Q h=>by
 unfold cI at h;split at h
 ·rename_i v e;exact ⟨v,e,h⟩
 ·exact h.elim
def Ds:R2:=fun x y H Q=>match x,y with
 | .int i,.int j=>Q (.int (i+j)) H
 | .str a,.str b=>a.length+b.length<=sizeLine/\Q (.str (a++b)) H
 | .ref l,.ref b=>match H l,H b with
  | some (.lst xs),some (.lst zs)=>xs.length+zs.length<=sizeLine/\∀ p,H p=none->Q (.ref p) (upd H p (.lst (xs++zs)))
  | _,_=>False
 | _,_=>False
def fU:aR X (binaryOp .Add) Ds:=(aaT.or (Xj.or Yr)).imp fun x y H Q h=>by
 unfold Ds at h;split at h
 ·exact .inl ⟨_,_,rfl,rfl,h⟩
 ·exact .inr (.inl ⟨_,_,rfl,rfl,h.1,h.2⟩)
 ·split at h
  ·rename_i xs zs h1 h2;exact .inr (.inr ⟨_,_,xs,zs,rfl,rfl,h1,h2,h.1,h.2⟩)
  ·exact h.elim
 ·exact h.elim
def bU (K:ν) (H:Hp) (p:Addr) (R:List V->Prop):Prop:=match H p with
 | some (.lst xs)=>R xs
 | some (.tup xs)=>R xs
 | _=>∃ xs,(aD K H p xs\/cJ K H p xs)/\R xs
def vf {K:ν} {H:Hp} {p:Addr} {R:List V->Prop} (h:bU K H p R):∃ xs,(aD K H p xs\/cJ K H p xs)/\R xs:=by
 unfold bU at h;split at h
 ·rename_i xs e;exact ⟨xs,.inl (aD.of e),h⟩
 ·rename_i xs e;exact ⟨xs,.inr (cJ.of e),h⟩
 ·exact h
def vJ (K:ν) (H:Hp) (p:Addr) (R:List V->Prop):Prop:=∃ xs,aD K H p xs/\R xs
def Du {K:ν} {H:Hp} {p:Addr} {R:List V->Prop} (h:vJ K H p R):∃ xs,aD K H p xs/\R xs:=h
def zJ (f:Int->Int->Int):R2:=fun x y H Q=>match x,y with
 | .int i,.int j=>Q (.int (f i j)) H
 | _,_=>False
def pZ (C:Int->Int->Prop) (f:Int->Int->Int):R2:=fun x y H Q=>match x,y with
 | .int i,.int j=>C i j/\Q (.int (f i j)) H
 | _,_=>False
def Vk:aR X (binaryOp .Sub) (zJ fun i j=>i - j):=acx.imp fun x y H Q h=>by
 unfold zJ at h;split at h
 ·exact ⟨_,_,rfl,rfl,h⟩
 ·exact h.elim
def zk {C:Int->Int->Prop} {f:Int->Int->Int} {x y:V} {H:Hp} {Q:VK} (h:pZ C f x y H Q):rI C (fun i j=>.int (f i j)) x y H Q:=by
 unfold pZ at h;split at h
 ·exact ⟨_,_,rfl,rfl,h.1,h.2⟩
 ·exact h.elim
def om:aR X (binaryOp .Mod) (pZ (fun _ j=>0 < j) fun i j=>i % j):=Tn.imp fun _ _ _ _ h=>zk h
def Bk:aR X (binaryOp .FloorDiv) (pZ Il fun i j=>i / j):=TF.imp fun _ _ _ _ h=>zk h
def qd (neg:Bool):R2:=fun x y H Q=>match x,y with
 | .int i,.int j=>Q (.bl (neg ^^ decide (i=j))) H
 | .str i,.str j=>Q (.bl (neg ^^ decide (i=j))) H
 | .bl i,.bl j=>Q (.bl (neg ^^ decide (i=j))) H
 | _,_=>wB x y=true/\Q (.bl (neg ^^ decide (x=y))) H
def GB (i j:Int):decide (V.int i=V.int j)=decide (i=j):=by by_cases h:i=j <;> simp [h]
def IT (i j:Str):decide (V.str i=V.str j)=decide (i=j):=by by_cases h:i=j <;> simp [h]
def L9 (i j:Bool):decide (V.bl i=V.bl j)=decide (i=j):=by by_cases h:i=j <;> simp [h]
def abS:aR X (compareOp .Eq) (qd false):=aaF.imp fun x y H Q h=>by
 unfold qd at h;simp only [Bool.false_bne] at h;split at h
 ·exact ⟨rfl,by rw [GB];exact h⟩
 ·exact ⟨rfl,by rw [IT];exact h⟩
 ·exact ⟨rfl,by rw [L9];exact h⟩
 ·exact h
def P8:aR X (compareOp .NotEq) (qd true):=abR.imp fun x y H Q h=>by
 unfold qd at h;simp only [Bool.true_bne] at h;split at h
 ·exact ⟨rfl,by rw [GB];exact h⟩
 ·exact ⟨rfl,by rw [IT];exact h⟩
 ·exact ⟨rfl,by rw [L9];exact h⟩
 ·exact h
def ee (f:Int->Int->Bool):R2:=fun x y H Q=>match x,y with
 | .int i,.int j=>Q (.bl (f i j)) H
 | _,_=>False
def Be {f:Int->Int->Bool} {x y:V} {H:Hp} {Q:VK} (h:ee f x y H Q):lZ (fun i j=>.bl (f i j)) x y H Q:=by
 unfold ee at h;split at h
 ·exact ⟨_,_,rfl,rfl,h⟩
 ·exact h.elim
def pW:aR X (compareOp .Lt) (ee fun i j=>decide (i < j)):=PY.imp fun _ _ _ _ h=>Be h
def kZ:aR X (compareOp .LtE) (ee fun i j=>decide (i<=j)):=YW.imp fun _ _ _ _ h=>Be h
def Xr:aR X (compareOp .Gt) (ee fun i j=>decide (j < i)):=abW.imp fun _ _ _ _ h=>Be h
def wj (K:ν):R2:=fun x y H Q=>match x,y with
 | .str i,.str j=>Q (.bl (!(Builtin.Str.occurrences j i 0 j.length 1).isEmpty)) H
 | _,.ref p=>bU K H p fun xs=>di x=true/\xs.all di=true/\Q (.bl (fO x xs)) H
 | _,_=>False
def adw:aR X (compareOp .In) (wj X.K):=(WL.or J4).imp fun x y H Q h=>by
 unfold wj at h;split at h
 ·exact .inl ⟨_,_,rfl,rfl,h⟩
 ·obtain ⟨xs,h1,h2,h3,h4⟩:=vf h;exact .inr ⟨_,xs,rfl,h1,h2,h3,h4⟩
 ·exact h.elim
def cN (t:TE):TT:=fun σ H Q=>t σ H fun x H'=>match x with
 | .bl k=>Q k H'
 | _=>False
def zV {x:V} {H:Hp} {Q:Bool->Hp->Prop} (h:(match x with | .bl k=>Q k H | _=>False)):∃ k,x=.bl k/\Q k H:=by
 split at h
 ·exact ⟨_,rfl,h⟩
 ·exact h.elim
def VO {op:CmpOp} {r:R2} {a b:Expr} {ta tb:TE} {pos:Pos} (ho:aR X (compareOp op) r) (ha:PE X a ta) (hb:PE X b tb) (hm:behindInMarks op b=false:=by first | exact wW _ (by decide) (by decide) | rfl) :
  PT X (.Compare a [op] [b] pos) (cN (cL r ta tb)):=by
 intro π s σ H Q I h;refine wpAny_isTrue_Compare1 ?_ hm;refine aB (ha π s σ H _ I h) fun v s1 ⟨x,H1,I1,r1,q1⟩=>aB (hb π s1 σ H1 _ I1 q1) fun u s2 ⟨y,H2,I2,r2,q2⟩=>?_;refine aB (ho π s2 σ H2 x y v u _ I2 r1 r2 q2) fun c s3 ⟨z,H3,I3,r3,q3⟩=>?_;obtain ⟨k,rfl,q⟩:=zV q3;cases r3;exact Op ⟨H3,I3,q⟩
def PZ {e:Expr} {t:TE} (h:PE X e t) (he:∀ whole,isTrue e X.env whole=(do let v <- whole;standAt e.pos;holding [v] (truthy v)):=by intro _;rfl):PT X e (cN t):=by
 intro π s σ H Q I hw;refine isTrue_plain (aB (h π s σ H _ I hw) fun v s1 ⟨x,H1,I1,r1,q1⟩=>?_) (he _);obtain ⟨d,rfl,q⟩:=zV q1;cases r1;exact Op ⟨H1,I1,q⟩
def AL (f g:Int->Int->Bool) (ta tb tc:TE):TT:=fun σ H Q=>ta σ H fun x H1=>tb σ H1 fun y H2=>match x,y with
 | .int i,.int j=>if f i j=true then tc σ H2 fun z H3=>(match z with | .int k=>Q (g j k) H3 | _=>False) else Q false H2
 | _,_=>False
def zc (ta tb:TE):TE:=fun σ H Q=>ta σ H fun x H1=>match x with
 | .bl c=>if c=true then tb σ H1 Q else Q (.bl false) H1
 | _=>False
def BN (ta tb:TE):TE:=fun σ H Q=>ta σ H fun x H1=>match x with
 | .bl c=>if c=true then Q (.bl true) H1 else tb σ H1 Q
 | _=>False
def zt (ta:TE):TE:=fun σ H Q=>ta σ H fun x H1=>match x with
 | .bl c=>Q (.bl (!c)) H1
 | _=>False
variable {a b:Expr} {ta tb:TE} {pos:Pos} {rest:List Expr}
def Ro (ha:PE X a ta) (hb:PE X (.BoolOp .And (b::rest) pos) tb):PE X (.BoolOp .And (a::b::rest) pos) (zc ta tb):=by
 intro π s σ H Q I h;refine BoolOp_and (aB (ha π s σ H _ I h) fun v s1 ⟨x,H1,I1,r1,q1⟩=>?_);have q1':∃ c,x=.bl c/\if c=true then tb σ H1 Q else Q (.bl false) H1:=by
  dsimp only at q1;split at q1
  ·exact ⟨_,rfl,q1⟩
  ·exact q1.elim
 obtain ⟨c,rfl,q1⟩:=q1';cases r1;refine Op ?_;cases c with
 | true=>exact hb π s1 σ H1 Q I1 q1
 | false=>exact ⟨.bl false,H1,I1,rfl,q1⟩
def abv (ha:PE X a ta) (hb:PE X (.BoolOp .Or (b::rest) pos) tb):PE X (.BoolOp .Or (a::b::rest) pos) (BN ta tb):=by
 intro π s σ H Q I h;refine BoolOp_or (aB (ha π s σ H _ I h) fun v s1 ⟨x,H1,I1,r1,q1⟩=>?_);have q1':∃ c,x=.bl c/\if c=true then Q (.bl true) H1 else tb σ H1 Q:=by
  dsimp only at q1;split at q1
  ·exact ⟨_,rfl,q1⟩
  ·exact q1.elim
 obtain ⟨c,rfl,q1⟩:=q1';cases r1;refine Op ?_;cases c with
 | false=>exact hb π s1 σ H1 Q I1 q1
 | true=>exact ⟨.bl true,H1,I1,rfl,q1⟩
def wM:V->Value
 | .ty n=>.type n
 | .ref a=>.ref a
 | _=>.none
def adG:cZ X (.builtin "isinstance") (fun xs H Q=>∃ x cV t b,xs=[x,cV]/\((∃ n,cV=.ty n)\/∃ a,cV=.ref a)/\fV X.K H x t/\W.kitOne X.K t (wM cV)=some b/\Q (.bl b) H):=by
 intro π s σ H xs us Q I r h;obtain ⟨x,cV,t,b,rfl,hc,ty,e,q⟩:=h;obtain ⟨u,c',rfl,ru,rc'⟩:=vals2 r;have ec:c'=wM cV:=by
  rcases hc with ⟨n,rfl⟩ | ⟨a,rfl⟩
  ·exact rc'
  ·exact rc'
 subst ec;exact zy I ru ty e fun tk=>⟨.bl b,H,I.tok tk,rfl,q⟩
end
section
variable {X:Cx}
def zx:V->List V->Hp->VK->Prop:=fun x xs H Q=>match x,xs with
 | .str a,[.str b]=>Q (.bl (Txt.startswith a b)) H
 | _,_=>False
def Kk:en X "str.startswith" zx:=by
 intro π s σ H x xs v us Q I rx r h;unfold zx at h;split at h
 ·rename_i a b;obtain ⟨t,rfl⟩:=rx;obtain ⟨u,rfl,t',rfl⟩:=vals1 r;exact TD F.slot_str_startswith (_u s a t) F.entry_str_startswith (F.args_str_startswith_2 _ _) (gives_str_startswith a b t t').meets ⟨.bl _,H,I,rfl,h⟩
 ·exact h.elim
def zW:V->List V->Hp->VK->Prop:=fun x xs H Q=>match x,xs with
 | .str a,[.str b]=>Q (.bl (Txt.endswith a b)) H
 | _,_=>False
def JD:en X "str.endswith" zW:=by
 intro π s σ H x xs v us Q I rx r h;unfold zW at h;split at h
 ·rename_i a b;obtain ⟨t,rfl⟩:=rx;obtain ⟨u,rfl,t',rfl⟩:=vals1 r;exact TD F.slot_str_endswith (_u s a t) F.entry_str_endswith (F.args_str_endswith_2 _ _) (gives_str_endswith a b t t').meets ⟨.bl _,H,I,rfl,h⟩
 ·exact h.elim
def Ke:∀ (l:List (Str×Tok)),Vals ((l.map (·.1)).map V.str) (strValues l)
 | []=>.nil
 | p::r=>.cons ⟨p.2,rfl⟩ (Ke r)
def vC:∀ {ts:List Str} {us:List Value},Vals (ts.map V.str) us->∃ l:List (Str×Tok),us=strValues l/\l.map (·.1)=ts
 | [],_,.nil=>⟨[],rfl,rfl⟩
 | t::r,_,.cons h h'=>by
  obtain ⟨k,rfl⟩:=h;obtain ⟨l,e1,e2⟩:=vC h';exact ⟨(t,k)::l,by rw [e1];rfl,by rw [<- e2];rfl⟩
def zL:V->List V->Hp->VK->Prop:=fun x xs H Q=>match x,xs with
 | .str a,[.str b]=>(b.length == 0)=false/\a.length<=sizeLine/\(Builtin.Str.partsBetween a (Builtin.Str.occurrences a b 0 a.length (a.length+1)) b.length).length<=sizeLine /\
   ∀ l,H l=none->Q (.ref l) (upd H l (.lst ((Txt.split a b).map V.str)))
 | _,_=>False
def HC:en X "str.split" zL:=by
 intro π s σ H x xs v us Q I rx r h;unfold zL at h;split at h
 ·rename_i a b;obtain ⟨hy,hx,hn,q⟩:=h;obtain ⟨t,rfl⟩:=rx;obtain ⟨w',rfl,u,rfl⟩:=vals1 r;have fin:∀ (l:List (Str×Tok)) (tk:Nat),l.map (·.1)=Txt.split a b->l.length<=sizeLine ->
    EP X π σ Q (.ref s.heap.objs.size) { s with heap:=s.heap.push { cls:=.type "list",data:=.seq (strValues l).toArray },toks:=tk }:=fun l tk e hz =>
   ⟨.ref _,_,I.laid (t':=tk) (o:=.lst ((Txt.split a b).map V.str)) (fun b' o' q'=>pc _ q') (sK _)
    ⟨by rw [ss,<- e,ss];exact hz,strValues l,0,by rw [<- e];exact Ke l,wn _ rfl⟩,rfl,q _ (I.ay.fresh (sK _))⟩
  cases h1:(decide (a.length < b.length) || decide (Builtin.Str.strKind a < Builtin.Str.strKind b))
  ·cases hf:(Builtin.Str.occurrences a b 0 a.length (a.length+1)).isEmpty
   ·refine TD F.slot_str_split (_u s a t) F.entry_str_split (Ja6 _ _) (meets_str_split_sep a b t u h1 hy hf hx hn) ?_;have e:Txt.split a b=Builtin.Str.partsBetween a (Builtin.Str.occurrences a b 0 a.length (a.length+1)) b.length:=(xL (_7 h1)).trans (xL (_7 hf));have z:=fin (numbered s.toks (Builtin.Str.partsBetween a (Builtin.Str.occurrences a b 0 a.length (a.length+1)) b.length)) (s.toks+(Builtin.Str.partsBetween a (Builtin.Str.occurrences a b 0 a.length (a.length+1)) b.length).length)
     ((numbered_texts _ _).trans e.symm) (by
      have:=P3 List.length (numbered_texts s.toks (Builtin.Str.partsBetween a (Builtin.Str.occurrences a b 0 a.length (a.length+1)) b.length));rw [ss] at this;rw [this];exact hn)
    rw [<- strsFrom_eq] at z;exact z
   ·exact TD F.slot_str_split (_u s a t) F.entry_str_split (Ja6 _ _) (meets_str_split_not_found a b t u h1 hy hf)
     (fin [(a,t)] s.toks ((xL (_7 h1)).trans (At hf)).symm (by show 1<=sizeLine;decide))
  ·exact TD F.slot_str_split (_u s a t) F.entry_str_split (Ja6 _ _) (meets_str_split_cannot_occur a b t u h1)
    (fin [(a,t)] s.toks (At h1).symm (by show 1<=sizeLine;decide))
 ·exact h.elim
def rJoin (K:ν):V->List V->Hp->VK->Prop:=fun x xs H Q=>match x,xs with
 | .str a,[.ref p]=>vJ K H p fun xs=>∃ ts:List Str,xs=ts.map V.str/\ts.foldl (fun n z=>n+z.length+a.length) 0<=sizeLine/\Q (.str (Str.join a ts)) H
 | _,_=>False
def Y3:en X "str.join" (rJoin X.K):=by
 intro π s σ H x xs v us Q I rx r h;unfold rJoin at h;split at h
 ·rename_i a p;obtain ⟨xs,hq,ts,rfl,hz,q⟩:=Du h;obtain ⟨t,rfl⟩:=rx;obtain ⟨w',rfl,e⟩:=vals1 r;cases e;obtain ⟨aj,rv,pl,hl⟩:=I.list hq;obtain ⟨l,rfl,e2⟩:=vC rv;have Er:Builtin.Str.tooLong ((l.map (·.1)).toArray.foldl (· + ·.length+a.length) 0)=false:=by
   unfold Builtin.Str.tooLong;refine pi (Nat.not_lt.mpr ?_);rw [List.foldl_toArray,e2];exact hz
  refine TD F.slot_str_join (_u s a t) F.entry_str_join (F.args_str_join_2 _ _) (meets_str_join_list a t p l Er) ⟨pl.isList,?_⟩;have hlen:(Builtin.Str.glued a (l.map (·.1))).length<=sizeLine:=by
   rw [e2,StrLaws.glued_eq_join];refine wl ?_ hz;have:∀ (us:List Str) (n:Nat),n+(Str.join a us).length<=us.foldl (fun n z=>n+z.length+a.length) n:=by
    intro us
    induction us with
    | nil=>intro n;exact sK _
    | cons y r ih =>
     intro n;cases r with
     | nil=>show n+y.length<=n+y.length+a.length;omega
     | cons z r' =>
      have h1:(Str.join a (y::z::r')).length=y.length+a.length+(Str.join a (z::r')).length:=by
       show ((y++a)++Str.join a (z::r')).length=_;rw [Str.length_append,Str.length_append]
      have h2:=ih (n+y.length+a.length);rw [h1];refine wl ?_ h2;omega
   have h0:=this ts 0;omega
  have e3:Builtin.Str.glued a (l.map (·.1))=Str.join a ts:=by rw [e2,StrLaws.glued_eq_join]
  match l,e2,e3,hlen with
  | [],e2,e3,hlen=>exact ⟨hlen,⟨.str (Str.join a ts),H,I.tok _,⟨_,by rw [e3]⟩,q⟩⟩
  | [p],e2,e3,hlen =>
   have e4:Str.join a ts=p.1:=by rw [<- e2];rfl
   exact ⟨.str (Str.join a ts),H,I.tok _,⟨_,by rw [e4]⟩,q⟩
  | p1::p2::r',e2,e3,hlen=>exact ⟨hlen,⟨.str (Str.join a ts),H,I.tok _,⟨_,by rw [e3]⟩,q⟩⟩
 ·exact h.elim
def Mm {v:Value} {o:Option Int} (p:IsPart v o):∃ l:Option (Int×Tok),v=partValue l/\l.map (·.1)=o:=by
 cases p with
 | none=>exact ⟨none,rfl,rfl⟩
 | int i t=>exact ⟨some (i,t),rfl,rfl⟩
def Me:V->Option Int->Option Int->Hp->VK->Prop:=fun x lo hi H Q=>match x with
 | .str z=>z.length<=sizeLine/\Q (.str (Txt.slice z lo hi)) H
 | _=>False
def PF:jR X Me:=by
 intro π s σ H x v vl vu lo hi sl Q I rx hs pl pu h;unfold Me at h;split at h
 ·rename_i z;obtain ⟨hz,q⟩:=h;obtain ⟨t,rfl⟩:=rx;obtain ⟨l,rfl,rfl⟩:=Mm pl;obtain ⟨u,rfl,rfl⟩:=Mm pu;refine ⟨"str",_,F.slot_str_getitem.lookup,_u _ _ _,wpAny_getItem_str_slice (l:=l) (u:=u) (st:=none) hs rfl
   (post_val_or_str ⟨wl (Txt.slice_le z _ _) hz,fun t' k=>?_⟩)⟩
  exact ⟨.str (Txt.slice z (l.map (·.1)) (u.map (·.1))),H,I.tok k,⟨t',rfl⟩,q⟩
 ·exact h.elim
def Dy:R2:=fun x y H Q=>match x,y with
 | .int i,.int j=>we i j/\Q (.int (i * j)) H
 | .str z,.int n=>MulOk z n/\Q (.str (Txt.mul z n)) H
 | .ref l,.int k=>match H l with
  | some (.lst xs)=>-(2 ^ 63)<=k/\k < 2 ^ 63/\xs.length * k.toNat<=sizeLine/\∀ p,H p=none->Q (.ref p) (upd H p (.lst (List.replicate k.toNat xs).flatten))
  | _=>False
 | _,_=>False
def aaM:aR X (binaryOp .Mult) (fun x y H Q=>∃ z n,x=.str z/\y=.int n/\MulOk z n/\Q (.str (Txt.mul z n)) H):=by
 intro π s σ H x y v u Q I rx ry h;obtain ⟨z,n,rfl,rfl,hm,q⟩:=h;obtain ⟨t,rfl⟩:=rx;obtain ⟨t',rfl⟩:=ry;exact SB.mul hm fun t2 k=>⟨.str _,H,I.tok _,⟨_,rfl⟩,q⟩
def mH:aR X (binaryOp .Mult) Dy:=(V5.or (aaM.or abT)).imp fun x y H Q h=>by
 unfold Dy at h;split at h
 ·exact .inl ⟨_,_,rfl,rfl,h.1,h.2⟩
 ·exact .inr (.inl ⟨_,_,rfl,rfl,h.1,h.2⟩)
 ·split at h
  ·rename_i xs h1;obtain ⟨h2,h3,h4,h5⟩:=h;exact .inr (.inr ⟨_,_,xs,rfl,rfl,h1,h2,h3,h4,h5⟩)
  ·exact h.elim
 ·exact h.elim
def GR:∀ {bs:List Bool} {us:List Value},Vals (bs.map V.bl) us->us=bs.map Value.bool
 | [],_,.nil=>rfl
 | b::r,_,.cons h h'=>by
  have h:_=Value.bool b:=h;rw [h,GR h'];rfl
def all_range (bs:List Bool):(List.range bs.length).all (fun j=>bs.getD j true)=bs.all id:=by
 rw [ZB,LE,LE];constructor
 ·intro h b hb;obtain ⟨i,hi,e⟩:=_h hb;have:=h i (Ja4.mpr hi);rw [_v,ut hi,e] at this;exact this
 ·intro h j hj;have hj:=Ja4.mp hj;rw [_v,ut hj];exact h _ (_y hj)
def abF (hc:X.calm=true):cZ X (.builtin "all") (fun xs H Q=>∃ (p:Addr) (bs:List Bool),xs=[.ref p]/\aD X.K H p (bs.map V.bl)/\Q (.bl (bs.all id)) H):=by
 intro π s σ H xs us Q I r h;obtain ⟨p,bs,rfl,hq,q⟩:=h;obtain ⟨u,rfl,e⟩:=vals1 r;cases e;obtain ⟨aj,rv,pl,hz⟩:=I.list hq;have eb:=GR rv;subst eb;have bY:p < s.heap.objs.size:=pl.lt;refine call_all_walk (wpAny_pyIter_list pl.isList ?_);refine ⟨s.heap.objs.size,_,_,_,_,_,fun j=>bs.getD j true,rfl,Walks.list (A:=X.A.in1) (show X.A.in1.handled=none from I.ok.hd hc) _ p (zn bY) (bs.map Value.bool).toArray,⟨⟨_,wn _ rfl,rfl,rfl⟩,pl.isList.push _⟩,?_,?_⟩
 ·intro i v s' Q' E' hP hQ;have hi:bs[i]?=some (bs.getD i true)/\v=.bool (bs.getD i true):=by
   have hP:(bs.map Value.bool).toArray[i]?=some v:=hP;rw [List.getElem?_toArray,Ev] at hP;cases e:bs[i]? with
   | none=>rw [e] at hP;cases hP
   | some b =>
    rw [e] at hP;have:bs.getD i true=b:=by rw [_v,e];rfl
    rw [this];exact ⟨rfl,(Fa hP).symm⟩
  rw [hi.2];exact Op hQ
 ·intro h' tk hk;have e:(List.range (bs.map Value.bool).toArray.size).all (fun j=>bs.getD j true)=bs.all id:=by
   rw [sB,ss];exact all_range bs
  rw [e];refine ⟨.bl (bs.all id),H,I.kept (t':=tk) (fun b o eo=>?_),rfl,q⟩;refine hk b o ?_ (pc _ eo);intro hm;have e1:b=s.heap.objs.size:=by simpa using hm
  exact absurd (u8 eo) (by rw [e1];exact Id _)
def xt (x:Str):It:=⟨fun i _=>i < x.length,fun i H y H'=>H'=H/\∃ c,x.cps[i]?=some c/\y=.str ⟨#[c]⟩,fun i _=>x.length<=i⟩
def Lg {P:Program} {w:World} {K:ν} {tg:Expr} {x:Str} {t:Tok} {ty:String} (it:Addr)
  (cC:["enumerate","zip","dict_itemiterator","dict_reverseitemiterator","odict_iterator","itertools.zip_longest","itertools.pairwise"].contains ty=false)
  (W:∀ A:Around,A.handled=none->Walks P w A it [it] [it] x.cps.size (SignAt x) (fun i h=>h.IsStrIter it ty x t i)) (W0:∀ (A:Around) (i:Nat) (s:Shared) (Q:Value->Shared->Prop) (E:Value->Shared->Prop),s.heap.IsStrIter it ty x t i->Q (.ref it) s->wpAny (model P w) A (pyIter (.ref it)) Q E s) :
  Turn P w K tg (xt x) [it] it (fun i h=>i<=x.length/\h.IsStrIter it ty x t i) where
 mem:=by simp
 obj:=fun i h st b hb=>by
  have e:b=it:=by simpa using hb
  subst e;obtain ⟨_,o,e,c,d⟩:=st;exact ⟨o,e,fun v z=>by rw [d] at z;cases z⟩
 keep:=fun i h h' st k=>⟨st.1,let ⟨o,ho,r⟩:=st.2;⟨o,k it (by simp) o ho,r⟩⟩
 item:=by
  intro X hP hw hK hc i π s σ H E I hf st hg;subst hP hw hK;obtain ⟨f0,f1,f2,f3,f4,f5⟩:=hf it (by simp);refine (W X.A (I.ok.hd hc)).item i s _ E hg st.2 fun v h' tk hv st' hk=>?_;obtain ⟨c,u,EM,rfl⟩:=hv;have I1:Inv X π σ H { s with heap:=h',toks:=tk }:=I.turned (t':=tk) (fun b o hb e=>hk b o (by simpa using hb) e) f0 f1 f3 f4 f5;obtain ⟨o,e,cc,d⟩:=id st';exact ⟨_,rfl,vd (s:={ s with heap:=h',toks:=tk }) e cc d cC ⟨.str ⟨#[c]⟩,H,I1,⟨u,rfl⟩,⟨rfl,c,EM,rfl⟩,⟨hg,st'⟩,fun b hb=>(hf b hb).1⟩⟩
 done:=by
  intro X hP hw hK hc i π s σ H E I hf st hg;subst hP hw hK;obtain ⟨f0,f1,f2,f3,f4,f5⟩:=hf it (by simp);have hi:i=x.cps.size:=Nat.le_antisymm st.1 hg;subst hi;exact (W X.A (I.ok.hd hc)).done s _ E st.2 fun h' tk hk=>⟨rfl,I.turned (t':=tk) (fun b o hb e=>hk b o (by simpa using hb) e) f0 f1 f3 f4 f5⟩
 self:=fun A i s Q E st h=>W0 A i s Q E st.2 h
def BK (tl:TE):TI:=fun σ H R=>tl σ H fun x H1=>match x with
 | .str z=>R (xt z) H1
 | _=>False
def Xc {tg l:Expr} {tl:TE} (hl:PE X l tl):PI X tg l (BK tl):=by
 intro π s σ H R I h;refine aB (hl π s σ H _ I h) fun v s1 ⟨x,H1,I1,r1,q1⟩=>?_;have q1':∃ z,x=.str z/\R (xt z) H1:=by
  dsimp only at q1;split at q1
  ·exact ⟨_,rfl,q1⟩
  ·exact q1.elim
 obtain ⟨z,rfl,q⟩:=q1';obtain ⟨t,rfl⟩:=r1;have fp:∀ b∈[s1.heap.objs.size],gS X π H1 b:=fun b hb=>by
  have e:b=s1.heap.objs.size:=by simpa using hb
  subst e;exact I1.wa (sK _) (I1.ay.fresh (sK _))
 cases ha:z.cps.all (· < 128)
 ·refine wpAny_pyIter_wide ha ⟨s1.heap.objs.size,[s1.heap.objs.size],_,_,H1,rfl,I1.kept (t':=s1.toks) fun b o e=>pc _ e,
   Lg (ty := "str_iterator") (t:=t) _ (by decide) (fun A hA=>Walks.strWide hA _ z t) (fun A i s Q E st h=>wpAny_pyIter_striter_wide st h),⟨Da _,_,wn _ rfl,rfl,rfl⟩,fp,q⟩
 ·refine wpAny_pyIter_ascii ha ⟨s1.heap.objs.size,[s1.heap.objs.size],_,_,H1,rfl,I1.kept (t':=s1.toks) fun b o e=>pc _ e,
   Lg (ty := "str_ascii_iterator") (t:=t) _ (by decide) (fun A hA=>Walks.strAscii hA _ z t) (fun A i s Q E st h=>wpAny_pyIter_striter_ascii st h),⟨Da _,_,wn _ rfl,rfl,rfl⟩,fp,q⟩
end
section
variable {X:Cx} {a b c:Expr} {ta tb tc:TE} {pos:Pos}
def ac6 (ha:PE X a ta):PE X (.UnaryOp .Not a pos) (zt ta):=by
 intro π s σ H Q I h;refine UnaryOp_ (aB (ha π s σ H _ I h) fun v s1 ⟨x,H1,I1,r1,q1⟩=>?_);have q1':∃ k,x=.bl k/\Q (.bl (!k)) H1:=by
  dsimp only at q1;split at q1
  ·exact ⟨_,rfl,q1⟩
  ·exact q1.elim
 obtain ⟨k,rfl,z1⟩:=q1';cases r1;exact not_of (Op ⟨.bl (!k),H1,I1,rfl,z1⟩)
def acL {op op':CmpOp} {f g:Int->Int->Bool} (ho:aR X (compareOp op) (ee f)) (ho':aR X (compareOp op') (ee g)) (ha:PE X a ta) (hb:PE X b tb) (hc:PE X c tc)
  (hm:lastMarks [op,op'] [b,c]=false:=by with_unfolding_all rfl):PT X (.Compare a [op,op'] [b,c] pos) (AL f g ta tb tc):=by
 intro π s σ H Q I h;refine isTrue_chain (aB (ha π s σ H _ I h) fun v s1 ⟨x,H1,I1,r1,q1⟩=>test_link (aB (hb π s1 σ H1 _ I1 q1) fun u s2 ⟨y,H2,I2,r2,q2⟩=>?_)) hm;have q2':∃ i j,x=.int i/\y=.int j/\if f i j=true then tc σ H2 (fun z H3=>(match z with | .int k=>Q (g j k) H3 | _=>False)) else Q false H2:=by
  dsimp only at q2;split at q2
  ·exact ⟨_,_,rfl,rfl,q2⟩
  ·exact q2.elim
 obtain ⟨i,j,rfl,rfl,z2⟩:=q2';refine aB (ho π s2 σ H2 (.int i) (.int j) v u (fun z H3=>z=.bl (f i j)/\H3=H2) I2 r1 r2 ⟨rfl,rfl⟩) fun d s3 ⟨z,H3,I3,r3,e,e'⟩=>?_;subst e e';cases r3;refine Op ?_;cases hf:f i j with
 | false =>
  rw [hf] at z2;exact ite_ff ⟨H3,I3,z2⟩
 | true =>
  rw [hf,At rfl] at z2;refine ite_tt (test_last (aB (hc π s3 σ H3 _ I3 z2) fun w' s4 ⟨z',H4,I4,r4,q4⟩=>?_));have q4':∃ k,z'=.int k/\Q (g j k) H4:=by
   dsimp only at q4;split at q4
   ·exact ⟨_,rfl,q4⟩
   ·exact q4.elim
  obtain ⟨k,rfl,z4⟩:=q4';refine aB (ho' π s4 σ H4 (.int j) (.int k) u w' (fun z H5=>z=.bl (g j k)/\H5=H4) I4 r2 r4 ⟨rfl,rfl⟩) fun d' s5 ⟨z2,H5,I5,r5,e,e'⟩=>?_;subst e e';cases r5;exact Op ⟨H5,I5,z4⟩
def wg (K:ν):List V->Hp->VK->Prop:=fun xs H Q=>match xs with
 | [.str y]=>y.length<=sizeLine/\Q (.int y.length) H
 | [.ref p]=>bU K H p fun ys=>Q (.int ys.length) H
 | _=>False
def Sz:cZ X (.builtin "len") (wg X.K):=adi.imp fun xs H Q h=>by
 unfold wg at h;split at h
 ·exact ⟨_,_,rfl,⟨h.1,rfl⟩,h.2⟩
 ·obtain ⟨ys,h1,h2⟩:=vf h;rcases h1 with h1 | h1
  ·exact ⟨_,_,rfl,.inl ⟨ys,h1,rfl⟩,h2⟩
  ·exact ⟨_,_,rfl,.inr ⟨ys,h1,rfl⟩,h2⟩
 ·exact h.elim
def HE (K:ν):List V->Hp->VK->Prop:=fun xs H Q=>match xs with
 | [x,cV]=>∃ t b,((∃ n,cV=.ty n)\/∃ a,cV=.ref a)/\fV K H x t/\W.kitOne K t (wM cV)=some b/\Q (.bl b) H
 | _=>False
def Wn:cZ X (.builtin "isinstance") (HE X.K):=adG.imp fun xs H Q h=>by
 unfold HE at h;split at h
 ·obtain ⟨t,b,h1,h2,h3,h4⟩:=h;exact ⟨_,_,t,b,rfl,h1,h2,h3,h4⟩
 ·exact h.elim
def vi (K:ν):List V->Hp->VK->Prop:=fun xs H Q=>match xs with
 | [.ref p]=>vJ K H p fun xs=>∃ bs:List Bool,xs=bs.map V.bl/\Q (.bl (bs.all id)) H
 | _=>False
def XI (hc:X.calm=true):cZ X (.builtin "all") (vi X.K):=(abF hc).imp fun xs H Q h=>by
 unfold vi at h;split at h
 ·obtain ⟨xs,h1,bs,rfl,h2⟩:=Du h;exact ⟨_,bs,rfl,h1,h2⟩
 ·exact h.elim
def xg (K:ν):List V->Hp->VK->Prop:=fun xs H Q=>match xs with
 | [.ref p]=>bU K H p fun ys=>∀ l,H l=none->Q (.ref l) (upd H l (.lst ys))
 | _=>False
def Uw:cZ X (.type "list") (xg X.K):=ab7.imp fun xs H Q h=>by
 unfold xg at h;split at h
 ·obtain ⟨ys,h1,h2⟩:=vf h;exact ⟨_,ys,rfl,h1,h2⟩
 ·exact h.elim
def mS (K:ν):R2:=fun x y H Q=>match x,y with
 | .ref p,.int i=>bU K H p fun xs=>match dv xs i with
  | some v=>Q v H
  | none=>False
 | .str z,.int i=>z.length<=sizeLine/\match dv z.cps.toList i with
  | some c=>Q (.str ⟨#[c]⟩) H
  | none=>False
 | _,_=>False
def f7.imp {r r':R2} (h:f7 X r) (i:∀ x y H Q,r' x y H Q->r x y H Q):f7 X r':=fun value slice π s σ H x y v u Q I rx ry q=>h value slice π s σ H x y v u Q I rx ry (i x y H Q q)
def qx:f7 X (mS X.K):=Zg.imp fun x y H Q h=>by
 unfold mS at h;split at h
 ·obtain ⟨xs,h1,h2⟩:=vf h;split at h2
  ·rename_i v e;rcases h1 with h1 | h1
   ·exact .inl ⟨_,xs,_,v,rfl,rfl,h1,e,h2⟩
   ·exact .inr (.inl ⟨_,xs,_,v,rfl,rfl,h1,e,h2⟩)
  ·exact h2.elim
 ·obtain ⟨h1,h2⟩:=h;split at h2
  ·rename_i d e;exact .inr (.inr ⟨_,_,d,rfl,rfl,h1,e,h2⟩)
  ·exact h2.elim
 ·exact h.elim
def vk (K:ν):V->Option Int->Option Int->Hp->VK->Prop:=fun x lo hi H Q=>match x with
 | .str z=>z.length<=sizeLine/\Q (.str (Txt.slice z lo hi)) H
 | .ref a=>vJ K H a fun xs=>∀ p,H p=none->Q (.ref p) (upd H p (.lst (gA xs lo hi)))
 | _=>False
def qsl:jR X (vk X.K):=by
 intro π s σ H x v vl vu lo hi sl Q I rx hs pl pu h;refine (PF.or Xw) π s σ H x v vl vu lo hi sl Q I rx hs pl pu ?_;unfold vk at h;split at h
 ·exact .inl h
 ·obtain ⟨xs,h1,h2⟩:=Du h;exact .inr ⟨_,xs,rfl,h1,h2⟩
 ·exact h.elim
def BE (t:TE):TO:=fun σ H Q=>t σ H fun x H1=>match x with
 | .int i=>Q (some i) H1
 | _=>False
def Vm {e:Expr} {te:TE} (h:PE X e te):PO X (some e) (BE te):=by
 intro π s σ H Q I q;refine evalPart_some_step (aB (h π s σ H _ I q) fun v s1 ⟨x,H1,I1,r1,q1⟩=>?_);have q1':∃ i,x=.int i/\Q (some i) H1:=by
  dsimp only at q1;split at q1
  ·exact ⟨_,rfl,q1⟩
  ·exact q1.elim
 obtain ⟨i,rfl,z1⟩:=q1';obtain ⟨t,rfl⟩:=r1;exact ⟨some i,H1,I1,.int i t,z1⟩
def Br:uh:=fun o i v H Q=>match o,i with
 | .ref p,.int k=>match H p with
  | some (.lst xs)=>(match gB xs.length k with
   | some j=>Q (upd H p (.lst (xs.set j v)))
   | none=>False)
  | _=>False
 | _,_=>False
def Je:ve X Br:=by
 intro π s σ H o i v ov iv u Q I ro ri rv h;refine set_list π s σ H o i v ov iv u Q I ro ri rv ?_;unfold Br at h;split at h
 ·split at h
  ·rename_i xs h1;split at h
   ·rename_i j h2;exact ⟨_,xs,_,j,rfl,rfl,h1,h2,h⟩
   ·exact h.elim
  ·exact h.elim
 ·exact h.elim
def en.imp {id:String} {r r':V->List V->Hp->VK->Prop} (h:en X id r) (i:∀ x xs H Q,r' x xs H Q->r x xs H Q):en X id r':=fun π s σ H x xs v us Q I rx rv q=>h π s σ H x xs v us Q I rx rv (i x xs H Q q)
def AG:V->List V->Hp->VK->Prop:=fun x vs H Q=>match x,vs with
 | .ref l,[y]=>match H l with
  | some (.lst xs)=>xs.length < sizeLine/\Q .aq (upd H l (.lst (xs++[y])))
  | _=>False
 | _,_=>False
def iL:en X "list.append" AG:=en.imp adp fun x xs H Q h=>by
 unfold AG at h;split at h
 ·split at h
  ·rename_i zs h1;exact ⟨_,zs,_,rfl,rfl,h1,h.1,h.2⟩
  ·exact h.elim
 ·exact h.elim
def Co:V->List V->Hp->VK->Prop:=fun x vs H Q=>match x,vs with
 | .ref l,[.ref b]=>match H l,H b with
  | some (.lst xs),some (.lst zs)=>xs.length+zs.length<=sizeLine/\Q .aq (upd H l (.lst (xs++zs)))
  | _,_=>False
 | _,_=>False
def Uq:en X "list.extend" Co:=en.imp Yz fun x xs H Q h=>by
 unfold Co at h;split at h
 ·split at h
  ·rename_i zs ws h1 h2;exact ⟨_,_,zs,ws,rfl,rfl,h1,h2,h.1,h.2⟩
  ·exact h.elim
 ·exact h.elim
def clsName (H:Hp):V->Option String
 | .aq=>some "NoneType"
 | .bl _=>some "bool"
 | .int _=>some "int"
 | .str _=>some "str"
 | .ref p=>match H p with
  | some (.lst _)=>some "list"
  | some (.tup _)=>some "tuple"
  | some (.dK _)=>some "dict"
  | _=>none
 | _=>none
def w6 (T n:String):Bool:=T == n || (T == "bool" && n == "int")
def WK {K:ν} {H:Hp} {x:V} {T:String} (h:clsName H x=some T):fV K H x (.type T)/\T∈["NoneType","bool","int","str","list","tuple","dict"]:=by
 unfold clsName at h;split at h
 ·cases h;exact ⟨.aq,by simp⟩
 ·cases h;exact ⟨.bl _,by simp⟩
 ·cases h;exact ⟨.int _,by simp⟩
 ·cases h;exact ⟨.str _,by simp⟩
 ·split at h
  ·rename_i e;cases h;exact ⟨.lst e,by simp⟩
  ·rename_i e;cases h;exact ⟨.tup e,by simp⟩
  ·rename_i e;cases h;exact ⟨.dK e,by simp⟩
  ·cases h
 ·cases h
def WN (K:ν):∀ T,T∈["NoneType","bool","int","str","list","tuple","dict"]->∀ n,n∈["bool","int","str","list","tuple","dict"]->W.kitOne K (.type T) (.type n)=some (w6 T n):=by
 intro T hT n hn;simp only [lv,List.mem_nil_iff,wP] at hT hn;rcases hT with rfl | rfl | rfl | rfl | rfl | rfl | rfl <;> rcases hn with rfl | rfl | rfl | rfl | rfl | rfl <;> kernel_rfl
def DJ:List V->Hp->VK->Prop:=fun xs H Q=>match xs with
 | [x,.ty n]=>n∈["bool","int","str","list","tuple","dict"]/\match clsName H x with
  | some T=>Q (.bl (w6 T n)) H
  | none=>False
 | _=>False
def jg:cZ X (.builtin "isinstance") DJ:=Wn.imp fun xs H Q h=>by
 unfold DJ at h;split at h
 ·rename_i x n;obtain ⟨hn,h⟩:=h;split at h
  ·rename_i T e;obtain ⟨h1,h2⟩:=WK (K:=X.K) e;exact ⟨_,_,.inl ⟨_,rfl⟩,h1,WN _ T h2 n hn,h⟩
  ·exact h.elim
 ·exact h.elim
def Ba (r:V->List V->Hp->VK->Prop) (to:TE) (t:TA):TE:=fun σ H Q=>to σ H fun x H1=>match x with
 | .str z=>t σ H1 fun xs H2=>r (.str z) xs H2 Q
 | _=>False
def yG (r:V->List V->Hp->VK->Prop) (to:TE) (t:TA):TE:=fun σ H Q=>to σ H fun x H1=>match x with
 | .ref l=>(match H1 l with
  | some (.lst _)=>t σ H1 fun xs H2=>r (.ref l) xs H2 Q
  | _=>False)
 | _=>False
section
variable {T:String} {name:Str} {id:String} {r:V->List V->Hp->VK->Prop} {o e:Expr} {es:List Expr} {to:TE} {t:TA} {apos bh:Pos}
def XW (slot:Slot "str" name id) (cC:typeOf (.builtin id)=pure (.type "method_descriptor")) (hm:en X id r) (ho:PE X o to) (ha:PA X (e::es) t)
  (hs:(e::es).all noStar=true:=by rfl) (aX:decide ((e::es).length+([]:List Keyword).length+(if ([]:List Keyword).isEmpty then 0 else 1) < 30)=true:=by rfl)
  (ju:attributeBase o name X.env (eval o X.env)=eval o X.env:=by rfl) (jw:(apos.endLine == bh.line)=true:=by rfl) :
  PE X (.Call (.Attribute o name apos) (e::es) [] bh) (Ba r to t):=by
 have hs':=hs;rw [KK,AC] at hs';have aJ:starEach (e::es) X.env=(false,eval e X.env)::starEach es X.env:=fS hs'.1;have Ef:(backTo bh (starEach es X.env)).any (·.1)=false:=iH hs'.2;have Ep:((backTo bh (starEach (e::es) X.env)).all (fun x=>!x.1) && (backToKw bh (keywordEach [] X.env)).all (fun x=>x.1.isSome)
   && decide ((e::es).length+([]:List Keyword).length+(if ([]:List Keyword).isEmpty then 0 else 1) < 30))=true:=by
  rw [Ak hs,aX];rfl
 intro π s σ H Q I h;refine wpAny_Call_method_late ju Ep jw rfl (aB (ho π s σ H _ I h) fun v s1 ⟨x,H1,I1,r1,q1⟩=>?_);dsimp only at q1;split at q1
 ·rename_i z;obtain ⟨h1,h2⟩:=yX (T := "str") I1 r1 rfl;refine ⟨"str",id,PySem.F.plainAttrs_str,slot,cC,h1,h2,?_⟩;have hA:=ha bh π s1 σ H1 _ I1 q1;rw [aJ] at hA ⊢;refine Uf (by show (false || (backTo bh (starEach es X.env)).any (·.1))=false;rw [Ef] <;> rfl) (_d ?_);exact aB hA fun us s2 ⟨vs,H2,I2,r2,q2⟩=>hm π s2 σ H2 (.str z) vs v us Q I2 r1 r2 q2
 ·exact q1.elim
def Si (slot:Slot "list" name id) (cC:typeOf (.builtin id)=pure (.type "method_descriptor")) (hm:en X id r) (ho:PE X o to) (ha:PA X (e::es) t)
  (hs:(e::es).all noStar=true:=by rfl) (aX:decide ((e::es).length+([]:List Keyword).length+(if ([]:List Keyword).isEmpty then 0 else 1) < 30)=true:=by rfl)
  (ju:attributeBase o name X.env (eval o X.env)=eval o X.env:=by rfl) (jw:(apos.endLine == bh.line)=true:=by rfl) :
  PE X (.Call (.Attribute o name apos) (e::es) [] bh) (yG r to t):=by
 have hs':=hs;rw [KK,AC] at hs';have aJ:starEach (e::es) X.env=(false,eval e X.env)::starEach es X.env:=fS hs'.1;have Ef:(backTo bh (starEach es X.env)).any (·.1)=false:=iH hs'.2;have Ep:((backTo bh (starEach (e::es) X.env)).all (fun x=>!x.1) && (backToKw bh (keywordEach [] X.env)).all (fun x=>x.1.isSome)
   && decide ((e::es).length+([]:List Keyword).length+(if ([]:List Keyword).isEmpty then 0 else 1) < 30))=true:=by
  rw [Ak hs,aX];rfl
 intro π s σ H Q I h;refine wpAny_Call_method_late ju Ep jw rfl (aB (ho π s σ H _ I h) fun v s1 ⟨x,H1,I1,r1,q1⟩=>?_);dsimp only at q1;split at q1
 ·rename_i l;split at q1
  ·rename_i zs el;obtain ⟨h1,h2⟩:=yX (T := "list") I1 r1 (.inl ⟨rfl,zs,aD.of el⟩);refine ⟨"list",id,PySem.F.plainAttrs_list,slot,cC,h1,h2,?_⟩;have hA:=ha bh π s1 σ H1 _ I1 q1;rw [aJ] at hA ⊢;refine Uf (by show (false || (backTo bh (starEach es X.env)).any (·.1))=false;rw [Ef] <;> rfl) (_d ?_);exact aB hA fun us s2 ⟨vs,H2,I2,r2,q2⟩=>hm π s2 σ H2 (.ref l) vs v us Q I2 r1 r2 q2
  ·exact q1.elim
 ·exact q1.elim
end
def OZ {CX:dW} {P:Program} {w:World} {K:ν} {mg:Str->Option Value} {base:Heap} {N:List Str} {qual:Str} {scope:Scope} {f:Addr} {cd:Value} {A:Around} {outer:List Env} {s:Shared} {H:Hp} {E:XK} :
  (df CX P w K mg base N qual scope f cd A outer s H E).K=K:=rfl
def iG {α:Type} (a:α) (l:List α):dv (a::l) 0=some a:=oJ (j:=0) rfl
def wZ {α:Type} (a b:α) (l:List α):dv (a::b::l) 1=some b:=oJ (j:=1) rfl
def GC {α:Type} (a b c:α) (l:List α):dv (a::b::c::l) 2=some c:=oJ (j:=2) rfl
def aaP (n:Nat):gB (n+1) 0=some 0:=by
 unfold gB;rw [At (by decide),At (by omega)];rfl
def Zk (n:Nat):gB (n+3) 2=some 2:=by
 unfold gB;rw [At (by decide),At (by omega)];rfl
def Su {H:Hp} {p b:Addr} {o u:HO} (h:H b=some u) (hp:H p=Option.none):upd H p o b=some u:=by rw [ag (gg h hp)];exact h
def dJ:bootBuiltins "isinstance" = some (.builtin "isinstance"):=by decide +kernel
def Ct:bootBuiltins "all" = some (.builtin "all"):=by decide +kernel
def kH:bootBuiltins "str" = some (.type "str"):=by decide +kernel
def Ri:bootBuiltins "bool" = some (.type "bool"):=by decide +kernel
def Bj:bootBuiltins "int" = some (.type "int"):=by decide +kernel
def GP:bootBuiltins "list" = some (.type "list"):=by decide +kernel
def RP:bootBuiltins "ValueError" = some (.type "ValueError"):=by decide +kernel
end
abbrev Ju (ifs:List Expr) (env:Env):Sem Bool:=forIn ifs true fun c r=>if r=true then do let ok <- isTrue c env (eval c env);pure (ForInStep.yield ok) else pure (ForInStep.yield r)
section
variable {prog:Program} {w:World} {A:Around} {R:Result->Shared->Prop} {s:Shared}
def Yi {elt tg iter:Expr} {ifs:List Expr} {scope:Scope} {pos:Pos} {it acc:Value} {env:Env} (J:Nat->Shared->Prop) (hN:∀ e s',notedBy (model prog w) A env (fun e s'=>R (.error e) s') e s'->True)
  (turn:∀ n s,J n s->wpAny (model prog w) A (pyNext it) (fun r s1=>match r with
   | none=>R (.ok .next) s1
   | some v=>wpAny (model prog w) A (letOwnedTupleGo tg it v) (fun _ s2=>wpAny (model prog w) A (assign tg env v) (fun _ s3=>wpAny (model prog w) A (Ju ifs env)
     (fun ok s4=>if ok=true then wpAny (model prog w) A (eval elt env) (fun x s5=>wpAny (model prog w) A (call (.builtin "list.append") [acc,x]) (fun _ s6=>∃ m,m < n/\J m s6) (fun _ _=>False) s5) (fun _ _=>False) s4
      else ∃ m,m < n/\J m s4) (fun _ _=>False) s3) (fun _ _=>False) s2) (fun _ _=>False) s1) (fun _ _=>False) s)
  (n:Nat) (h:J n s):codeAny (model prog w) A (.compLoop (.ListComp elt [⟨tg,iter,ifs,0⟩] scope pos) 0 it acc env) R s:=by
 have no:∀ {E:Value->Shared->Prop} (e:Value) (s':Shared),False->E e s':=fun _ _ z=>z.elim;refine codeAny_loop rfl J (fun n s hI=>?_) n h;refine (show wpAny _ A (Sem.onRaise (compTurn (.ListComp elt [⟨tg,iter,ifs,0⟩] scope pos) 0 it acc env) (fun x=>do noteFrame x env;theTreesLotGoes x)) _ _ s from ?_);refine wpAny_noted ?_;rw [compTurn_list];refine li (_X (li (IR (turn n s hI) (fun r s1 q1=>?_) no)));cases r with
 | none=>exact sw q1
 | some v =>
  refine li (IR q1 (fun _ s2 q2=>li (IR q2 (fun _ s3 q3=>li (IR q3 (fun ok s4 q4=>?_) no)) no)) no);cases ok with
  | false=>exact sw ⟨rfl,q4⟩
  | true=>exact li (li (IR q4 (fun x s5 q5=>li (IR q5 (fun _ s6 q6=>sw (sw ⟨rfl,q6⟩)) no)) no))
end
def nN (X:Cx) (ifs:List Expr) (t:TT):Prop :=
 ∀ (π:List (Addr×Obj)) (s:Shared) (σ:St) (H:Hp) (Q:Bool->Hp->Prop),Inv X π σ H s->t σ H Q->wpAny (model X.prog X.w) X.A (Ju ifs X.env) (TP X π σ Q) X.xe s
def wR:TT:=fun _ H Q=>Q true H
def QN {X:Cx}:nN X [] wR:=fun _ _ _ H _ I h=>wpAny_tests_nil ⟨H,I,h⟩
def ads {X:Cx} {c:Expr} {t:TT} (h:PT X c t):nN X [c] t:=fun π s σ H Q I q=>wpAny_tests_one (h π s σ H Q I q)
def wz (wi:TI) (tt:TT) (te:TE):TE:=fun σ H Q=>wi σ H fun J H1=>∃ W:Nat->List V->Nat->Hp->Prop,(∃ m,W 0 [] m H1)/\∀ i ys m H,W i ys m H ->
 ys.length<=sizeLine/\((J.stop i H/\∀ l,H l=none->Q (.ref l) (upd H l (.lst ys))) \/
  (J.go i H/\ys.length < sizeLine/\∀ y H',J.mK i H y H'->tt [some y] H' fun c H2=>if c=true then te [some y] H2 fun z H3=>∃ m',m' < m/\W (i+1) (ys++[z]) m' H3 else ∃ m',m' < m/\W (i+1) ys m' H2))
section
variable {X:Cx}
structure Ce (X:Cx) (π:List (Addr×Obj)) (H:Hp) (C:Addr):Prop where
 fr:H C=none
 nl:C≠X.env.locals
 ab:X.s₀.heap.objs.size<=C
 nc:∀ x c,X.env.cells.lookup x=some c->c≠C
 np:∀ p∈X.pn++π,p.1≠C
def Ce.go {π:List (Addr×Obj)} {σ:St} {H:Hp} {s:Shared} {C:Addr} {h':Heap} (o:Ce X π H C) (I:Inv X π σ H s) (hs:Heap.SameBut C s.heap h'):Inv X π σ H { s with heap:=h' } :=
 I.turned (t':=s.toks) (fun b ob hb e=>(hs.2 b hb).trans e) o.fr o.nl (.inr o.ab) o.nc o.np
end
def eg (st:Addr) (H H':Hp):Prop:=∀ c o,c≠st->H c=some o->H' c=some o
def eg.trans {st:Addr} {H H1 H2:Hp} (a:eg st H H1) (b:eg st H1 H2):eg st H H2:=fun c o n e=>b c o n (a c o n e)
def ah.upd {H:Hp} {p:Addr} {o:HO} (h:H p=Option.none):ah H (upd H p o):=fun b u e=>by rw [ag (gg e h)];exact e
def ah.keep {H H':Hp} (h:ah H H') (st:Addr):eg st H H':=fun c o _ e=>h c o e
def eg.upd {H:Hp} {p:Addr} {o:HO}:eg p H (upd H p o):=fun c u n e=>by rw [ag n];exact e
def eg.same {H H1 H':Hp} {st:Addr} (a:ah H H1) (h:H st=Option.none) (k:eg st H1 H'):ah H H':=fun c o e=>k c o (gg e h) (a c o e)
def nG:V->Bool
 | .str _=>true
 | _=>false
def mE (t:TE):TE:=fun σ H Q=>∃ M:VK,t σ H M/\∀ v H1,M v H1->Q v H1
def mA (t:TA):TA:=fun σ H Q=>∃ M:List V->Hp->Prop,t σ H M/\∀ v H1,M v H1->Q v H1
def PE.m {X:Cx} {e:Expr} {t:TE} (h:PE X e t):PE X e (mE t):=fun π s σ H Q I ⟨M,h1,h2⟩=>aB (h π s σ H M I h1) fun _ _ ⟨v,H1,I1,r,q⟩=>⟨v,H1,I1,r,h2 v H1 q⟩
def PA.m {X:Cx} {e:List Expr} {t:TA} (h:PA X e t):PA X e (mA t):=fun pos π s σ H Q I ⟨M,h1,h2⟩=>aB (h pos π s σ H M I h1) fun _ _ ⟨v,H1,I1,r,q⟩=>⟨v,H1,I1,r,h2 v H1 q⟩
def PI.imp {X:Cx} {tg it:Expr} {t t':TI} (h:PI X tg it t) (i:∀ σ H R,t' σ H R->t σ H R):PI X tg it t':=fun π s σ H R I hw=>h π s σ H R I (i σ H R hw)
def Cs (ta:TA):TI:=fun σ H R=>ta σ H fun vs H1=>match vs with
 | [.int j]=>(-(2 ^ 62)<=j/\j < 2 ^ 62)/\R (tj 0 j.toNat) H1
 | _=>False
def W8 {X:Cx} {tg a:Expr} {ta:TA} {p pos:Pos} (hg:Gl X "range") (hm:X.mg "range" = none) (ha:PA X [a] ta) (hs:starEach [a] X.env=[(false,eval a X.env)]:=by rfl):PI X tg (.Call (.Name "range" p) [a] [] pos) (Cs ta) :=
 (UQ hg hm ha.m hs).imp fun σ H R h=>⟨_,h,fun vs H1 z=>by
  split at z
  ·exact ⟨_,rfl,z.1.1,z.1.2,z.2⟩
  ·exact z.elim⟩
def yL (K:ν) (tl:TE):TI:=fun σ H R=>tl σ H fun x H1=>match x with
 | .ref a=>(∃ xs,aD K H1 a xs)/\R (kM K a) H1
 | _=>False
def Zs {X:Cx} {tg l:Expr} {tl:TE} (hl:PE X l tl):PI X tg l (yL X.K tl):=(Rj hl.m).imp fun σ H R h=>⟨_,h,fun x H1 z=>by
  split at z
  ·exact ⟨_,rfl,z.1,z.2⟩
  ·exact z.elim⟩
def G9 (J:It) (g:TG) (tb:TS) (D:Ends) (σ:St) (H1:Hp):Prop:=∃ W:Nat->Nat->St->Hp->Prop,(∃ m,W 0 m σ H1)/\∀ i m σ H,W i m σ H ->
 (J.stop i H/\D.nx σ H)\/(J.go i H/\∃ N:St->Hp->Prop,(∀ σ' H',N σ' H'->∃ m',m' < m/\W (i+1) m' σ' H')/\∀ x H',J.mK i H x H'->g x σ H' fun σ2 H2=>tb { D with nx:=N,ct:=N,bk:=D.nx } σ2 H2)
def RW {wi:TI} {g:TG} {tb:TS} {D:Ends} {σ:St} {H:Hp}:BP wi g tb D σ H=wi σ H fun J H1=>G9 J g tb D σ H1:=rfl
def JB {K:ν} {a:Addr} {xs:List V} {g:TG} {tb:TS} {D:Ends} {σ:St} {H:Hp} (Pv:Nat->St->Hp->Prop) (h0:Pv 0 σ H) (hl:∀ i σ H,i<=xs.length->Pv i σ H->aD K H a xs)
  (hs:∀ i x σ H,xs[i]?=some x->Pv i σ H->g x σ H fun σ2 H2=>tb { D with nx:=Pv (i+1),ct:=Pv (i+1),bk:=D.nx } σ2 H2) (hd:∀ σ H,Pv xs.length σ H->D.nx σ H):G9 (kM K a) g tb D σ H:=Tu Pv h0 hl hs hd
def fits {n:Nat} (h:n<=1000):n<=sizeLine:=Ja0 (K3 h)
def jO {n:Nat} (h:n<=1000):n < sizeLine:=K3 h
def nB (t u:TS):TS:=fun D σ H=>∃ P:St->Hp->Prop,t { D with nx:=P } σ H/\∀ σ' H',P σ' H'->u D σ' H'
def Y6 {X:Cx} {st:Stmt} {rest:List Stmt} {t u:TS} (h1:PS X st t) (h2:dz X rest u):dz X (st::rest) (nB t u):=by
 intro π s σ H D I h;obtain ⟨P,ht,hu⟩:=h;have h1':PS X st (fun D' σ' H'=>D'={ D with nx:=P }/\t D' σ' H'):=h1.imp fun _ _ _ z=>z.2;have h2':dz X rest (fun D' σ' H'=>P σ' H'/\D'=D):=fun π s σ H D' I z=>by
  obtain ⟨z1,rfl⟩:=z;exact h2 π s σ H D' I (hu σ H z1)
 refine WY (t:=fun D' σ' H'=>t { D with nx:=P } σ' H'/\D'.rt=D.rt/\D'.bk=D.bk/\D'.ct=D.ct/\∀ σ'' H'',P σ'' H''->D'.nx σ'' H'') (u:=fun D' σ' H'=>P σ' H'/\D'=D) ?_ h2' π s σ H D I ⟨ht,rfl,rfl,rfl,fun σ'' H'' z=>⟨z,rfl⟩⟩;intro π s σ H D' I z;obtain ⟨z1,z2,z3,z4,z5⟩:=z;refine aB (h1 π s σ H { D with nx:=P } I z1) fun f s' hq=>?_;cases f with
 | next=>obtain ⟨σ',H',I',q⟩:=hq;exact ⟨σ',H',I',z5 _ _ q⟩
 | brk=>obtain ⟨σ',H',I',q⟩:=hq;exact ⟨σ',H',I',by rw [z3];exact q⟩
 | cont=>obtain ⟨σ',H',I',q⟩:=hq;exact ⟨σ',H',I',by rw [z4];exact q⟩
 | ret u=>obtain ⟨v,σ',H',I',r,q⟩:=hq;exact ⟨v,σ',H',I',r,by rw [z2];exact q⟩
def ai {t u:TS} {D:Ends} {σ:St} {H:Hp} (h:t { D with nx:=u D } σ H):nB t u D σ H:=⟨u D,h,fun _ _ z=>z⟩
def c8 {t u:TS} {D:Ends} {σ:St} {H:Hp} (P:St->Hp->Prop) (h1:t { D with nx:=P } σ H) (h2:∀ σ' H',P σ' H'->u D σ' H'):nB t u D σ H:=⟨P,h1,h2⟩
def pQ {H:Hp} {x:V} {T:String} (h:clsName H x=some T):w6 T "str" = nG x:=by
 unfold clsName at h;split at h
 ·cases h;rfl
 ·cases h;rfl
 ·cases h;rfl
 ·cases h;rfl
 ·split at h
  ·cases h;rfl
  ·cases h;rfl
  ·cases h;rfl
  ·cases h
 ·cases h
def S8 (H:Hp) (z:Str):clsName H (.str z)=some "str" := rfl
def UG (H:Hp) (z:Bool):clsName H (.bl z)=some "bool" := rfl
def ack (H:Hp) (z:Int):clsName H (.int z)=some "int" := rfl
def abE (H:Hp):clsName H .aq=some "NoneType" := rfl
def L8 {H:Hp} {p:Addr} {xs:List V} (h:H p=some (.lst xs)):clsName H (.ref p)=some "list" := by simp only [clsName,h]
def ZZ {H H':Hp} {x:V} {T:String} (e:ah H H') (h:clsName H x=some T):clsName H' x=some T:=by
 unfold clsName at h ⊢;split at h
 ·exact h
 ·exact h
 ·exact h
 ·exact h
 ·split at h
  ·rename_i q;simp only [e _ _ q];exact h
  ·rename_i q;simp only [e _ _ q];exact h
  ·rename_i q;simp only [e _ _ q];exact h
  ·cases h
 ·cases h
def lq (n:String) (h:["bool","int","str","list","tuple","dict"].contains n=true):n∈["bool","int","str","list","tuple","dict"]:=by simpa using h
def xm (K:ν):R2:=fun x y H Q=>match y with
 | .ref p=>∃ xs,(aD K H p xs\/cJ K H p xs)/\di x=true/\xs.all di=true/\Q (.bl (fO x xs)) H
 | _=>False
def UH {X:Cx}:aR X (compareOp .In) (xm X.K):=J4.imp fun x y H Q h=>by
 unfold xm at h;split at h
 ·obtain ⟨xs,h1,h2,h3,h4⟩:=h;exact ⟨_,xs,rfl,h1,h2,h3,h4⟩
 ·exact h.elim
section
variable {X:Cx} {K:ν}
def pU (h:X.K=K):aR X (compareOp .In) (wj K):=h ▸ adw
def xl (h:X.K=K):aR X (compareOp .In) (xm K):=h ▸ UH
def kX (h:X.K=K):cZ X (.builtin "len") (wg K):=h ▸ Sz
def BJ (h:X.K=K) (hc:X.calm=true):cZ X (.builtin "all") (vi K):=h ▸ XI hc
def ac2 (h:X.K=K):cZ X (.type "list") (xg K):=h ▸ Uw
def bG (h:X.K=K):f7 X (mS K):=h ▸ qx
def uH (h:X.K=K):jR X (vk K):=h ▸ qsl
def Xu (h:X.K=K):en X "str.join" (rJoin K):=h ▸ Y3
end
def uM (J:It) (tt:TT) (te:TE) (Q:VK) (H0:Hp):Prop:=∃ W:Nat->List V->Nat->Hp->Prop,(∃ m,W 0 [] m H0)/\∀ i ys m H,W i ys m H ->
 ys.length<=sizeLine/\((J.stop i H/\∀ l,H l=none->Q (.ref l) (upd H l (.lst ys))) \/
  (J.go i H/\ys.length < sizeLine/\∀ y H',J.mK i H y H'->tt [some y] H' fun c H2=>if c=true then te [some y] H2 fun z H3=>∃ m',m' < m/\W (i+1) (ys++[z]) m' H3 else ∃ m',m' < m/\W (i+1) ys m' H2))
def Gy {wi:TI} {tt:TT} {te:TE} {σ:St} {H:Hp} {Q:VK}:wz wi tt te σ H Q=wi σ H fun J H1=>uM J tt te Q H1:=rfl
def Uu {z:Str} {te:TE} {H:Hp} {Q:VK} (f:Nat->V) (hz:z.length<=sizeLine)
  (he:∀ c,c∈z.cps.toList->∀ H1,ah H H1->∀ R:VK,(∀ H2,ah H1 H2->R (f c) H2)->te [some (.str ⟨#[c]⟩)] H1 R)
  (q:∀ H1,ah H H1->∀ l,H1 l=none->Q (.ref l) (upd H1 l (.lst (z.cps.toList.map f)))):uM (xt z) wR te Q H:=by
 have hl:z.cps.toList.length=z.length:=by simp [Str.length]
 refine ⟨fun i ys m H1=>ah H H1/\ys=(z.cps.toList.take i).map f/\i<=z.length/\m=z.length - i,⟨_,ah.refl H,rfl,Da _,rfl⟩,?_⟩;rintro i ys m H1 ⟨s1,rfl,hi,rfl⟩;have hlen:((z.cps.toList.take i).map f).length=i:=by rw [ss,_x,hl];omega
 refine ⟨by rw [hlen];omega,?_⟩;by_cases h:i < z.length
 ·refine .inr ⟨h,by rw [hlen];omega,?_⟩;rintro y H' ⟨rfl,c,hc,rfl⟩;have EO:z.cps.toList[i]?=some c:=by simpa using hc
  simp only [wR,Ja2];refine he c (NE EO) H' s1 _ fun H2 s2=>⟨_,?_,s1.trans s2,?_,h,rfl⟩
  ·omega
  ·rw [List.take_add_one,EO,Fr];rfl
 ·have Om:i=z.length:=by omega
  refine .inl ⟨Nat.le_of_eq Om.symm,fun l hl'=>?_⟩;have:=q H1 s1 l hl';rw [UF (by rw [hl];omega)];exact this
def vw {K:ν} {a:Addr} {xs:List V} {tt:TT} {te:TE} {H:Hp} {Q:VK} (p:V->Bool) (f:V->V) (Fe:aD K H a xs) (hz:xs.length<=sizeLine)
  (ht:∀ x,x∈xs->∀ H1,ah H H1->∀ R:Bool->Hp->Prop,(∀ H2,ah H1 H2->R (p x) H2)->tt [some x] H1 R)
  (he:∀ x,x∈xs->p x=true->∀ H1,ah H H1->∀ R:VK,(∀ H2,ah H1 H2->R (f x) H2)->te [some x] H1 R)
  (q:∀ H1,ah H H1->∀ l,H1 l=none->Q (.ref l) (upd H1 l (.lst ((xs.filter p).map f)))):uM (kM K a) tt te Q H:=by
 refine ⟨fun i ys m H1=>ah H H1/\ys=((xs.take i).filter p).map f/\i<=xs.length/\m=xs.length - i,⟨_,ah.refl H,rfl,Da _,rfl⟩,?_⟩;rintro i ys m H1 ⟨s1,rfl,hi,rfl⟩;have hlen:(((xs.take i).filter p).map f).length<=i:=by
  rw [ss];refine wl (Pi _ _) ?_;rw [_x];omega
 refine ⟨by omega,?_⟩;by_cases h:i < xs.length
 ·have hx:xs[i]?=some xs[i]:=ut h;refine .inr ⟨⟨xs,xs[i],s1.seq Fe,hx⟩,by omega,?_⟩;rintro y H' ⟨rfl,hy⟩;have Oy:xs[i]?=some y:=hy xs (s1.seq Fe);have hm:y∈xs:=NE Oy;have e1:(xs.take (i+1)).filter p=(xs.take i).filter p++(if p y=true then [y] else []):=by
   rw [List.take_add_one,Oy,_I];by_cases hp:p y=true
   ·simp [hp]
   ·simp [hp]
  refine ht y hm H' s1 _ fun H2 s2=>?_;by_cases hp:p y=true
  ·rw [At hp];refine he y hm hp H2 (s1.trans s2) _ fun H3 s3=>⟨_,?_,(s1.trans s2).trans s3,?_,h,rfl⟩
   ·omega
   ·rw [e1,At hp,Fr];rfl
  ·rw [xL hp];refine ⟨_,?_,s1.trans s2,?_,h,rfl⟩
   ·omega
   ·rw [e1,xL hp,_1]
 ·have Om:i=xs.length:=by omega
  refine .inl ⟨⟨xs,s1.seq Fe,by omega⟩,fun l hl'=>?_⟩;have:=q H1 s1 l hl';rw [UF (by omega)];exact this
structure QE (X:Cx) (e:Expr) (t:TE):Prop where
 h:PE X e t
structure QA (X:Cx) (e:List Expr) (t:TA):Prop where
 h:PA X e t
structure QT (X:Cx) (e:Expr) (t:TT):Prop where
 h:PT X e t
structure QW (X:Cx) (e:Expr) (t:TT):Prop where
 h:PW X e t
structure QS (X:Cx) (e:Stmt) (t:TS):Prop where
 h:PS X e t
structure QB (X:Cx) (e:List Stmt) (t:TS):Prop where
 h:dz X e t
structure QI (X:Cx) (tg it:Expr) (t:TI):Prop where
 h:PI X tg it t
structure QG (X:Cx) (e:Expr) (t:TG):Prop where
 h:PG X e t
structure wq (X:Cx) (e:List Expr) (t:kb):Prop where
 h:ur X e t
structure oI (X:Cx) (e:List Expr) (t:TT):Prop where
 h:nN X e t
structure QO (X:Cx) (e:Option Expr) (t:TO):Prop where
 h:PO X e t
structure QP (X:Cx) (pos:Pos) (ks:List (Option Expr)) (vs:List Expr) (t:List (TE×TE)):Prop where
 h:uz X pos ks vs t
namespace Dv
section
variable {X:Cx} {a b c:Expr} {ta tb tc:TE} {pos:Pos} {rest:List Expr} {tA tB':TT}
def v (i:Nat) {x:Str} {pos:Pos} (hN:X.N[i]?=some x:=by rfl) (hv:lR X.env.scope x:=by first | exact Or.inl rfl | exact Or.inr (Or.inl rfl) | exact Or.inr (Or.inr rfl)) (hd:(x == ("__debug__":Str))=false:=by decide)
  (bo:(x == ("__classdict__":Str))=false:=by decide):QE X (.Name x pos) (cI i):=⟨qv i hN hv hd bo⟩
def int {i j pos}:QE X (.Constant (.int i) j pos) (tC (.int i)):=⟨Rn⟩
def bl {b j pos}:QE X (.Constant (.bool b) j pos) (tC (.bl b)):=⟨YM⟩
def aq {j pos}:QE X (.Constant .none j pos) (tC .aq):=⟨ZV⟩
def str {x j pos}:QE X (.Constant (.str x) j pos) (tC (.str x)):=⟨ade⟩
def glob {x:Str} (v:V) {u:Value} {pos:Pos} (hm:X.mg x=some u) (r:RelV v u) (hg:Gl X x:=by rfl) (hd:(x == ("__debug__":Str))=false:=by decide):QE X (.Name x pos) (tC v):=⟨aav hg hm r hd⟩
def iD {x:Str} (v:V) {u:Value} {pos:Pos} (hm:X.mg x=none) (hv:bootBuiltins x=some u) (r:RelV v u) (hg:Gl X x:=by rfl) (hn:x ≠ "__name__" := by decide) (hd:(x == ("__debug__":Str))=false:=by decide):QE X (.Name x pos) (tC v):=⟨Tq hg hm hv r hn hd⟩
def op {o:Operator} {r:R2} (ho:aR X (binaryOp o) r) (ha:QE X a ta) (hb:QE X b tb):QE X (.BinOp a o b pos) (cL r ta tb):=⟨SM ho ha.h hb.h⟩
def un {o:UnaryOp} {r:V->Hp->VK->Prop} (ho:ud X (unaryOp o) r) (ha:QE X a ta):QE X (.UnaryOp o a pos) (BR r ta):=⟨ZL ho ha.h⟩
def cmp {o:CmpOp} {r:R2} (ho:aR X (compareOp o) r) (ha:QE X a ta) (hb:QE X b tb) (hm:behindInMarks o b=false:=by first | exact wW _ (by decide) (by decide) | rfl):QE X (.Compare a [o] [b] pos) (cL r ta tb):=⟨ZO ho ha.h hb.h hm⟩
def qN (ha:QE X a ta) (hb:QE X (.BoolOp .And (b::rest) pos) tb):QE X (.BoolOp .And (a::b::rest) pos) (zc ta tb):=⟨Ro ha.h hb.h⟩
def Mq (ha:QE X a ta) (hb:QE X (.BoolOp .Or (b::rest) pos) tb):QE X (.BoolOp .Or (a::b::rest) pos) (BN ta tb):=⟨abv ha.h hb.h⟩
def one {o} {t:TE} (h:QE X a t):QE X (.BoolOp o [a] pos) t:=⟨aca h.h⟩
def ZS (ha:QE X a ta):QE X (.UnaryOp .Not a pos) (zt ta):=⟨ac6 ha.h⟩
def ae:QA X [] lV:=⟨aan⟩
def aa {e:Expr} {es:List Expr} {te:TE} {t:TA} (ha:QE X e te) (hr:QA X es t) (hs:noStar e=true:=by rfl):QA X (e::es) (qi te t):=⟨UU ha.h hr.h hs⟩
def call {CX:dW} {k:Nat} {f:Addr} {fd:FuncData} {ps:List Str} {sp:Sp} {bj:List V} {ds:List Value} {E:XK} {x:Str} {p pos:Pos} {e:Expr} {es:List Expr} {t:TA}
  (F:aA X.prog X.w X.K X.mg X.base CX k f fd ps sp) (hr:bb k X.A) (hm:X.mg x=some (.ref f)) (hk:W.keepIn X.K (.ref f)=true) (hb:Binds X.K fd ps ds) (hd:Vals bj ds) (hx:Passes CX X E)
  (ha:QA X (e::es) t) (hg:Gl X x:=by rfl) (hs:(e::es).all noStar=true:=by rfl) (bM:(x == ("__debug__":Str))=false:=by decide):QE X (.Call (.Name x p) (e::es) [] pos) (xC sp bj E t):=⟨Y2 F hr hg hm hk hb hd hx ha.h hs bM⟩
def bQ {x:Str} {p pos:Pos} {e:Expr} {es:List Expr} {t:TA} {id:String} {r:List V->Hp->VK->Prop} (hc:cZ X (.builtin id) r) (hm:X.mg x=none) (hv:bootBuiltins x=some (.builtin id)) (ha:QA X (e::es) t)
  (hg:Gl X x:=by rfl) (hs:(e::es).all noStar=true:=by rfl) (hn:x ≠ "__name__" := by decide) (bM:(x == ("__debug__":Str))=false:=by decide):QE X (.Call (.Name x p) (e::es) [] pos) (oi r t):=⟨WU hc hg hm hv ha.h hs hn bM⟩
def xq {x:Str} {p pos:Pos} {e:Expr} {es:List Expr} {t:TA} {T:String} {r:List V->Hp->VK->Prop} (hc:cZ X (.type T) r) (hm:X.mg x=none) (hv:bootBuiltins x=some (.type T)) (ha:QA X (e::es) t)
  (hg:Gl X x:=by rfl) (hs:(e::es).all noStar=true:=by rfl) (hn:x ≠ "__name__" := by decide) (bM:(x == ("__debug__":Str))=false:=by decide):QE X (.Call (.Name x p) (e::es) [] pos) (oi r t):=⟨adq hc hg hm hv ha.h hs hn bM⟩
section
variable {name:Str} {id:String} {r:V->List V->Hp->VK->Prop} {o e:Expr} {es:List Expr} {to:TE} {t:TA} {apos bh:Pos}
def ot (slot:Slot "str" name id) (cC:typeOf (.builtin id)=pure (.type "method_descriptor")) (hm:en X id r) (ho:QE X o to) (ha:QA X (e::es) t)
  (hs:(e::es).all noStar=true:=by rfl) (aX:decide ((e::es).length+([]:List Keyword).length+(if ([]:List Keyword).isEmpty then 0 else 1) < 30)=true:=by rfl)
  (ju:attributeBase o name X.env (eval o X.env)=eval o X.env:=by rfl) (jw:(apos.endLine == bh.line)=true:=by rfl):QE X (.Call (.Attribute o name apos) (e::es) [] bh) (Ba r to t):=⟨XW slot cC hm ho.h ha.h hs aX ju jw⟩
def gp (slot:Slot "list" name id) (cC:typeOf (.builtin id)=pure (.type "method_descriptor")) (hm:en X id r) (ho:QE X o to) (ha:QA X (e::es) t)
  (hs:(e::es).all noStar=true:=by rfl) (aX:decide ((e::es).length+([]:List Keyword).length+(if ([]:List Keyword).isEmpty then 0 else 1) < 30)=true:=by rfl)
  (ju:attributeBase o name X.env (eval o X.env)=eval o X.env:=by rfl) (jw:(apos.endLine == bh.line)=true:=by rfl):QE X (.Call (.Attribute o name apos) (e::es) [] bh) (yG r to t):=⟨Si slot cC hm ho.h ha.h hs aX ju jw⟩
end
def uJ:QO X none Cr:=⟨V2⟩
def sd (h:QE X a ta):QO X (some a) (BE ta):=⟨Vm h.h⟩
def slice {r:V->Option Int->Option Int->Hp->VK->Prop} {lo hi:Option Expr} {tl th:TO} {p2:Pos} (hr:jR X r) (he:QE X a ta) (hl:QO X lo tl) (hu:QO X hi th):QE X (.Subscript a (.Slice lo hi none p2) pos) (Ar r ta tl th):=⟨aap hr he.h hl.h hu.h⟩
def ix {r:R2} (hr:f7 X r) (ha:QE X a ta) (hb:QE X b tb) (hs:LZ b:=by intro _ _;rfl):QE X (.Subscript a b pos) (cL r ta tb):=⟨Vi hr ha.h hb.h hs⟩
def lst {es:List Expr} {t:TA} (h:QA X es t):QE X (.List es pos) (C4 t):=⟨XF h.h⟩
def tup {es:List Expr} {x1} {t:TA} (h:QA X es t):QE X (.Tuple es x1 pos) (v8 t):=⟨aax h.h⟩
def jH:QE X (.Dict [] [] pos) ij:=⟨Zx⟩
def ZM:QP X pos [] [] []:=⟨abY⟩
def wD {k v:Expr} {ks:List (Option Expr)} {vs:List Expr} {tk tv:TE} {gy:List (TE×TE)} (hk:QE X k tk) (hv:QE X v tv) (hr:QP X pos ks vs gy):QP X pos (some k::ks) (v::vs) ((tk,tv)::gy):=⟨SA hk.h hv.h hr.h⟩
def Rg {keys:List (Option Expr)} {values:List Expr} {gy:List (TE×TE)} (h:QP X pos keys values gy) (jb:keys.all (·.isSome)=true:=by rfl) (hl:keys.length=values.length:=by rfl) (h0:keys≠[]:=by simp) (D8:keys.length<=15:=by decide) :
  QE X (.Dict keys values pos) (HN gy):=⟨TK h.h jb hl h0 D8⟩
def bt {o:CmpOp} {r:R2} (ho:aR X (compareOp o) r) (ha:QE X a ta) (hb:QE X b tb) (hm:behindInMarks o b=false:=by first | exact wW _ (by decide) (by decide) | rfl):QT X (.Compare a [o] [b] pos) (cN (cL r ta tb)):=⟨VO ho ha.h hb.h hm⟩
def vU {o o':CmpOp} {f g:Int->Int->Bool} (ho:aR X (compareOp o) (ee f)) (ho':aR X (compareOp o') (ee g)) (ha:QE X a ta) (hb:QE X b tb) (hc:QE X c tc)
  (hm:lastMarks [o,o'] [b,c]=false:=by with_unfolding_all rfl):QT X (.Compare a [o,o'] [b,c] pos) (AL f g ta tb tc):=⟨acL ho ho' ha.h hb.h hc.h hm⟩
def cQ {t:TE} (h:QE X a t) (he:∀ whole,isTrue a X.env whole=(do let v <- whole;standAt a.pos;holding [v] (truthy v)):=by intro _;rfl):QT X a (cN t):=⟨PZ h.h he⟩
def de (ha:QT X a tA):QT X (.UnaryOp .Not a pos) (yH tA):=⟨aau ha.h⟩
def fi (h:QW X a tA):QT X a tA:=⟨h.h.pt⟩
def nR (ha:QT X a tA):QW X (.BoolOp .And [a] pos) tA:=⟨abu ha.h⟩
def jd (ha:QT X a tA):QW X (.BoolOp .Or [a] pos) tA:=⟨Z8 ha.h⟩
def w_and (ha:QT X a tA) (hb:QW X (.BoolOp .And (b::rest) pos) tB'):QW X (.BoolOp .And (a::b::rest) pos) (gT tA tB'):=⟨RY ha.h hb.h⟩
def w_or (ha:QT X a tA) (hb:QW X (.BoolOp .Or (b::rest) pos) tB'):QW X (.BoolOp .Or (a::b::rest) pos) (Cg tA tB'):=⟨Tp ha.h hb.h⟩
variable {st:Stmt} {ME:List Stmt} {t u:TS} {tg:Expr} {g:TG}
def ig (i:Nat) {x:Str} (hN:X.N.Nodup) (hi:X.N[i]?=some x:=by rfl) (hx:Loc X.env.scope x:=by first | exact Or.inl rfl | exact Or.inr rfl) (hf:X.fn x=true\/X.env.scope.names.lookup x=some .local:=by first | exact .inl rfl | exact .inr rfl):QG X (.Name x pos) (fM i):=⟨Tj hN hi hx hf⟩
def Mj {o i:Expr} {to ti:TE} {s:uh} (ho:QE X o to) (hi:QE X i ti) (hs:ve X s) (ha:∀ v,assign (.Subscript o i pos) X.env v=(do
   let ov <- holding [v] (eval o X.env)
   let iv <- holding [v,ov] (eval i X.env)
   standAt pos
   holding [v,ov,iv] (setItem ov iv v)
   release [v,ov,iv] []):=by intro _;rfl):QG X (.Subscript o i pos) (C5 to ti s):=⟨XT ho.h hi.h hs ha⟩
def aaU:wq X [] AE:=⟨Zq⟩
def LL {e:Expr} {es:List Expr} {t:TG} {u:kb} (h1:QG X e t) (h2:wq X es u) (hs:(assignEach (e::es) X.env).map (·.2)=assign e X.env::(assignEach es X.env).map (·.2):=by rfl):wq X (e::es) (DK t u):=⟨adx h1.h h2.h hs⟩
def U6 {K:ν} {es:List Expr} {k:Nat} {t:kb} {n:Nat} (hK:X.K=K) (hc:X.calm=true) (h:wq X es t) (hn:(assignEach es X.env).length=n:=by rfl) (aJ:(assignEach es X.env).findIdx? (·.1)=none:=by rfl):QG X (.Tuple es k pos) (Ci K n t):=hK ▸ ⟨abg hc h.h hn aJ⟩
def aP (i:Nat) {x:Str} {e:Expr} {te:TE} {pos':Pos} (hN:X.N.Nodup) (he:QE X e te) (hi:X.N[i]?=some x:=by rfl) (hx:Loc X.env.scope x:=by first | exact Or.inl rfl | exact Or.inr rfl) (hs:swapsWith e (some (.Name x pos')) pos.line X.env=pure false:=by rfl)
  (hf:X.fn x=true\/X.env.scope.names.lookup x=some .local:=by first | exact .inl rfl | exact .inr rfl):QS X (.Assign [.Name x pos'] e pos) (mB te (fM i)):=⟨RA hN hi hx he.h hs hf⟩
def K0 {e:Expr} {te:TE} (he:QE X e te) (hg:QG X tg g) (hs:swapsWithSole [tg] e pos.line X.env=pure false:=by rfl) (hw:swappedStores [tg] e X.env=pure none:=by rfl) (h1:(assignEach [tg] X.env).map (·.2)=[assign tg X.env]:=by rfl) :
  QS X (.Assign [tg] e pos) (mB te g):=⟨Qy he.h hg.h hs hw h1⟩
def aO (he:QE X a ta):QS X (.Return (some a) pos) (DL ta):=⟨P7 he.h⟩
def LH:QS X (.Return none pos) DB:=⟨UN⟩
def aS (he:QE X a ta) (hs:swapsWith a none pos.line X.env=pure false:=by rfl):QS X (.Expr a pos) (Dx ta):=⟨O3 he.h hs⟩
def aZ {A B:List Stmt} (hc:QT X a tA) (ha:QB X A t) (hb:QB X B u):QS X (.If a A B pos) (eW tA t u):=⟨acQ hc.h ha.h hb.h⟩
def HP {iter:Expr} {body:List Stmt} {wi:TI} {tb:TS} (hp:PassesOwn (model X.prog X.w) X.A X.env X.xe) (hc:X.calm=true) (hi:QI X tg iter wi) (hg:QG X tg g) (hb:QB X body tb) (hs:∀ x,foldedSetIterable iter X.env x=pure x:=by intro _;rfl) :
  QS X (.For tg iter body [] pos) (BP wi g tb):=⟨adh hp hc hi.h hg.h hb.h hs⟩
def nil:QB X [] B3:=⟨adD⟩
def ao (h1:QS X st t):QB X [st] t:=⟨VF h1.h⟩
def cut (h1:QS X st t) (h2:QB X ME u):QB X (st::ME) (nB t u):=⟨Y6 h1.h h2.h⟩
def oj {K:ν} {l:Expr} {tl:TE} (h:X.K=K) (hl:QE X l tl):QI X tg l (yL K tl):=h ▸ ⟨Zs hl.h⟩
def VB {l:Expr} {tl:TE} (hl:QE X l tl):QI X tg l (BK tl):=⟨Xc hl.h⟩
def Km {ta:TA} {p:Pos} (hm:X.mg "range" = none) (ha:QA X [a] ta) (hg:Gl X "range" := by rfl) (hs:noStar a=true:=by rfl):QI X tg (.Call (.Name "range" p) [a] [] pos) (Cs ta):=⟨W8 hg hm ha.h (fS hs)⟩
def Bu:oI X [] wR:=⟨QN⟩
def pG (h:QT X c tA):oI X [c] tA:=⟨ads h.h⟩
end
end Dv
end L2
namespace Tx
open PySem PySem.Builtin PySem.StrLaws
def R7 {c a:Nat} (h:a=c) (r:List Nat):cut c (a::r)=[]::cut c r:=if_pos h
def UM {c a:Nat} {r:List Nat} {x:List Nat} {y:List (List Nat)} (h:¬ a=c) (e:cut c r=x::y):cut c (a::r)=(a::x)::y:=by
 show (if a=c then _ else _)=_;rw [if_neg h,e]
def words (c:Nat) (t:List Nat):List (List Nat):=(cut c t).filter fun w=>decide (w≠[])
def BS (c:Nat):∀ t:List Nat,(cut c t).length<=t.length+1
 | []=>Nat.le_refl _
 | a::r=>by
  have ih:=BS c r;unfold cut;split
  ·simp only [List.length_cons];omega
  ·split
   ·simp
   ·rename_i h t' e;rw [e] at ih;simp only [List.length_cons] at ih ⊢;omega
def RH (t:List Nat) (c:Nat):((cut c t).map S).filter (fun z=>decide (z≠S []))=(words c t).map S:=by
 unfold words;rw [List.filter_map]
 congr 1
 refine List.filter_congr fun w _=>?_;show decide (S w≠S [])=decide (w≠[]);by_cases h:w=[]
 ·simp [h]
 ·have:S w≠S []:=fun e=>h (Gg e);simp [h,this]
def aaJ (x:List Nat) (c:Nat):Txt.startswith (S x) (S [c])=decide (x.head?=some c):=by
 unfold Txt.startswith;rw [eB,eB];cases x with
 | nil=>simp
 | cons a r =>
  rw [subAt_one (a::r) c 0 (by simp)];simp
def aba (x:List Nat) (c:Nat):Txt.endswith (S x) (S [c])=decide (x.getLast?=some c):=by
 unfold Txt.endswith;rw [eB,eB];cases hx:x with
 | nil=>simp
 | cons a r =>
  have hl:(a::r).length - [c].length < (a::r).length:=by simp
  rw [subAt_one (a::r) c _ hl];have e:(a::r)[(a::r).length - [c].length]?=(a::r).getLast?:=by
   rw [List.getLast?_eq_getElem?];rfl
  rw [e];have:decide (0+[c].length<=(a::r).length)=true:=decide_eq_true (by simp);rw [this,Bool.true_and]
end Tx
namespace L2
open PySem PySem.Spec PyProof.Rows
def IW {A:Around} {s:Shared} {l1 l2:List (Str×Tok)} (j:Nat) (h1:j < (strValues l1).toArray.size) (h2:j < (strValues l2).toArray.size) :
  SeqAt.EqAt A s (strValues l1).toArray[j] (strValues l2).toArray[j] (decide ((l1.map (·.1))[j]?=(l2.map (·.1))[j]?)):=by
 have g1:j < l1.length:=by simpa [strValues] using h1
 have g2:j < l2.length:=by simpa [strValues] using h2
 have e1:(strValues l1).toArray[j]=Value.str l1[j].1 l1[j].2:=by simp [strValues]
 have e2:(strValues l2).toArray[j]=Value.str l2[j].1 l2[j].2:=by simp [strValues]
 rw [e1,e2];have e:decide ((l1.map (·.1))[j]?=(l2.map (·.1))[j]?)=(l1[j].1 == l2[j].1):=by
  rw [Ev,Ev,ut g1,ut g2];by_cases q:l1[j].1=l2[j].1
  ·simp [q]
  ·simp [q]
 rw [e];exact SeqAt.EqAt.str_str _ _ _ _
def all_eq {α:Type} [DecidableEq α] {xs ys:List α} (h:xs.length=ys.length):(List.range xs.length).all (fun j=>decide (xs[j]?=ys[j]?))=decide (xs=ys):=by
 rw [ZB,LE,_r];constructor
 ·intro q;apply List.ext_getElem?;intro i;by_cases hi:i < xs.length
  ·exact of_decide_eq_true (q i (Ja4.mpr hi))
  ·rw [_U (by omega),_U (by omega)]
 ·rintro rfl j _;simp
section
variable {X:Cx}
def Jt {π:List (Addr×Obj)} {σ:St} {H:Hp} {s:Shared} {A:Around} {a b:Addr} {ts us:List Str} (I:Inv X π σ H s) (ha:H a=some (.lst (ts.map V.str))) (hb:H b=some (.lst (us.map V.str))) (hu:A.units < cLine) :
  SeqAt.RcAt A s (.ref a) (.ref b) (decide (ts=us))/\SeqAt.RcNeAt A s (.ref a) (.ref b) (!decide (ts=us)):=by
 obtain ⟨i1,r1,p1,_⟩:=I.list (aD.of ha);obtain ⟨i2,r2,p2,_⟩:=I.list (aD.of hb);obtain ⟨l1,rfl,e1⟩:=vC r1;obtain ⟨l2,rfl,e2⟩:=vC r2;have n1:(strValues l1).toArray.size=ts.length:=by rw [<- e1];simp [strValues]
 have n2:(strValues l2).toArray.size=us.length:=by rw [<- e2];simp [strValues]
 by_cases h:ts.length=us.length
 ·have hsz:(strValues l1).toArray.size=(strValues l2).toArray.size:=by rw [n1,n2,h]
  have k1:=SeqAt.RcAt.lists (A:=A) p1.isList p2.isList hsz hu (fun j g1 g2=>IW j g1 g2);have k2:=Ja7 (A:=A) p1.isList p2.isList hsz hu (fun j g1 g2=>IW j g1 g2);rw [n1,e1,e2,all_eq h] at k1 k2;exact ⟨k1,k2⟩
 ·have hsz:((strValues l1).toArray.size != (strValues l2).toArray.size)=true:=by rw [n1,n2];simpa using h
  have e:decide (ts=us)=false:=pi fun z=>h (by rw [z]);rw [e];exact ⟨SeqAt.RcAt.lists_lengths p1.isList p2.isList hsz hu,SeqAt.RcNeAt.lists_lengths p1.isList p2.isList hsz hu⟩
def qM (neg:Bool):R2:=fun x y H Q=>match x,y with
 | .ref a,.ref b=>∃ ts us:List Str,H a=some (.lst (ts.map V.str))/\H b=some (.lst (us.map V.str))/\Q (.bl (neg ^^ decide (ts=us))) H
 | _,_=>False
def U2 (hu:X.A.units < cLine):aR X (compareOp .Eq) (qM false):=by
 intro π s σ H x y v u Q I rx ry h;unfold qM at h;split at h
 ·obtain ⟨ts,us,ha,hb,q⟩:=h;cases rx;cases ry;simp only [Bool.false_bne] at q;exact (Jt I ha hb hu).1 _ _ _ _ ⟨.bl _,H,I,rfl,q⟩
 ·exact h.elim
def UW (hu:X.A.units < cLine):aR X (compareOp .NotEq) (qM true):=by
 intro π s σ H x y v u Q I rx ry h;unfold qM at h;split at h
 ·obtain ⟨ts,us,ha,hb,q⟩:=h;cases rx;cases ry;simp only [Bool.true_bne] at q;exact (Jt I ha hb hu).2 _ _ _ _ ⟨.bl _,H,I,rfl,q⟩
 ·exact h.elim
def Dv.jI {st:Stmt}:QS X st CY:=⟨T5⟩
end
def AH:V->Hp->VK->Prop:=fun x H Q=>match x with
 | .int i=>Q (.int (-i)) H
 | _=>False
def l6 {X:Cx}:ud X (unaryOp .USub) AH:=fun π s σ H x v Q I rx h=>acM π s σ H x v Q I rx (by
 unfold AH at h;split at h
 ·exact ⟨_,rfl,h⟩
 ·exact h.elim)
def VP (r:List V) (x:V):gA (r++[x]) Option.none (some (-1))=r:=by
 unfold gA;have e1:HT.dR (r++[x]).length (r++[x]).length (some (-1))=r.length:=by
  unfold HT.dR;simp;omega
 rw [HT.B5,e1];simp
section
variable {X:Cx} {K:ν}
def abB (K:ν):List V->Hp->VK->Prop:=fun xs H Q=>match xs with
 | [.ref p]=>∃ ys,aD K H p ys/\Q (.int ys.length) H
 | _=>False
def O7 (K:ν):R2:=fun x y H Q=>match x,y with
 | .ref p,.int i=>∃ xs v,aD K H p xs/\dv xs i=some v/\Q v H
 | _,_=>False
end
end L2
namespace L2
open PySem
open Sem (wp)
def dq (e:Addr) (c:Value) (od:Option Addr) (h:Heap):Prop:=∃ o,h.get? e=some o/\o.cls=c/\o.dict=od/\∃ vs,o.data=.fields vs
structure Kp (e:Addr) (c:Value) (od:Option Addr) {α:Type} (t:Sem α):Prop where
 out:∀ (M:Model) (Γ:Ctx) (P:α->Pos->Shared->Prop) (Ee:Value->Pos->Shared->Prop) (p:Pos) (s:Shared),dq e c od s.heap->wp M Γ t P Ee p s->wp M Γ t (fun a p' s'=>P a p' s'/\dq e c od s'.heap) Ee p s
section
variable {e:Addr} {c:Value} {od:Option Addr} {α β:Type}
def Kp.pure (a:α):Kp e c od (Pure.pure a:Sem α):=⟨fun _ _ _ _ _ _ hd h=>⟨h,hd⟩⟩
def Kp.unsupported (w:String):Kp e c od (PySem.unsupported w:Sem α):=⟨fun _ _ _ _ _ _ _ h=>h⟩
def Kp.bind {m:Sem α} {f:α->Sem β} (hm:Kp e c od m) (hf:∀ a,Kp e c od (f a)):Kp e c od (m >>= f):=⟨fun M Γ P Ee p s hd h=>by
 rw [Sem.wp_bind'] at h ⊢;exact Sem.wp_mono M Γ m (fun a p' s' h'=>(hf a).out M Γ P Ee p' s' h'.2 h'.1) (fun _ _ _ x=>x) p s (hm.out M Γ _ Ee p s hd h)⟩
def Kp.ite {q:Prop} [Decidable q] {t u:Sem α} (ht:Kp e c od t) (hu:Kp e c od u):Kp e c od (if q then t else u):=by split <;> assumption
def Kp.load (a:Addr):Kp e c od (PySem.load a):=⟨fun _ _ _ _ _ _ hd h=>let ⟨o,ho,z⟩:=h;⟨o,ho,z,hd⟩⟩
def Kp.stack:Kp e c od PySem.stack:=⟨fun M Γ P Ee p s hd h=>by
 unfold PySem.stack at h ⊢;rw [Sem.wp_stack] at h ⊢;exact ⟨h,hd⟩⟩
def dq.push {h:Heap} (x:dq e c od h) (o:Obj):dq e c od (h.push o):=let ⟨u,hu,r⟩:=x;⟨u,pc _ hu,r⟩
def dq.update {h:Heap} (x:dq e c od h) (a:Addr) (f:Obj->Obj) (hf:∀ o,(f o).cls=o.cls/\(f o).dict=o.dict/\∀ vs,o.data=.fields vs->∃ ws,(f o).data=.fields ws):dq e c od (h.update a f):=by
 obtain ⟨u,hu,h1,h2,vs,h3⟩:=x;by_cases q:a=e
 ·subst q;obtain ⟨ws,h4⟩:=(hf u).2.2 vs h3;exact ⟨f u,Sc f hu (Obj.isFreed_of_fields h4),(hf u).1.trans h1,(hf u).2.1.trans h2,ws,h4⟩
 ·exact ⟨u,(GM _ _ q).trans hu,h1,h2,vs,h3⟩
def Kp.update (a:Addr) (f:Obj->Obj) (hf:∀ o,(f o).cls=o.cls/\(f o).dict=o.dict/\∀ vs,o.data=.fields vs->∃ ws,(f o).data=.fields ws):Kp e c od (PySem.update a f) :=
 ⟨fun _ _ _ _ _ _ hd h=>⟨h.1,h.2,hd.update a f hf⟩⟩
def Qr (g:Array Value->Array Value) (o:Obj):(Obj.mapFields g o).cls=o.cls/\(Obj.mapFields g o).dict=o.dict/\∀ vs,o.data=.fields vs->∃ ws,(Obj.mapFields g o).data=.fields ws:=by
 obtain ⟨c1,d1,dt,sl⟩:=o;refine ⟨Obj.cls_mapFields _ _,?_,fun vs h=>⟨_,Ja8 h g⟩⟩;cases dt <;> rfl
def Kp.alloc (o:Obj):Kp e c od (PySem.alloc o):=⟨fun _ _ _ _ _ _ hd h=>⟨h,hd.push o⟩⟩
def Kp.field (v:Value) (i:Nat):Kp e c od (PySem.field v i):=⟨fun _ Γ _ _ _ _ hd h=>by
 rw [wp_field_iff] at h ⊢;obtain ⟨a,o,vs,x,h1,h2,h3,h4,h5⟩:=h;exact ⟨a,o,vs,x,h1,h2,h3,h4,h5,hd⟩⟩
def Kp.setField (v:Value) (i:Nat) (x:Value):Kp e c od (PySem.setField v i x):=⟨fun _ Γ _ _ _ _ hd h=>by
 rw [wp_setField_iff] at h ⊢;obtain ⟨a,o,vs,h1,h2,h3,h4,h5⟩:=h;exact ⟨a,o,vs,h1,h2,h3,h4,h5,hd.update a _ (Qr _)⟩⟩
local macro_rules | `(tactic| walk_at "kps")=>`(tactic| repeat' with_reducible first | assumption | exact Kp.pure _ | exact Kp.unsupported _ | exact Kp.field _ _ | exact Kp.setField _ _ _ | exact Kp.load _ | exact Kp.stack | exact Kp.alloc _ | apply Kp.ite | apply Kp.bind | intro _ | split)
def Kp.newFields (ty:String) (vs:List Value):Kp e c od (PySem.newFields ty vs):=by
 unfold PySem.newFields newObj newObjAsIs;walk_at "kps"
def Kp.frameEnvs:Kp e c od PySem.frameEnvs:=by
 unfold PySem.frameEnvs;walk_at "kps"
def Kp.isImport (env:Env) (outer:List Env):Kp e c od (behindIsImport env outer):=by
 unfold behindIsImport;walk_at "kps"
def Kp.caller:Kp e c od underTheClaimsCaller:=by
 unfold underTheClaimsCaller;walk_at "kps"
def Kp.keptBack (env:Env) (i:Bool) (l:List Env):Kp e c od (PySem.keptBack env i l):=by
 have:=Kp.caller (e:=e) (c:=c) (od:=od);cases l <;> unfold PySem.keptBack <;> walk_at "kps"
def Kp.ready:∀ l:List Env,Kp e c od (readyFrames l)
 | []=>Kp.pure _
 | env::outer=>by
  have ih:=Kp.ready outer;have h1:=Kp.isImport (e:=e) (c:=c) (od:=od) env outer;have h2:=fun i=>Kp.keptBack (e:=e) (c:=c) (od:=od) env i outer;unfold readyFrames;walk_at "kps"
  all_goals first | exact h2 _ | exact Kp.update _ _ (fun o=>⟨rfl,rfl,fun vs h=>⟨vs,h⟩⟩) | skip
def Kp.frameObject (l:List Env):Kp e c od (PySem.frameObject l):=by
 cases l with
 | nil=>exact Kp.pure _
 | cons env outer =>
  have:=Kp.ready (e:=e) (c:=c) (od:=od) (env::outer);unfold PySem.frameObject;walk_at "kps"
def Kp.frameOf (env:Env):Kp e c od (PySem.frameOf env):=by
 have h1:=Kp.frameEnvs (e:=e) (c:=c) (od:=od);have h2:=Kp.frameObject (e:=e) (c:=c) (od:=od);unfold PySem.frameOf;walk_at "kps"
 all_goals first | exact h2 _ | skip
def Kp.place (f:Addr) (b:Bool):Kp e c od (entryPlaceOf f b):=by
 unfold entryPlaceOf;walk_at "kps"
def Kp.setFlight (v:Value) (fr:Option Addr):Kp e c od (PySem.setFlight v fr):=by
 unfold PySem.setFlight;walk_at "kps"
def Kp.noteFrame (v:Value) (env:Env):Kp e c od (PySem.noteFrame v env):=by
 have h1:=Kp.frameOf (e:=e) (c:=c) (od:=od) env;have h2:=fun f b=>Kp.place (e:=e) (c:=c) (od:=od) f b;unfold PySem.noteFrame EntryCells.newEntry;walk_at "kps"
 all_goals first | exact h2 _ _ | exact Kp.newFields _ _ | skip
def Kp.leaving (env:Env) (v:Value):Kp e c od (PySem.leaving env v):=by
 have h1:=Kp.noteFrame (e:=e) (c:=c) (od:=od) v env;have h2:=Kp.setFlight (e:=e) (c:=c) (od:=od) v none;unfold PySem.leaving;walk_at "kps"
def Kp.any {t:Sem α} (k:Kp e c od t) {M:Model} {A:Around} {Q:α->Shared->Prop} {E:Value->Shared->Prop} {s:Shared} (hd:dq e c od s.heap) (h:wpAny M A t Q E s):wpAny M A t (fun a s'=>Q a s'/\dq e c od s'.heap) E s :=
 fun Γ p hΓ=>k.out M Γ _ _ p s hd (h Γ p hΓ)
end
end L2
namespace Tx
open PySem PySem.Builtin PySem.StrLaws
def Al (l:List Nat) (n:Nat) (hl:l.length<=2) (hn:n<=2100):MulOk (S l) (n:Int):=by
 refine ⟨?_,fun h1 h2=>?_,fun h1 h2=>?_⟩
 ·rw [decide_eq_false (by omega),decide_eq_false (by omega)];rfl
 ·rw [eB];have h0:(0:Int) < n:=by omega
  have:(2:Int)<=(2 ^ 63 - 1) / (n:Int):=by
   rw [Int.le_ediv_iff_mul_le h0];omega
  omega
 ·unfold PySem.Builtin.Str.tooLong;rw [eB,Int.toNat_natCast];refine decide_eq_false ?_;have:(sizeLine:Nat)=16777216:=sizeLine_eq;have h3:l.length * n<=2 * 2100:=Nat.mul_le_mul hl hn;omega
end Tx
namespace Tx
def xj (c:Nat):∀ (t:List Nat),∀ w∈cut c t,w.length<=t.length
 | [],w,h=>by
  have:w=[]:=by simpa [cut] using h
  rw [this];exact Nat.le_refl _
 | x::r,w,h=>by
  by_cases hx:x=c
  ·rw [R7 hx] at h;rcases List.mem_cons.mp h with e | e
   ·rw [e];exact Nat.zero_le _
   ·exact Nat.le_trans (xj c r w e) (by simp)
  ·cases e:cut c r with
   | nil=>exact absurd e (Sq c r)
   | cons y z =>
    rw [UM hx e] at h;rcases List.mem_cons.mp h with q | q
    ·have:=xj c r y (by rw [e];exact List.mem_cons_self);rw [q,List.length_cons,List.length_cons];omega
    ·exact Nat.le_trans (xj c r w (by rw [e];exact List.mem_cons_of_mem _ q)) (by simp)
def TJ (c:Nat) (t:List Nat) (w:List Nat) (h:w∈words c t):w.length<=t.length:=xj c t w (List.mem_filter.mp h).1
end Tx
namespace L2
def YQ (xs:List V) (k:Nat):gA xs none (some (k:Int))=xs.take k:=by
 unfold gA;rw [HT.B5,HT.Az,List.drop_zero,Nat.sub_zero];by_cases h:k<=xs.length
 ·rw [Nat.min_eq_left h]
 ·rw [Nat.min_eq_right (by omega),UF (sK _),UF (by omega)]
def HM (xs:List V) (k:Nat):gA xs (some (k:Int)) none=xs.drop k:=by
 unfold gA;rw [HT.B5,HT.Az];by_cases h:k<=xs.length
 ·rw [Nat.min_eq_left h,UF (by rw [List.length_drop];exact sK _)]
 ·rw [Nat.min_eq_right (by omega),List.drop_eq_nil_of_le (sK _),List.drop_eq_nil_of_le (by omega)];simp
end L2
namespace L2
open PySem PySem.Spec PyProof.Rows
def bR.there {P:Program} {w:World} {H:Hp} {h:Heap} {a:Addr} {o:HO} (x:bR P w H h a o):∃ u,h.get? a=some u:=by
 cases o with
 | lst xs=>obtain ⟨_,_,_,_,e⟩:=x;exact ⟨_,e⟩
 | tup xs=>obtain ⟨_,_,_,u,e,_⟩:=x;exact ⟨_,e⟩
 | dK kvs=>obtain ⟨_,_,_,_,o,_,_,e,_⟩:=x;exact ⟨_,e⟩
 | dT kvs=>obtain ⟨_,_,_,_,o,_,_,e,_⟩:=x;exact ⟨_,e⟩
 | set S n=>obtain ⟨o,_,_,_,e,_⟩:=x;exact ⟨_,e⟩
 | ins C dx fs=>obtain ⟨_,_,_,e,_⟩:=x;exact ⟨_,e⟩
 | own y=>exact x
 | xd fs=>obtain ⟨_,⟨_,_,_,e,_⟩,_⟩:=x;exact ⟨_,e⟩
 | wX lo hi=>obtain ⟨_,_,_,e⟩:=x;exact ⟨_,e⟩
 | cO ob u=>obtain ⟨e,_⟩:=x;exact ⟨_,e⟩
 | mM ps=>exact ⟨_,(show h.get? a=some _ from x)⟩
 | met f y=>exact ⟨_,(show h.get? a=some _ from x)⟩
 | ext φ=>obtain ⟨_,e,_⟩:=x;exact e
def rM (B:Heap) (fs:List Addr) (h:Heap) (H':Hp) (h':Heap):Prop :=
 ∀ b o,h'.get? b=some o->b ∉ fs->((∃ u,h.get? b=some u)\/∃ u,H' b=some u)->B.get? b=some o
def F2 {P:Program} {w:World} {fs:List Addr} {H H':Hp} {h h1 h2 B:Heap} (u:Un fs [] H H' h h1) (ay:cg P w H' h1) (hf:∀ b∈fs,H b=none/\∃ o,h.get? b=some o/\∀ vs,o.data≠.fields vs) (gN:rM B fs h H' h1)
  (st:B.StaysIn h2) (up:h1.UpToSlots h2):Un fs [] H H' h h2/\cg P w H' h2:=by
 have kB:∀ b o,h1.get? b=some o->b ∉ fs->((∃ u,h.get? b=some u)\/∃ u,H' b=some u)->h2.get? b=some o:=fun b o e hb z=>st b o (gN b o e hb z);have fr:∀ b∈fs,∀ o,h.get? b=some o->∃ sl,h2.get? b=some { o with slots:=sl }:=fun b hb o e=>by
  obtain ⟨n,o',e',nf⟩:=hf b hb;rw [e] at e';cases e';obtain ⟨sl,e1⟩:=u.slot b o e n hb (by simp);obtain ⟨sl',e2⟩:=up b _ e1 nf;exact ⟨sl',e2⟩
 refine ⟨⟨fun b o q n hb hx=>kB b o (u.keep b o q n hb hx) hb (.inl ⟨o,q⟩),fun b o q n hb hx=>fr b hb o q,u.free,fun b o q hx=>?_,u.fJ,u.fj,u.fQ⟩,fun a v e=>?_⟩
 ·by_cases hb:b∈fs
  ·obtain ⟨sl,e⟩:=fr b hb o q;exact ⟨_,e⟩
  ·obtain ⟨o',e1⟩:=u.there b o q hx;exact ⟨o',kB b o' e1 hb (.inl ⟨o,q⟩)⟩
 ·have tr:∀ b,(∃ u,H' b=some u)->b ∉ fs:=fun b ⟨v',e'⟩ hb=>by
   obtain ⟨n,o,ho,_⟩:=hf b hb;have:=u.free b o ho n (by simp);rw [e'] at this;cases this
  refine (ay a v e).gH (fun b x hb q=>?_) (fun _ q=>q) fun _ _ q=>q;have hs:∃ u,H' b=some u:=by
   rcases hb with rfl | hb
   ·exact ⟨v,e⟩
   ·exact ⟨_,hb⟩
  exact kB b x q (tr b hs) (.inr hs)
structure nI (P:Program) (w:World) (outer:List Env) (H:Hp) (s:Shared) (ea C:Addr) (od:Option Addr) (H':Hp) (s':Shared):Prop where
 os:s'.os=s.os
 bare:AllBare s'.gens
 un:Un (bL outer) [] H H' s.heap s'.heap
 ay:cg P w H' s'.heap
 free:H' ea=none
 new:s.heap.get? ea=none
 hd:dq ea (.ref C) od s'.heap
 Lv:∃ B a0,Heap.FlyingW B outer ea (.ref C) a0 s'.heap/\rM B (bL outer) s.heap H' s'.heap
def bC (P:Program) (w:World):dW:=fun outer H s E e s'=>∃ ea C od H',e=.ref ea/\nI P w outer H s ea C od H' s'/\E (.ref C) od H'
def aA.cx {P:Program} {w:World} {K:ν} {mg:Str->Option Value} {base:Heap} {CX:dW} {k:Nat} {f:Addr} {fd:FuncData} {ps:List Str} {sp:Sp} (F:aA P w K mg base aM k f fd ps sp):aA P w K mg base CX k f fd ps sp :=
 ⟨F.len,fun A outer s H args us vs Q E hr he hb hv hs=>_b (F.run A outer s H args us vs Q E hr he hb hv hs) fun r s' z=>by
  cases r with
  | error e=>exact False.elim z
  | ok fl=>cases fl <;> exact z⟩
section
variable {X:Cx} {π:List (Addr×Obj)} {σ:St} {H H':Hp} {s s':Shared} {ea C:Addr} {od:Option Addr}
def Inv.G6 (I:Inv X π σ H s):∀ b∈bL X.stack,H b=none/\∃ o,s.heap.get? b=some o/\∀ vs,o.data≠.fields vs:=fun b hb=>⟨I.vN b hb,(I.stack.mem hb).2⟩
structure Own (X:Cx):Prop where
 dO:X.stack=X.env::X.outer
 frame:X.env.frame=some X.env.locals
 ex:X.ex=[]
def Inv.yJ {h1 B:Heap} {a0:Value} (I:Inv X π σ H s) (O:Own X) (os:s'.os=s.os) (bare:AllBare s'.gens) (un:Un (bL X.stack) [] H H' s.heap h1) (ay:cg X.prog X.w H' h1) (free:H' ea=none) (new:s.heap.get? ea=none)
  (gN:rM B (bL X.stack) s.heap H' h1) (fl:Heap.FlyingW B X.outer ea (.ref C) a0 s'.heap) (up:h1.UpToSlots s'.heap) (hd:dq ea (.ref C) od s'.heap):nI X.prog X.w X.outer X.H₀ X.s₀ ea C od H' s':=by
 obtain ⟨u2,hok2⟩:=F2 un ay I.G6 gN fl.1 up;have Fu:bL X.stack=X.env.locals::X.fs:=by
  rw [O.dO];unfold bL;rw [_f,O.frame];rfl
 have uV:∀ b o,X.s₀.heap.get? b=some o->b≠X.env.locals:=fun b o e=>zn (wE (u8 e) I.ok.above);have nx:∀ b:Addr,b ∉ X.ex:=fun b=>by rw [O.ex];simp
 have eR:∀ b o,X.s₀.heap.get? b=some o->b ∉ X.fs->b ∉ bL X.stack:=fun b o e hb z=>by
  rw [Fu] at z;rcases lv.mp z with q | q
  ·exact uV b o e q
  ·exact hb q
 have Lfree:H' X.env.locals=none:=by
  obtain ⟨m,⟨o,_,_,ho,_⟩,_⟩:=I.loc;exact un.free _ o ho I.free (by simp)
 refine ⟨os.trans I.os,bare,⟨fun b o q n hb _=>?_,fun b o q n hb _=>?_,fun b o q n _=>?_,fun b o q _=>?_,fun b xs q=>?_,fun b o v q=>?_,fun b ps q=>?_⟩,hok2,free,?_,hd,B,a0,fl,fun b o e hb z=>?_⟩
 ·exact u2.keep b o (I.base.keep b o q n hb (nx b)) (I.base.free b o q n (nx b)) (eR b o q hb) (by simp)
 ·obtain ⟨sl,e1⟩:=I.base.slot b o q n hb (nx b);obtain ⟨sl',e2⟩:=u2.slot b _ e1 (I.base.free b o q n (nx b)) (by rw [Fu];exact Db _ hb) (by simp);exact ⟨sl',e2⟩
 ·obtain ⟨o',e1⟩:=I.base.there b o q (nx b);exact u2.free b o' e1 (I.base.free b o q n (nx b)) (by simp)
 ·obtain ⟨o',e1⟩:=I.base.there b o q (nx b);exact u2.there b o' e1 (by simp)
 ·exact u2.fJ b xs (I.base.fJ b xs q)
 ·exact u2.fj b o v (I.base.fj b o v q)
 ·obtain ⟨m1,e1⟩:=I.base.fQ b ps q;obtain ⟨m2,e2⟩:=u2.fQ b _ e1;exact ⟨m1++m2,by rw [e2,Array.append_assoc]⟩
 ·cases q:X.s₀.heap.get? ea with
  | none=>rfl
  | some u =>
   obtain ⟨u',e'⟩:=I.base.there ea u q (nx ea);rw [new] at e';cases e'
 ·have hn:b ∉ bL X.stack:=fun z'=>by
   rw [Fu] at z';rcases lv.mp z' with q | q
   ·rcases z with ⟨o',e'⟩ | ⟨v,e'⟩
    ·exact uV b o' e' q
    ·rw [q,Lfree] at e';cases e'
   ·exact hb q
  have hs:∃ o',h1.get? b=some o'/\((∃ u,s.heap.get? b=some u)\/∃ u,H' b=some u):=by
   rcases z with ⟨o',e'⟩ | ⟨v,e'⟩
   ·obtain ⟨o2,e2⟩:=I.base.there b o' e' (nx b);obtain ⟨o3,e3⟩:=un.there b o2 e2 (by simp);exact ⟨o3,e3,.inl ⟨o2,e2⟩⟩
   ·obtain ⟨o3,e3⟩:=(ay b v e').there;exact ⟨o3,e3,.inr ⟨v,e'⟩⟩
  obtain ⟨o3,e3,z3⟩:=hs;have e4:=gN b o3 e3 hn z3;have e5:=fl.1 b o3 e4;rw [e] at e5;cases e5;exact e4
def Inv.HZ {M:Model} {A:Around} {E:Value->Shared->Prop} (I:Inv X π σ H s) (O:Own X) (hA:A.frames=some X.stack) (F:nI X.prog X.w X.stack H s ea C od H' s') :
  wpAny M A (leaving X.env (.ref ea)) (fun _ s''=>nI X.prog X.w X.outer X.H₀ X.s₀ ea C od H' s'') E s':=by
 obtain ⟨B,a0,fl,gN⟩:=F.Lv;have fl':=fl;rw [O.dO] at fl' hA;refine aB ((Kp.leaving X.env (.ref ea)).any F.hd (wpAny_leaves_onW (Q:=fun _ s''=>∃ h',s''={ s' with heap:=h' }/\Heap.FlyingW B X.outer ea (.ref C) a0 h'/\s'.heap.UpToSlots h') hA O.frame fl' fun h' x1 x2=>⟨h',rfl,x1,x2⟩)) fun _ s'' ⟨⟨h',e,x1,x2⟩,hd⟩=>?_;subst e;exact I.yJ (s':={ s' with heap:=h' }) O F.os F.bare F.un F.ay F.free F.new gN x1 x2 hd
def Im {h h':Heap} {e:Addr} {cls:Value} {args:List Value} (hx:Heap.MadeExcOf h h' e cls args):dq e cls none h':=by
 obtain ⟨t,he,_⟩:=hx.there;exact ⟨_,he,rfl,rfl,_,rfl⟩
def Inv.Vj {M:Model} {A:Around} {E:Value->Shared->Prop} {h':Heap} {vs:List Value} (I:Inv X π σ H s) (O:Own X) (hA:A.frames=some X.stack) (hx:Heap.MadeExcOf s.heap h' ea (.ref C) vs) :
  wpAny M A (leaving X.env (.ref ea)) (fun _ s''=>nI X.prog X.w X.outer X.H₀ X.s₀ ea C none H s'') E { s with heap:=h' }:=by
 have aJ:(W.hideAll s.heap (bL X.stack)).StaysIn s.heap:=fun b o q=>Ja3 _ q;have hX:s.heap.FunFrames (W.hideAll s.heap (bL X.stack)) X.stack:=W.funFrames_hide I.stack fun env he a ha=>_H.mpr ⟨env,he,ha⟩;have mT:H ea=none:=by
  cases q:H ea with
  | none=>rfl
  | some u =>
   obtain ⟨o,e⟩:=(I.ay ea u q).there;have:=hx.new;rw [e] at this;cases this
 have gN:rM (W.hideAll s.heap (bL X.stack)) (bL X.stack) s.heap H h':=fun b o e hb z=>by
  have hs:∃ u,s.heap.get? b=some u:=by
   rcases z with z | ⟨v,z⟩
   ·exact z
   ·exact (I.ay b v z).there
  obtain ⟨u,eu⟩:=hs;have:=hx.keeps b u eu;rw [e] at this;cases this;exact _5 _ eu hb
 generalize W.hideAll s.heap (bL X.stack)=B at aJ hX gN;have hfr':=hX;rw [O.dO] at hfr' hA;refine aB ((Kp.leaving X.env (.ref ea)).any (s:={ s with heap:=h' }) (Im hx) (wpAny_leaves_madeW (s:={ s with heap:=h' }) (Q:=fun _ s''=>∃ h2 t,s''={ s with heap:=h2 }/\Heap.FlyingW B X.outer ea (.ref C) (.ref t) h2/\h'.UpToSlots h2) hA O.frame aJ hfr' hx
  fun h2 t x1 _ _ x4=>⟨h2,t,rfl,x1,x4⟩)) fun _ s'' ⟨⟨h2,t,e,x1,x4⟩,hd⟩=>?_
 subst e;exact I.yJ (s':={ s with heap:=h2 }) O rfl I.bare (Un.kept hx.keeps) (I.ay.kept hx.keeps) mT hx.new gN x1 x4 hd
structure gU (X:Cx) (R:St->XK):Prop where
 pass:∀ (π:List (Addr×Obj)) (σ:St) (H:Hp) (s:Shared) (e:Value) (s':Shared),Inv X π σ H s->bC X.prog X.w X.stack H s (R σ) e s'->X.xe e s'
structure Raises (X:Cx) (R:St->XK):Prop where
 made:∀ (π:List (Addr×Obj)) (σ:St) (H:Hp) (s:Shared) (h':Heap) (ea C:Addr) (vs:List Value),Inv X π σ H s->Heap.MadeExcOf s.heap h' ea (.ref C) vs->R σ (.ref C) none H->X.xe (.ref ea) { s with heap:=h' }
def cA {P:Program} {w:World} {K:ν} {mg:Str->Option Value} {base:Heap} {N:List Str} {qual:Str} {scope:Scope} {f:Addr} {cd:Value} {A:Around} {outer:List Env} {s₀:Shared} {H₀:Hp} {E:XK} :
  gU (df (bC P w) P w K mg base N qual scope f cd A outer s₀ H₀ E) (fun _=>E) where
 pass:=fun π σ H s e s' I hc=>by
  obtain ⟨ea,C,od,H',rfl,F,hE⟩:=hc;exact aB (I.HZ ⟨rfl,rfl,rfl⟩ I.ok.frames F) fun _ s'' z=>⟨ea,C,od,H',rfl,z,hE⟩
def lS {P:Program} {w:World} {K:ν} {mg:Str->Option Value} {base:Heap} {N:List Str} {qual:Str} {scope:Scope} {f:Addr} {cd:Value} {A:Around} {outer:List Env} {s₀:Shared} {H₀:Hp} {E:XK} :
  Raises (df (bC P w) P w K mg base N qual scope f cd A outer s₀ H₀ E) (fun _=>E) where
 made:=fun π σ H s h' ea C vs I hx hE=>aB (I.Vj ⟨rfl,rfl,rfl⟩ I.ok.frames hx) fun _ s'' z=>⟨ea,C,none,H,rfl,z,hE⟩
def AU (sp:Sp) (bj:List V) (R:St->XK) (t:TA):TE:=fun σ H Q=>t σ H fun vs H1=>sp (vs++bj) H1 Q (R σ)
section
variable {k:Nat} {f:Addr} {fd:FuncData} {ps:List Str} {sp:Sp} {bj:List V} {ds:List Value} {R:St->XK} {x:Str} {p pos:Pos} {e:Expr} {es:List Expr} {t:TA}
def IB {Q:VK} {us:List Value} {vs:List V} (F:aA X.prog X.w X.K X.mg X.base (bC X.prog X.w) k f fd ps sp) (hr:bb k X.A) (hb:Binds X.K fd ps ds) (hd:Vals bj ds) (hx:gU X R)
  (I:Inv X π σ H s) (r:Vals vs us) (h:sp (vs++bj) H Q (R σ)):wpAny (model X.prog X.w) X.A (call (.ref f) us) (EP X π σ Q) X.xe s:=by
 have r2:Vals (vs++bj) (us++ds):=r.append hd;have hl:(us++ds).length=ps.length:=by rw [<- r2.length];exact F.len _ _ _ _ h
 refine WP (_b (F.run X.A X.stack s H ⟨us,[]⟩ (us++ds) (vs++bj) Q (R σ) hr I.qQ (hb s us I.bX hl) r2 h) fun r s' hq=>?_);cases r with
 | error e=>exact hx.pass π σ H s e s' I hq
 | ok fl =>
  cases fl with
  | ret u=>exact I.after hq
  | next=>exact False.elim hq
  | brk=>exact False.elim hq
  | cont=>exact False.elim hq
def XJ (F:aA X.prog X.w X.K X.mg X.base (bC X.prog X.w) k f fd ps sp) (hr:bb k X.A) (hg:Gl X x) (hm:X.mg x=some (.ref f)) (hk:W.keepIn X.K (.ref f)=true) (hb:Binds X.K fd ps ds) (hd:Vals bj ds) (hx:gU X R)
  (ha:PA X (e::es) t) (hs:(e::es).all noStar=true:=by rfl) (bM:(x == ("__debug__":Str))=false:=by decide):PE X (.Call (.Name x p) (e::es) [] pos) (AU sp bj R t):=by
 have hs':=hs;rw [KK,AC] at hs';intro π s σ H Q I h;refine FM (kJ I hg hm ?_ bM);refine ST (h₀:=X.base) I.ok.mod.il hk (aB (ha pos π s σ H _ I h) fun us s1 ⟨vs,H1,I1,r,q⟩=>⟨I1.bX,?_⟩) (fS hs'.1) (iH hs'.2);exact IB F hr hb hd hx I1 r q
end
end
abbrev ux:List Value:=[.type "ValueError",.type "Exception",.type "BaseException",.type "object"]
def UI {K:ν} {h:Heap} {C:Addr} {M8:List Value} {newId:String} (X:K.In h) (q:W.excIn K C M8 newId=true) :
  ∃ bm N nm q bs hdct sn sub ab col dd k0 k1 k2 k3 k5 mN,h.get? C=some (excClassObj nm q C N bs bm hdct sn sub ab col dd k0 k1 k2 k3 k5 newId)/\h.Ns N mN/\mN "__init__" = none/\OwnTail h M8 bm:=by
 unfold W.excIn at q;split at q
 ·rename_i dd cd sl ho;split at q
  ·rename_i C' bm k0 k1 k2 k3 n k5 hm hs;simp only [AC,WF,Bool.not_eq_true'] at q;obtain ⟨⟨⟨⟨⟨q1,q2⟩,q3⟩,q4⟩,q5⟩,q6⟩:=q;subst q1 q2;obtain ⟨nm,bs,mro,ns,qn,hd,sn,sub,ab,col,del⟩:=cd;dsimp only at hm q3 q5 q6;subst hm q3;have e1:sl=#[k0,k1,k2,k3,some (.builtin n),k5]:=by
    obtain ⟨l⟩:=sl;simp only at hs;rw [hs]
   subst e1;exact ⟨bm,ns,nm,qn,bs,hd,sn,sub,ab,col,dd,k0,k1,k2,k3,k5,_,X _ _ ho,.of_isNs (W.isNs_of_in X q5),W.nsMap_none_of_in X q5 q6,W.tail_of_in X q4⟩
  ·cases q
 ·cases q
def B4 (C:Addr) (R:St->XK) (t:TA):TS:=fun _ σ H=>t σ H fun vs H1=>vs.length<=sizeLine/\R σ (.ref C) none H1
def Rc {X:Cx} {R:St->XK} {x:Str} {C:Addr} {e:Expr} {es:List Expr} {t:TA} {np bh pos:Pos} (hx:Raises X R) (hc:X.calm=true) (hm:X.mg x=some (.ref C)) (q:W.excIn X.K C ux "ValueError.__new__" = true) (ha:PA X (e::es) t)
  (hg:Gl X x:=by rfl) (hs:(e::es).all noStar=true:=by rfl) (bM:(x == ("__debug__":Str))=false:=by decide):PS X (.Raise (some (.Call (.Name x np) (e::es) [] bh)) none pos) (B4 C R t):=by
 have hs':=hs;rw [KK,AC] at hs';intro π s σ H D I h;obtain ⟨bm,N,nm,qn,bs,hdct,sn,sub,ab,col,dd,k0,k1,k2,k3,k5,mN,hC,hN,hni,T⟩:=UI I.ok.mod.il q;refine wpAny_Raise_call_subT (C:=C) (nm:=nm) (q:=qn) (N:=N) (bs:=bs) (bm:=bm) (hdct:=hdct) (sn:=sn) (sub:=sub) (ab:=ab) (col:=col) (dd:=dd) (k0:=k0) (k1:=k1) (k2:=k2) (k3:=k3) (k5:=k5)
  _w (mN:=mN) (T.hasType _w.hasBase) (I.ok.hd hc) (by rw [fS hs'.1];exact iH hs'.2) hni (kJ I hg hm ⟨rfl,?_⟩ bM)
 have ha':=ha bh π s σ H _ I h;rw [fS hs'.1] at ha' ⊢;refine _d (aB ha' fun us s2 ⟨vs,H2,I2,r,z,hR⟩=>?_);exact ⟨rfl,by rw [<- r.length];exact z,I2.bk _ _ hC,hN.keeps I2.bk,T.keeps I2.bk,fun h' ea hm'=>hx.made π σ H2 s2 h' ea C us I2 hm' hR⟩
def lb (ea C:Addr) (od:Option Addr):HO:=.ext (dq ea (.ref C) od)
def Rt {P:Program} {w:World} {H:Hp} {h:Heap} {ea C:Addr} {od:Option Addr} (x:dq ea (.ref C) od h):bR P w H h ea (lb ea C od) :=
 ⟨x,let ⟨o,e,_⟩:=x;⟨o,e⟩,fun _ _ ⟨o,e,r⟩ k=>⟨o,k o e,r⟩⟩
abbrev Cx.kD (X:Cx) (v:Value):Cx:={ X with A:=X.A.mark (some v),calm:=false,xe:=fun _ _=>False }
abbrev Cx.oE (X:Cx) (π:List (Addr×Obj)) (R:St->XK):Cx:={ X with pn:=X.pn++π,xe:=fun e s'=>∃ (σ':St) (H H':Hp) (s:Shared) (ea C:Addr) (od:Option Addr),Inv X π σ' H s/\e=.ref ea/\nI X.prog X.w X.stack H s ea C od H' s'/\R σ' (.ref C) od H' }
section
variable {X:Cx} {π π':List (Addr×Obj)} {σ:St} {H H':Hp} {s s':Shared} {R:St->XK} {v:Value}
def Inv.kD (I:Inv X π σ H s) (v:Value):Inv (X.kD v) π σ H s :=
 ⟨⟨I.ok.mod,I.ok.kind,I.ok.glob,I.ok.blt,I.ok.above,I.ok.inj,I.ok.has,I.ok.kK,(fun z=>Bool.noConfusion z),I.ok.frames,I.ok.dO,I.ok.r6,I.ok.bs,I.ok.gY,I.ok.lX,I.ok.mj,I.ok.fz,I.ok.jk⟩,
  I.os,I.bare,I.base,I.loc,I.cell,I.free,I.eU,I.pin,I.ay,I.len⟩
def Inv.Wj (I:Inv (X.kD v) π σ H s) (ok:X.Ok):Inv X π σ H s:=⟨ok,I.os,I.bare,I.base,I.loc,I.cell,I.free,I.eU,I.pin,I.ay,I.len⟩
def Inv.oE (I:Inv X π σ H s) (R:St->XK):Inv (X.oE π R) [] σ H s :=
 ⟨⟨I.ok.mod,I.ok.kind,I.ok.glob,I.ok.blt,I.ok.above,I.ok.inj,I.ok.has,I.ok.kK,I.ok.hd,I.ok.frames,I.ok.dO,I.ok.r6,I.ok.bs,I.ok.gY,I.ok.lX,I.ok.mj,I.ok.fz,I.ok.jk⟩,
  I.os,I.bare,I.base,I.loc,I.cell,I.free,I.eU,fun p hp=>I.pin p (by simpa using hp),I.ay,I.len⟩
def Inv.sJ (I:Inv (X.oE π R) π' σ H s):Inv X π σ H s :=
 ⟨⟨I.ok.mod,I.ok.kind,I.ok.glob,I.ok.blt,I.ok.above,I.ok.inj,I.ok.has,I.ok.kK,I.ok.hd,I.ok.frames,I.ok.dO,I.ok.r6,I.ok.bs,I.ok.gY,I.ok.lX,I.ok.mj,I.ok.fz,I.ok.jk⟩,
  I.os,I.bare,I.base,I.loc,I.cell,I.free,I.eU,fun p hp=>I.pin p (_a _ hp),I.ay,I.len⟩
def TQ:gU (X.oE π R) R:=⟨fun π' σ H s e s' I hc=>by
 obtain ⟨ea,C,od,H',rfl,F,hE⟩:=hc;exact ⟨σ,H,H',s,ea,C,od,I.sJ,rfl,F,hE⟩⟩
def Inv.rQ {a:Addr} {o:HO} (I:Inv X π σ H s) (hn:H a=none) (n0:X.s₀.heap.get? a=none) (nL:a≠X.env.locals) (nC:∀ x c,X.env.cells.lookup x=some c->c≠a) (nP:∀ p∈X.pn++π,p.1≠a)
  (new:bR X.prog X.w (upd H a o) s.heap a o):Inv X π σ (upd H a o) s:=by
 have ne:∀ b u,H b=some u->b≠a:=fun b u e=>gg e hn;have n0':∀ b u,X.s₀.heap.get? b=some u->b≠a:=fun b u e z=>by rw [z,n0] at e;cases e
 refine ⟨I.ok,I.os,I.bare,⟨I.base.keep,I.base.slot,fun b u e n hx=>by rw [ag (n0' b u e)];exact I.base.free b u e n hx,I.base.there,fun b xs e=>by have:=I.base.fJ b xs e;rw [ag (ne b _ this)];exact this,
  fun b u v e=>by have:=I.base.fj b u v e;rw [ag (ne b _ this)];exact this,fun b ps e=>?_⟩,I.loc,I.cell,by rw [ag (pp nL)];exact I.free,fun x c e=>by rw [ag (nC x c e)];exact I.eU x c e,fun p hp=>?_,fun b u e=>?_,I.len⟩
 ·obtain ⟨m,e1⟩:=I.base.fQ b ps e;exact ⟨m,by rw [ag (ne b _ e1)];exact e1⟩
 ·obtain ⟨e1,e2,r⟩:=I.pin p hp;exact ⟨e1,by rw [ag (nP p hp)];exact e2,r⟩
 ·by_cases hb:b=a
  ·subst hb;rw [au] at e;cases e;exact new
  ·rw [ag hb] at e;exact (I.ay b u e).gH (fun _ _ _ q=>q) (fun c q=>by rw [ag (ne c _ q)];exact q) fun c xs q=>by rw [ag (ne c _ q)];exact q
def Inv.WM {i:Nat} {n:Str} {m:Str->Option Value} {h8:Heap} {v:Option Value} {t8:Nat} (I:Inv X π σ H s) (hN:X.N.Nodup) (hi:X.N[i]?=some n)
  (hl:∀ (i:Nat) (x:Str) (v:V),X.N[i]?=some x->σ[i]?=some (some v)->lR X.env.scope x->∃ u,RelV v u/\Look X.env s.heap m x u)
  (E1:h8.Ns X.env.locals (fun x=>if x=n then v else m x)) (sb:Heap.SameBut X.env.locals s.heap h8):Inv X π (σ.set i none) H { s with heap:=h8,toks:=t8 }:=by
 have old:∀ b o,X.s₀.heap.get? b=some o->h8.get? b=s.heap.get? b:=fun b o e=>sb.2 b (zn (wE (u8 e) I.ok.above));refine ⟨I.ok,I.os,I.bare,⟨fun b o e n' hb hx=>(old b o e).trans (I.base.keep b o e n' hb hx),fun b o e n' hb hx=>?_,I.base.free,fun b o e hx=>?_,I.base.fJ,I.base.fj,I.base.fQ⟩,⟨_,E1,fun j y v' e1 e2 e3=>?_⟩,fun y c e=>?_,I.free,I.eU,fun p hp=>?_,fun b u e=>?_,by simpa using I.len⟩
 ·obtain ⟨sl,e1⟩:=I.base.slot b o e n' hb hx;exact ⟨sl,(old b o e).trans e1⟩
 ·obtain ⟨o',e1⟩:=I.base.there b o e hx;exact ⟨o',(old b o e).trans e1⟩
 ·by_cases hj:j=i
  ·subst hj;have bO:j < σ.length:=by rw [I.len];exact (ul.mp hi).1
   rw [On bO] at e2;cases e2
  ·rw [No (pp hj)] at e2;obtain ⟨u',r',q⟩:=hl j y v' e1 e2 e3;refine ⟨u',r',?_⟩;rcases q with ⟨k,e⟩ | ⟨k,c,e,z⟩
   ·refine .inl ⟨k,?_⟩;have:y≠n:=fun e=>hj (Dj hN e1 (e ▸ hi));simp [this,e]
   ·exact .inr ⟨k,c,e,z.sameBut sb (I.jZ y c e)⟩
 ·obtain ⟨w',z⟩:=I.cell y c e;exact ⟨w',z.sameBut sb (I.jZ y c e)⟩
 ·obtain ⟨e,n',ne,nf,d⟩:=I.pin p hp;exact ⟨(sb.2 p.1 ne).trans e,n',ne,nf,d⟩
 ·refine (I.ay b u e).gH (fun c w' hc q=>(sb.2 c ?_).trans q) (fun _ q=>q) fun _ _ q=>q;rintro rfl;have hf:=I.free;rcases hc with z | z
  ·rw [z] at hf;rw [hf] at e;cases e
  ·rw [hf] at z;cases z
end
def acf {K:ν} {M:Model} {A:Around} {E:Value->Shared->Prop} {s:Shared} {e C Cc:Addr} {od:Option Addr} {Q:Bool->Shared->Prop} (X:K.In s.heap) (hd:dq e (.ref C) od s.heap) (h1:W.instIn K (.ref Cc) (.type "tuple")=some false)
  (h2:W.mroIn K Cc (.type "BaseException")=some true) (h3:W.subIn K (.ref C) (.ref Cc)=some true) (hq:Q true s):wpAny M A (excMatches (.ref e) (.ref Cc)) Q E s:=by
 obtain ⟨o,he,hc,_⟩:=hd;have L1:=W.looks_instIn (M:=M) X h1;have L2:=_i (M:=M) X h2;have L3:=W.looks_subIn (M:=M) X h3;have L4:W.Looks M s.heap (isType (.ref Cc)) true:=by
  obtain ⟨cd,bo,_⟩:=Option.bind_eq_some_iff.mp h2;unfold W.clsIn at bo;split at bo
  ·rename_i c' d' cd' sl' ho;intro A' Q' E' s' k q;unfold isType loadHead;exact li (_j (k _ _ (X _ _ ho)) (sw q))
  ·cases bo
 have L5:W.Looks M s.heap (typeOf (.ref e)) (.ref C):=hc ▸ (_k he).andThen .now;have L6:W.Looks M s.heap (isExcClass (.ref Cc)) true:=L4.andThen L2;obtain ⟨hh,g,d,t,os⟩:=s;unfold excMatches;refine li (L1.at ?_);simp only [Ix,_c,pure_bind];simp only [List.forIn_cons,List.forIn_nil,bind_assoc,pure_bind];refine li (L6.at ?_);simp only [_C,Ix,_c,bind_assoc,pure_bind];refine li (L5.at (li (L3.at ?_)));simp only [Ja2,pure_bind];exact sw hq
def Ends.DM (D:Ends) (i:Nat):Ends:=⟨fun σ H=>D.nx (σ.set i none) H,D.rt,fun σ H=>D.bk (σ.set i none) H,fun σ H=>D.ct (σ.set i none) H⟩
def Ga (K:ν) (Cc:Addr) (i:Nat) (tb:(St->XK)->TS) (th:TS):TS:=fun D σ H=>∃ R:St->XK,tb R D σ H/\∀ σ' C od H',R σ' (.ref C) od H'->W.subIn K (.ref C) (.ref Cc)=some true /\
 ∀ ea,H' ea=none->th (D.DM i) (σ'.set i (some (.ref ea))) (upd H' ea (lb ea C od))
def acN {X:Cx} {K:ν} {Cc:Addr} (i:Nat) {n x:Str} {body oU:List Stmt} {b₀:Stmt} {np hpos pos:Pos} {tb:(St->XK)->TS} {th:TS} (hK:X.K=K) (O:Own X) (hN:X.N.Nodup) (hm:X.mg x=some (.ref Cc))
  (c1:W.instIn X.K (.ref Cc) (.type "tuple")=some false) (c2:W.mroIn X.K Cc (.type "BaseException")=some true)
  (hb:∀ π R,dz (X.oE π R) body (tb R)) (hs:∀ v,dz (X.kD v) (b₀::oU) th) (hg:Gl X x:=by rfl) (hi:X.N[i]?=some n:=by rfl) (hn:X.env.scope.names.lookup n=some .local:=by rfl) (bM:(x == ("__debug__":Str))=false:=by decide) :
  PS X (.Try body [.ExceptHandler (some (.Name x np)) (some n) (b₀::oU) hpos] [] [] pos) (Ga K Cc i tb th):=by
 subst hK;intro π s σ H D I h;obtain ⟨R,hb',hh⟩:=h;refine wpAny_Try_except (IR (hb π R [] s σ H D (I.oE R) hb') (fun f s1 z=>?_) fun e s1 z=>?_)
 ·cases f with
  | next=>obtain ⟨σ',H',I',q⟩:=z;exact _E ⟨σ',H',I'.sJ,q⟩
  | ret u=>obtain ⟨v,σ',H',I',r,q⟩:=z;exact ⟨v,σ',H',I'.sJ,r,q⟩
  | brk=>obtain ⟨σ',H',I',q⟩:=z;exact ⟨σ',H',I'.sJ,q⟩
  | cont=>obtain ⟨σ',H',I',q⟩:=z;exact ⟨σ',H',I'.sJ,q⟩
 ·obtain ⟨σ',H0,H',s0,ea,C,od,I0,rfl,F,hR⟩:=z;obtain ⟨hsub,aK⟩:=hh σ' C od H' hR;obtain ⟨B,a0,fl,gN⟩:=F.Lv;have hA:X.A.frames=some (X.env::X.outer):=by rw [<- O.dO];exact I.ok.frames
  rw [O.dO] at fl;refine aB ((Kp.noteFrame (.ref ea) X.env).any F.hd (wpAny_looks_onW (Q:=fun _ s2=>∃ h2,s2={ s1 with heap:=h2 }/\Heap.HeldW B (X.env::X.outer) ea (.ref C) a0 X.env.locals h2/\s1.heap.UpToSlots h2) hA O.frame fl fun h2 x1 x2=>⟨h2,rfl,x1,x2⟩))
   fun _ s2 ⟨⟨h2,e2,held,NC⟩,hd2⟩=>?_
  subst e2;refine aB ((Kp.setFlight (.ref ea) none).any (s:={ s1 with heap:=h2 }) hd2 (wpAny_landsW (s:={ s1 with heap:=h2 }) (Q:=fun _ s3=>∃ h3,s3={ s1 with heap:=h3 }/\Heap.FlyingW B (X.env::X.outer) ea (.ref C) a0 h3/\h2.UpToSlots h3) held fun h3 x1 x2=>⟨h3,rfl,x1,x2⟩))
   fun _ s3 ⟨⟨h3,e3,Mx,MJ⟩,Ob⟩=>?_
  subst e3;have step:∀ h4:Heap,B.StaysIn h4->s1.heap.UpToSlots h4->Inv X π σ' H' { s1 with heap:=h4 }:=fun h4 st up=>by
   obtain ⟨u,ay⟩:=F2 F.un F.ay I0.G6 gN st up;exact I0.GV (s':={ s1 with heap:=h4 }) (ch:=[]) F.os u ay F.bare (fun b z=>absurd z (by simp))
  have I3:=step h3 Mx.1 (NC.trans MJ);refine wpAny_handleBy_cons (codeAny_handlers_test (kJ (I3.kD (.ref ea)) hg hm ?_ bM)) (by intro q;cases q);refine acf I3.bX Ob c1 c2 hsub ?_;refine codeAny_handlers_suite_as ?_;refine aB ((Kp.setFlight (.ref ea) none).any (s:={ s1 with heap:=h3 }) Ob (lands_againW (s:={ s1 with heap:=h3 }) (Q:=fun _ s4=>∃ h4,s4={ s1 with heap:=h4 }/\Heap.FlyingW B (X.env::X.outer) ea (.ref C) a0 h4/\h3.UpToSlots h4) Mx fun h4 x1 x2=>⟨h4,rfl,x1,x2⟩))
   fun _ s4 ⟨⟨h4,e4,fl4,up4⟩,qW⟩=>?_
  subst e4;have I4:=step h4 fl4.1 ((NC.trans MJ).trans up4);have eR:∀ b,(∃ o,s0.heap.get? b=some o)->b≠ea:=fun b ⟨o,e⟩ z=>by rw [z,F.new] at e;cases e
  have I5:Inv X π σ' (upd H' ea (lb ea C od)) { s1 with heap:=h4 }:=by
   refine I4.rQ F.free ?_ ?_ ?_ ?_ (Rt qW)
   ·cases q:X.s₀.heap.get? ea with
    | none=>rfl
    | some u=>exact absurd rfl (eR ea (I0.base.there ea u q (by rw [O.ex];simp)))
   ·obtain ⟨m,⟨o,_,_,ho,_⟩,_⟩:=I0.loc;exact pp (eR _ ⟨o,ho⟩)
   ·intro y c e;obtain ⟨w',o,ho,_⟩:=I0.cell y c e;exact eR _ ⟨o,ho⟩
   ·intro p hp;exact eR _ ⟨_,(I0.pin p hp).1⟩
  refine Cj (X:=X.kD (.ref ea)) (v:=.ref ea) (I5.kD (.ref ea)) hN hi (Or.inl hn) rfl (fun s6 I6=>?_) (Or.inr hn);refine IR (hs (.ref ea) π s6 _ _ (D.DM i) I6 (aK ea F.free)) (fun f s7 z=>?_) fun _ _ z=>False.elim z;have uT:(X.env.scope.kind == .class || (X.env.scope.kind == .module && X.env.locals != X.env.globals))=false:=by rw [I.ok.kind];rfl
  have fin:∀ {σ7:St} {H7:Hp} (I7:Inv (X.kD (.ref ea)) π σ7 H7 s7) (Q:Unit->Shared->Prop),(∀ s8,Inv X π (σ7.set i none) H7 s8->Q () s8)->∀ E:Value->Shared->Prop,wpAny (model X.prog X.w) X.A (do bindName X.env n .none;unbindBehindTheSuite X.env n hpos) Q E s7:=fun {σ7 H7} I7 Q k E=>by
   have J:=I7.Wj I.ok;obtain ⟨m,hn7,hl7⟩:=id J.loc;exact wpAny_nameGoes_keeps hn hn7 uT fun h8 v E1 sb8=>k _ (J.WM hN hi hl7 E1 sb8)
  cases f with
  | next=>obtain ⟨σ7,H7,I7,q⟩:=z;exact fin I7 _ (fun s8 I8=>⟨_,H7,I8,q⟩) _
  | ret u=>obtain ⟨v,σ7,H7,I7,r,q⟩:=z;exact fin I7 _ (fun s8 I8=>⟨v,_,H7,I8,r,q⟩) _
  | brk=>obtain ⟨σ7,H7,I7,q⟩:=z;exact fin I7 _ (fun s8 I8=>⟨_,H7,I8,q⟩) _
  | cont=>obtain ⟨σ7,H7,I7,q⟩:=z;exact fin I7 _ (fun s8 I8=>⟨_,H7,I8,q⟩) _
structure fL (K:ν) (C:Addr):Prop where
 ha:W.findIn K (.ref C) "__class__" = some (some (.builtin "object.__class__"))
 hn:W.specialIn K (.builtin "object.__class__") "__get__" = some (some (.builtin "getset_descriptor.__get__"))
 fe:W.takesIn K (.builtin "object.__class__")=some true
 hm:W.mroIn K C (.type "object")=some true
 xy:W.findIn K (.ref C) "__getattribute__" = some (some (.builtin "BaseException.__getattribute__"))
 GK:W.findIn K (.ref C) "__getattr__" = some none
 hb:W.mroIn K C (.type "BaseException")=some true
def n9 {M:Model} {h:Heap} {x C:Addr} {od:Option Addr} (I:dq x (.ref C) od h):W.Looks M h (typeOf (.ref x)) (.ref C):=by
 obtain ⟨o,e,c,_⟩:=I;exact c ▸ (_k e).andThen .now
def Iy {K:ν} {C:Addr} {b:Value} {r:Bool} (h:W.mroIn K C b=some r):∃ c d cd sl,K.lookup C=some ⟨c,d,.cls cd,sl⟩:=by
 obtain ⟨cd,bo,_⟩:=Option.bind_eq_some_iff.mp h;unfold W.clsIn at bo;split at bo
 ·rename_i c' d' cd' sl' ho;exact ⟨_,_,_,_,ho⟩
 ·cases bo
section
variable {prog:Program} {w:World} {A:Around} {E:Value->Shared->Prop} {s:Shared} {K:ν} {x C:Addr} {od:Option Addr}
def Rl {M:Model} {h:Heap} {name:Str} {a g:Value} (X:K.In h) (ha:W.findIn K (.ref C) name=some (some a)) (hn:W.specialIn K a "__get__" = some (some g)) (fe:W.takesIn K a=some true) :
  W.Looks M h (Builtin.ObjectAttr.find (.ref x) (.ref C) name) (.bind g a):=by
 have L1:=GE (M:=M) X ha;have L2:W.Looks M h (Builtin.ObjectAttr.getOf (some a)) (some g):=W.looks_specialIn X hn;have L3:=W.looks_takesIn (M:=M) X fe;unfold Builtin.ObjectAttr.find;refine L1.andThen (L2.andThen ?_);have L4:W.Looks M h (Builtin.ObjectAttr.dataDescriptor? (some a) (some g)) (some (g,a)):=by
  unfold Builtin.ObjectAttr.dataDescriptor?;exact L3.andThen .now
 exact L4.andThen (W.Looks.tag .now)
open PySem.W in
open Builtin Builtin.ObjectAttr Builtin.Getset_descriptor in
def Vh {R:Result->Shared->Prop} {tp:Value} (Z:fL K C) (X:K.In s.heap) (I:dq x (.ref C) od s.heap) (h:R (.ok (.ret (.ref C))) s) :
  codeAny (model prog w) A (.call (.builtin "getset_descriptor.__get__") ⟨[.builtin "object.__class__",.ref x,tp],[]⟩) R s:=by
 obtain ⟨hh,g,dr,t,os⟩:=s;have L0:=n9 (M:=model prog w) I;have L1:=looks_mroIn (M:=model prog w) X Z.hm;refine _e KF.slot_gs.plain KF.entry_gs (KF.slot_gs.check _ _ _ _ _ _ _ _ KF.type_class (KF.args_gs _ _ _) ?_);unfold Builtin.«getset_descriptor.__get__» descrGet;rw [dga_obj];refine li (sw ?_);unfold descrGetter descrCheckInstance descrNameAndClass isInstance;simp only [KF.owner_class]
 repeat lk
 refine ⟨Ja9 _ (by decide +kernel),_3 KF.entry_class ?_⟩;unfold Builtin.«object.__class__» shownTypeOf
 repeat lk
 exact h
def He {M:Model} {MN:Value} {Q:Unit->Shared->Prop} (Z:fL K C) (X:K.In s.heap) (I:dq x (.ref C) od s.heap) (h:Q () s):wpAny M A (checkBuiltinCall "BaseException.__getattribute__" ⟨[.ref x,MN],[]⟩) Q E s:=by
 have k1:builtinKind "BaseException.__getattribute__" = some .slot:=by decide +kernel
 have k2:splitId "BaseException.__getattribute__" = some ("BaseException","__getattribute__"):=by decide +kernel
 have k3:=PySem.F.args_bexc_ga (.ref x) MN;have L0:=n9 (M:=M) I;have L1:=_i (M:=M) X Z.hb;obtain ⟨hh,g,d,t,os⟩:=s;have L2:W.Looks M hh (isInstance (.ref x) (.type "BaseException")) true:=L0.andThen L1;simp only [checkBuiltinCall,k1,k2];refine li (L2.at ?_)
 repeat (any_goals (first | assumption | wp_step))
def Xe {Q:Option Value->Shared->Prop} (Z:fL K C) (X:K.In s.heap) (I:dq x (.ref C) od s.heap) (h:Q (some (.ref C)) { s with toks:=s.toks+1 }):wpAny (model prog w) A (getAttr? (.ref x) "__class__") Q E s:=by
 obtain ⟨hh,g,d,t,os⟩:=s;have L0:=n9 (M:=model prog w) I;have L1:=GE (M:=model prog w) X Z.xy;have L2:=GE (M:=model prog w) X Z.GK;have L3:=Rl (M:=model prog w) (x:=x) X Z.ha Z.hn Z.fe;unfold getAttr? getAttrBy? getAttrBy;refine li (wpAny_mkText (li (Jad (KB (li (L0.at (li (L1.at ?_))))))));show wpAny _ _ (getAttrByItsOwn (.ref x) (.str "__class__" t) (.ref C) (.builtin "BaseException.__getattribute__") false false) _ _ _;unfold getAttrByItsOwn;refine li (L2.at ?_);refine li (Jad (KB ?_));show wpAny _ _ (boundAndCalled (.builtin "BaseException.__getattribute__") (.ref x) (.str "__class__" t)) _ _ _;unfold boundAndCalled;refine li (wpAny_of_eq (_l.ga.bind (.ref x)) ?_);refine WP (_e _l.ga.plain PySem.F.entry_bexc_ga (He Z X I ?_));show wpAny _ _ (Builtin.«object.__getattribute__» ⟨[.ref x,.str "__class__" t],[]⟩) _ _ _;unfold Builtin.«object.__getattribute__»;refine li (sw ?_);refine li (sw ?_);refine li (L0.at (li (L3.at ?_)));show wpAny _ _ (Builtin.ObjectAttr.bindTo (.builtin "getset_descriptor.__get__") (.builtin "object.__class__") (.ref x) (.ref C)) _ _ _;show wpAny _ _ (holding [.builtin "object.__class__"] (call (.builtin "getset_descriptor.__get__") [.builtin "object.__class__",.ref x,.ref C]) >>= fun v=>ret v) _ _ _;refine li (KB (WP (Vh Z X I (sw ?_))));exact sw (sw h)
def zb (Z:fL K C):W.KitX K (.ref x) (.ref C) (dq x (.ref C) od) where
 ty:=fun _ _ _ I=>n9 I
 it:=fun _ _ X _=>by
  obtain ⟨c',d',cd',sl',ho⟩:=Iy Z.hm;intro A' Q' E' s' k q;unfold isType loadHead;exact li (_j (k _ _ (X _ _ ho)) (sw q))
 ne:=fun h tp dd aj n sl X htp=>by
  obtain ⟨c',d',cd',sl',ho⟩:=Iy Z.hm;refine Bool.eq_false_iff.mpr fun q=>?_;have e:C=tp:=Value.ref.inj (WF.mp q);subst e;have z:=(X _ _ ho).symm.trans htp;cases z
 ca:=fun X I k=>Xe Z X I k
end
inductive rW (K:ν) (H:Hp):V->Value->Bool->Prop where
 | of {x:V} {t:Value} (h:fV K H x t):rW K H x t false
 | exc {ea C:Addr} {od:Option Addr} (e:H ea=some (lb ea C od)) (Z:fL K C):rW K H (.ref ea) (.ref C) true
inductive tK (K:ν) (H:Hp) (t:Value):Bool->V->Bool->Prop where
 | ty {f:Bool} {n:String} {b:Bool} (e:W.kitOne K t (.type n)=some b):tK K H t f (.ty n) b
 | cls {f:Bool} {a:Addr} {b:Bool} (e:W.kitOne K t (.ref a)=some b):tK K H t f (.ref a) b
 | tup {p:Addr} {cs:List V} {us:List Value} {b:Bool} (h:H p=some (.tup cs)) (hu:∀ ws,Vals cs ws->ws=us) (e:W.kitAny K t us=some b):tK K H t true (.ref p) b
section
variable {X:Cx} {K:ν}
def CU (K:ν):List V->Hp->VK->Prop:=fun xs H Q=>match xs with
 | [x,c]=>∃ (t:Value) (f b:Bool),rW K H x t f/\tK K H t f c b/\Q (.bl b) H
 | _=>False
def Ti {x c:V} {u v t:Value} {π:List (Addr×Obj)} {σ:St} {H:Hp} {s:Shared} {A:Around} {E:Value->Shared->Prop} {Q:Value->Shared->Prop} {f b:Bool} (I:Inv X π σ H s) (rx:RelV x u) (rc:RelV c v) (ty:rW X.K H x t f) (a:tK X.K H t f c b)
  (h:∀ tk,Q (.bool b) { s with toks:=tk }):wpAny (model X.prog X.w) A (call (.builtin "isinstance") [u,v]) Q E s:=by
 cases ty with
 | of ty =>
  cases a with
  | ty e=>cases (show v=Value.type _ from rc);exact zy I rx ty e h
  | cls e=>cases (show v=Value.ref _ from rc);exact zy I rx ty e h
 | @exc ea C od e Z =>
  cases (show u=Value.ref ea from rx);obtain ⟨p,_,_⟩:=(show bR X.prog X.w H s.heap ea (lb ea C od) from I.ay ea _ e);cases a with
  | ty e'=>cases (show v=Value.type _ from rc);exact IO (zb Z) I.bX p e' (fun z=>nomatch z) h
  | cls e'=>cases (show v=Value.ref _ from rc);exact IO (zb Z) I.bX p e' (fun z=>nomatch z) h
  | @tup tp cs us b hp hu e' =>
   cases (show v=Value.ref tp from rc);obtain ⟨_,aj,rv,o,ho,hc,n,hd,_⟩:=(show bR X.prog X.w H s.heap tp (.tup cs) from I.ay tp _ hp);obtain rfl:=hu aj rv;obtain ⟨oc,odd,E4,dA⟩:=o;dsimp only at hc hd;subst hc hd;exact W.kia_tup (zb Z) I.bX p ho e' (fun z=>nomatch z) h
def g7 (h:X.K=K):cZ X (.builtin "isinstance") (CU K):=h ▸ fun π s σ H xs us Q I r q=>by
 unfold CU at q;split at q
 ·rename_i x c;obtain ⟨t,f,b,ty,a,q⟩:=q;obtain ⟨u,v,rfl,ru,rv⟩:=vals2 r;exact Ti I ru rv ty a fun tk=>⟨.bl b,H,I.tok tk,rfl,q⟩
 ·exact q.elim
end
namespace Dv
section
variable {X:Cx} {st:Stmt} {t:TS}
def bP {k:Nat} {f:Addr} {fd:FuncData} {ps:List Str} {sp:Sp} {bj:List V} {ds:List Value} {R:St->XK} {x:Str} {p pos:Pos} {e:Expr} {es:List Expr} {t:TA}
  (F:aA X.prog X.w X.K X.mg X.base (bC X.prog X.w) k f fd ps sp) (hr:bb k X.A) (hm:X.mg x=some (.ref f)) (hk:W.keepIn X.K (.ref f)=true) (hb:Binds X.K fd ps ds) (hd:Vals bj ds) (hx:gU X R)
  (ha:QA X (e::es) t) (hg:Gl X x:=by rfl) (hs:(e::es).all noStar=true:=by rfl) (bM:(x == ("__debug__":Str))=false:=by decide):QE X (.Call (.Name x p) (e::es) [] pos) (AU sp bj R t):=⟨XJ F hr hg hm hk hb hd hx ha.h hs bM⟩
def mQ {R:St->XK} {x:Str} {C:Addr} {e:Expr} {es:List Expr} {t:TA} {np bh pos:Pos} (hx:Raises X R) (hc:X.calm=true) (hm:X.mg x=some (.ref C)) (q:W.excIn X.K C ux "ValueError.__new__" = true) (ha:QA X (e::es) t)
  (hg:Gl X x:=by rfl) (hs:(e::es).all noStar=true:=by rfl) (bM:(x == ("__debug__":Str))=false:=by decide):QS X (.Raise (some (.Call (.Name x np) (e::es) [] bh)) none pos) (B4 C R t):=⟨Rc hx hc hm q ha.h hg hs bM⟩
def Ua {K:ν} {Cc:Addr} (i:Nat) {n x:Str} {body oU:List Stmt} {b₀:Stmt} {np hpos pos:Pos} {tb:(St->XK)->TS} {th:TS} (hK:X.K=K) (O:Own X) (hN:X.N.Nodup) (hm:X.mg x=some (.ref Cc))
  (c1:W.instIn X.K (.ref Cc) (.type "tuple")=some false) (c2:W.mroIn X.K Cc (.type "BaseException")=some true)
  (hb:∀ π R,QB (X.oE π R) body (tb R)) (hs:∀ v,QB (X.kD v) (b₀::oU) th) (hg:Gl X x:=by rfl) (hi:X.N[i]?=some n:=by rfl) (hn:X.env.scope.names.lookup n=some .local:=by rfl) (bM:(x == ("__debug__":Str))=false:=by decide) :
  QS X (.Try body [.ExceptHandler (some (.Name x np)) (some n) (b₀::oU) hpos] [] [] pos) (Ga K Cc i tb th):=⟨acN i hK O hN hm c1 c2 (fun π R=>(hb π R).h) (fun v=>(hs v).h) hg hi hn bM⟩
end
end Dv
def fD.c7 {P:Program} {w:World} {K:ν} {mg:Str->Option Value} {base:Heap} {CX:dW} {x qual:Str} {st:Stmt} {f:Addr} {fd:FuncData} {N ps:List Str} {k:Nat} {sp:Sp} (F:fD K x qual st f fd) (S:aE N ps (az st)) (len:∀ vs H Q E,sp vs H Q E->vs.length=ps.length)
  (hb:∀ (cdv:Value) (A:Around) (outer:List Env) (s:Shared) (H:Hp) (vs:List V) (Q:VK) (E:XK),bb k (A.deeper (envOfC qual (az st) s.heap.objs.size f cdv))->sp vs H Q E ->
   ∃ t,dz (df CX P w K mg base N qual (az st) f cdv A outer s H E) (aQ st) t/\t { nx:=fun _ H'=>Q .aq H',rt:=Q } (start N vs) H):aA P w K mg base CX (k+1) f fd ps sp:=by
 obtain ⟨oc,od,kV,doc,pm,an,cdv,ct,dA,rfl,lk,bo⟩:=F.ex;exact wJ lk bo S len fun A outer s H vs Q E hr dD=>hb cdv A outer s H vs Q E hr dD
def rY:List Value->Bool
 | []=>false
 | v::r=>(v::r) == ux || match v with
  | .ref _=>rY r
  | _=>false
def IF (self:Value):∀ {l:List Value},rY l=true->refuseLoop self "__setattr__" l=pure ()
 | [],e=>nomatch e
 | v::r,e=>by
  unfold rY at e;rcases Bool.or_eq_true_iff.mp e with q | q
  ·rw [WF.mp q];exact PySem.F.store_ValueError.passes self
  ·split at q
   ·rw [refuseLoop_ref];exact IF self q
   ·cases q
def vt (K:ν) (C:Addr):Bool:=match K.lookup C with
 | some ⟨.type "type",_,.cls cd,sl⟩=>(match cd.mro,sl.toList with
  | .ref C'::bm,[_,_,_,_,some (.builtin n),_]=>C' == C && n == "ValueError.__new__" && !cd.hasDel && W.tailIn K ux bm && rY cd.mro && cd.hasDict
  | _,_=>false)
 | _=>false
structure gI (K:ν) (C f:Addr) (fld:Str):Prop where
 q:vt K C=true
 hi:W.findIn K (.ref C) "__init__" = some (some (.ref f))
 hf:W.typeIn K (.ref f)=some (.type "function")
 sa:W.findIn K (.ref C) "__setattr__" = some (some (.builtin "object.__setattr__"))
 na:W.findIn K (.ref C) fld=some none
 ob:W.mroIn K C (.type "object")=some true
 be:W.mroIn K C (.type "BaseException")=some true
 self:W.mroIn K C (.ref C)=some true
 kp:W.keepIn K (.ref C)=true
def vv {K:ν} {h:Heap} {C:Addr} (X:K.In h) (q:vt K C=true) :
  ∃ bm N nm q bs sn sub ab col dd k0 k1 k2 k3 k5,h.get? C=some (excClassObj nm q C N bs bm true sn sub ab col dd k0 k1 k2 k3 k5 "ValueError.__new__")/\OwnTail h ux bm/\rY (.ref C::bm)=true:=by
 unfold vt at q;split at q
 ·rename_i dd cd sl ho;split at q
  ·rename_i C' bm k0 k1 k2 k3 n k5 hm hs;simp only [AC,WF,Bool.not_eq_true'] at q;obtain ⟨⟨⟨⟨⟨q1,q2⟩,q3⟩,q4⟩,q5⟩,q6⟩:=q;subst q1 q2;obtain ⟨nm,bs,mro,ns,qn,hd,sn,sub,ab,col,del⟩:=cd;dsimp only at hm q3 q5 q6;subst hm q3 q6;have e1:sl=#[k0,k1,k2,k3,some (.builtin "ValueError.__new__"),k5]:=by
    obtain ⟨l⟩:=sl;simp only at hs;rw [hs]
   subst e1;exact ⟨bm,ns,nm,qn,bs,sn,sub,ab,col,dd,k0,k1,k2,k3,k5,X _ _ ho,W.tail_of_in X q4,q5⟩
  ·cases q
 ·cases q
section
variable {prog:Program} {w:World} {A:Around} {E:Value->Shared->Prop} {s:Shared} {K:ν} {x C f:Addr} {fld:Str} {v:Value}
open Builtin Builtin.ObjectAttr in
def TU {Q:Unit->Shared->Prop} (Z:gI K C f fld) (X:K.In s.heap) (I:dq x (.ref C) none s.heap)
  (h:∀ h' d tk,s.heap.objs.size<=d->d≠x->(∃ o,s.heap.get? x=some o/\h'.get? x=some { o with dict:=some d })->h'.Ns1 d (fun y=>if y=fld then some v else none)->(∀ b o,b≠x->s.heap.get? b=some o->h'.get? b=some o)->Q () { s with heap:=h',toks:=tk }) :
  wpAny (model prog w) A (setAttr (.ref x) fld v) Q E s:=by
 obtain ⟨hh,g,dr,t,os⟩:=s;have L0:=n9 (M:=model prog w) I;have L1:=GE (M:=model prog w) X Z.sa;have L2:=GE (M:=model prog w) X Z.na;obtain ⟨bm,N,nm,qn,bs,sn,sub,ab,col,dd,k0,k1,k2,k3,k5,hC,T,MD⟩:=vv X Z.q;have Lo:=_i (M:=model prog w) X Z.ob;have Li:W.Looks (model prog w) hh (isInstance (.ref x) (.type "object")) true:=L0.andThen Lo;have SF:=PySem.F.store_object;refine li (wpAny_mkText (li (li (li (L0.at (L1.at (KB ?_)))))));rw [SF.slot.bind];refine li (sw (li (WP ?_)));refine _e SF.slot.plain SF.entry ?_;refine @W.check_slot (model prog w) _ _ ⟨hh,g,dr,t+1,os⟩ "object.__setattr__" "object" "__setattr__" (.ref x) [.str fld t,v] [] _ SF.kind SF.split Li (SF.args (.ref x) (.str fld t) v) ?_;show wpAny _ _ (Builtin.«object.__setattr__» ⟨[.ref x,.str fld t,v],[]⟩) _ _ _;rw [W.osa_eq,refuse_eq];refine li (li (L0.at (li (wpAny_mroOf_exc hC ?_))));rw [IF _ MD];refine sw (li (L0.at (li (L2.at (li (sw ?_))))));obtain ⟨o,hx,hc,jA,vs,eX⟩:=I;show wpAny _ _ (storeInOwnDict (.ref x) (.ref C) (.str fld t) fld v false) _ _ _;have Lc:W.Looks (model prog w) hh (classData C) _:=(_k (part:=none) hC).andThen .now;obtain ⟨oc,od,E4,dA⟩:=o;dsimp only at hc jA eX;subst hc jA eX;have bB:(hh.push { cls:=.type "dict",data:=.dict #[] }).get? x=some ⟨.ref C,none,.fields vs,dA⟩:=pc _ hx;have qT:x≠hh.objs.size:=zn (u8 hx);unfold storeInOwnDict ownDictForStores instanceDict;refine li (sw ?_);refine li (li (_j hx (li (Lc.at ?_))));refine li (wpAny_alloc' ?_);refine li (wpAny_update' bB (sw ?_));show wpAny _ _ (storeInDict hh.objs.size (.str fld t) fld v) _ _ _;have hself:((hh.push { cls:=.type "dict",data:=.dict #[] }).update x fun o=>{ o with dict:=some hh.objs.size }).get? x=some ⟨.ref C,some hh.objs.size,.fields vs,dA⟩:=Sc _ bB rfl;have hdict:((hh.push { cls:=.type "dict",data:=.dict #[] }).update x fun o=>{ o with dict:=some hh.objs.size }).get? hh.objs.size=some { cls:=.type "dict",data:=.dict #[] } :=
  (Heap.get?_update_ne _ _ _ _ qT.symm).trans (Heap.get?_push_at rfl rfl)
 have hoth:∀ b o,b≠x->hh.get? b=some o->((hh.push { cls:=.type "dict",data:=.dict #[] }).update x fun o=>{ o with dict:=some hh.objs.size }).get? b=some o:=fun b o hb e =>
  (Heap.get?_update_ne _ _ _ _ hb).trans (pc _ e)
 have eA:((hh.push { cls:=.type "dict",data:=.dict #[] }).update x fun o=>{ o with dict:=some hh.objs.size }).Ns hh.objs.size (fun _=>none):=⟨_,#[],_,hdict,rfl,fun e he=>absurd he (by simp),fun _=>rfl⟩;unfold storeInDict newKeyGuard;refine li (sw (li (wpAny_nsSet1 (Heap.Ns1.of_empty eA) fun h' hn' hs=>?_)));obtain ⟨oD,esD,epD,EH,Ea,Fm⟩:=hn'.count (Within.cons fld v Within.nil);refine li (wpAny_lookBehind EH (by rw [Ea];exact pastItsLine_dict (wl Fm (by rw [FB,_F,_Y];omega))) ?_);refine sw (sw (sw ?_));exact h h' hh.objs.size _ (sK _) (pp qT) ⟨_,hx,(hs.2 x qT).trans hself⟩ hn' fun b o hb e=>(hs.2 b (zn (u8 e))).trans (hoth b o hb e)
end
def lU (e:Addr) (c:Value) (od:Option Addr) (h:Heap):Prop:=∃ o,h.get? e=some o/\o.cls=c/\o.dict=od/\∃ vs a0,o.data=.fields vs/\vs[1]?=some .none/\vs[0]?=some a0
def lU.hd {e:Addr} {c:Value} {od:Option Addr} {h:Heap} (x:lU e c od h):dq e c od h:=let ⟨o,a,b,c,vs,_,d,_⟩:=x;⟨o,a,b,c,vs,d⟩
def dU (ea C:Addr) (od:Option Addr):HO:=.ext (lU ea (.ref C) od)
def Ii {P:Program} {w:World} {H:Hp} {h:Heap} {ea C:Addr} {od:Option Addr} (x:lU ea (.ref C) od h):bR P w H h ea (dU ea C od) :=
 ⟨x,let ⟨o,e,_⟩:=x;⟨o,e⟩,fun _ _ ⟨o,e,r⟩ k=>⟨o,k o e,r⟩⟩
def PN {h h':Heap} {e:Addr} {cls:Value} {args:List Value} (hx:Heap.MadeExcOf h h' e cls args):lU e cls none h':=by
 obtain ⟨t,he,_⟩:=hx.there;exact ⟨_,he,rfl,rfl,_,_,rfl,rfl,rfl⟩
def BB (C:Addr) (fld:Str) (ta tv:TE):TS:=fun D σ H=>tv σ H fun y H1=>ta σ H1 fun x H2=>∃ ea,x=.ref ea/\H2 ea=some (dU ea C none)/\∀ d,H2 d=none->D.nx σ (upd (upd H2 ea (dU ea C (some d))) d (.xd [(fld,y)]))
def Zv {fld g:Str} {y:V} {u:Value} (r:RelV y u):eM (([(fld,y)]:List (Str×V)).lookup g) (if g=fld then some u else none):=by
 by_cases h:g=fld
 ·have hb:(g == fld)=true:=WF.mpr h;simp only [List.lookup,hb,At h];exact r
 ·have hb:(g == fld)=false:=EQ.mpr h;simp only [List.lookup,hb,xL h];exact True.intro
section
variable {X:Cx} {C f:Addr} {fld:Str} {o value:Expr} {ta tv:TE} {pos pos':Pos}
def YU (Z:gI X.K C f fld) (ha:PE X o ta) (hv:PE X value tv) (hs:swapsWith value (some (.Attribute o fld pos')) pos.line X.env=pure false):PS X (.Assign [.Attribute o fld pos'] value pos) (BB C fld ta tv):=by
 intro π s σ H D I h;refine plainObj_wpAny_Assign_Attribute (aB (hv π s σ H _ I h) fun u s1 ⟨y,H1,I1,ry,q⟩=>aB (ha π s1 σ H1 _ I1 q) fun ov s2 ⟨x,H2,I2,rx,ea,ex,he,q2⟩=>?_) hs;subst ex;obtain rfl:ov=Value.ref ea:=rx;obtain ⟨p,_,_⟩:=(show bR X.prog X.w H2 s2.heap ea (dU ea C none) from I2.ay ea _ he);refine TU Z I2.bX p.hd fun h' d tk hsz lB uU eA hkeep=>?_;obtain ⟨o0,e0,e1⟩:=uU;obtain ⟨o0',e0',c0,d0,vs,a0,v0⟩:=p;rw [e0] at e0';cases e0';have hd':lU ea (.ref C) (some d) h':=⟨_,e1,c0,rfl,vs,a0,v0⟩;have cu:H2 d=none:=I2.ay.fresh hsz;have J:Inv X π σ (upd H2 ea (dU ea C (some d))) { s2 with heap:=h',toks:=tk } :=
  I2.write (x:=ea) (e:=ea) (o:=dU ea C (some d)) (t':=tk) (by rw [he];exact True.intro) (.inl rfl) hkeep ⟨_,e1⟩ (Ii hd')
 have big:∀ b,(∃ u,s2.heap.get? b=some u)->b≠d:=fun b ⟨u,e⟩ z=>absurd (u8 e) (by rw [z];exact Nat.not_lt.mpr hsz);refine ⟨σ,_,J.rQ (a:=d) (o:=.xd [(fld,y)]) (by rw [ag lB];exact cu) (SZ (wl I2.sz hsz)) ?_ ?_ ?_ ⟨_,eA,fun g=>Zv ry⟩,q2 d cu⟩
 ·obtain ⟨m,⟨o,_,_,ho,_⟩,_⟩:=I2.loc;exact pp (big _ ⟨o,ho⟩)
 ·intro z c e;obtain ⟨w',o,ho,_⟩:=I2.cell z c e;exact big _ ⟨o,ho⟩
 ·intro p hp;exact big _ ⟨_,(I2.pin p hp).1⟩
end
def mG (C:Addr) (fld:Str):Sp:=fun vs H Q _=>match vs with
 | [.ref ea,y]=>H ea=some (dU ea C none)/\∀ d,H d=none->Q .aq (upd (upd H ea (dU ea C (some d))) d (.xd [(fld,y)]))
 | _=>False
section
variable {prog:Program} {w:World} {A:Around} {E:Value->Shared->Prop} {h:Heap} {g:Array GenState} {d:Drawn} {t:Nat} {os:OsState} {K:ν} {C f:Addr} {fld:Str}
def QF {rest:List Value} {Q:Fin->Shared->Prop} (Z:gI K C f fld) (X:K.In h) (et:rest.length<=sizeLine)
  (hq:∀ h' e,Heap.MadeExcOf h h' e (.ref C) rest->wpAny (model prog w) A (call (.ref f) (.ref e::rest)) (fun r s'=>r=.none/\Q (.done (.ret (.ref e))) s') E ⟨h',g,d,t,os⟩) :
  wpAny (model prog w) A (Builtin.«type.__call__» ⟨.ref C::rest,[]⟩) Q E ⟨h,g,d,t,os⟩:=by
 have F:=_w;obtain ⟨bm,N,nm,qn,bs,sn,sub,ab,col,dd,k0,k1,k2,k3,k5,hC,T,_⟩:=vv X Z.q
 repeat (first | with_reducible refine wpAny_loadPart_at hC ?_ | with_reducible refine wpAny_madeBy_exc hC ?_ | wp_step)
 refine codeAny_call_builtin_code (Ja9 _ F.quiet) (wpAny_check_new_subT F T hC (codeAny_exc_new_subT F T hC ?_ et));show wpAny _ _ _ _ _ _;have kk:∀ b o,h.get? b=some o->((h.push { cls:=.type "tuple",data:=.seq rest.toArray }).push { cls:=.ref C,data:=.fields #[.ref h.objs.size,.none,.none,.none,.bool false,.none] }).get? b=some o:=fun b o e=>pc _ (pc _ e);have Nh:((h.push { cls:=.type "tuple",data:=.seq rest.toArray }).push { cls:=.ref C,data:=.fields #[.ref h.objs.size,.none,.none,.none,.bool false,.none] }).get? (h.objs.size+1)=some { cls:=.ref C,data:=.fields #[.ref h.objs.size,.none,.none,.none,.bool false,.none] }:=by heap_get
 have NL:((h.push { cls:=.type "tuple",data:=.seq rest.toArray }).push { cls:=.ref C,data:=.fields #[.ref h.objs.size,.none,.none,.none,.bool false,.none] }).get? h.objs.size=some { cls:=.type "tuple",data:=.seq rest.toArray }:=pc _ (Heap.get?_push_at rfl rfl);generalize Ni:(h.push { cls:=.type "tuple",data:=.seq rest.toArray }).push { cls:=.ref C,data:=.fields #[.ref h.objs.size,.none,.none,.none,.bool false,.none] }=h2 at kk Nh NL ⊢;have made:Heap.MadeExcOf h h2 (h.objs.size+1) (.ref C) rest:=⟨kk,SZ (Nat.le_succ _),h.objs.size,Nh,SZ (sK _),NL⟩;have X2:K.In h2:=fun b o e=>kk b o (X b o e);have L0:=n9 (M:=model prog w) (Im made);have L1:=GE (M:=model prog w) X2 Z.hi;have Lb:=W.bind_fn (M:=model prog w) X2 (.ref (h.objs.size+1)) Z.hf;have Ls:W.Looks (model prog w) h2 (isSubtype (.ref C) (.ref C)) true:=_i X2 Z.self;have Li:W.Looks (model prog w) h2 (isInstance (.ref (h.objs.size+1)) (.ref C)) true:=L0.andThen Ls;refine li (Li.at ?_);simp only [_C,Ix,_c];refine li (KB ?_);unfold callSpecial? specialOf;refine li (li (L0.at (L1.at ?_)));refine KB (li (Lb.at (li (IR (hq h2 _ made) (fun r s' z=>?_) fun _ _ z=>z))));obtain ⟨rfl,z⟩:=z;exact sw (sw z)
def acb {rest:List Value} {Q:Value->Shared->Prop} (Z:gI K C f fld) (X:K.In h) (et:rest.length<=sizeLine)
  (hq:∀ h' e,Heap.MadeExcOf h h' e (.ref C) rest->wpAny (model prog w) (A.under (.builtin "type.__call__" ⟨.ref C::rest,[]⟩)) (call (.ref f) (.ref e::rest)) (fun r s'=>r=.none/\Q (.ref e) s') E ⟨h',g,d,t,os⟩) :
  wpAny (model prog w) A (call (.ref C) rest) Q E ⟨h,g,d,t,os⟩:=by
 obtain ⟨bm,N,nm,qn,bs,sn,sub,ab,col,dd,k0,k1,k2,k3,k5,hC,T,_⟩:=vv X Z.q;have f1:=tc_lookup;have f2:=tc_bind (.ref C);have hT:(⟨h,g,d,t,os⟩:Shared).TypeIs (.ref C) "type" := ⟨_,hC,rfl⟩;refine WP (codeAny_of_tree ?_);show wpAny _ _ (callAny (.ref C) _) _ _ _
 repeat (any_goals (first | assumption | with_reducible refine wpAny_loadPart_at hC ?_ | wp_step))
 exact ⟨rfl,codeAny_call_builtin_at (Ja9 _ (by decide +kernel)) entry_typeCall (wpAny_check_type_call_sub hC (QF Z X et fun h' e hm=>hq h' e hm))⟩
end
def abZ {M:Model} {A:Around} {E:Value->Shared->Prop} {s:Shared} {env:Env} {K:ν} {C:Addr} {x:Sem Value} {Q:Flow->Shared->Prop} (hb:W.mroIn K C (.type "BaseException")=some true) (cC:W.typeIn K (.ref C)=some (.type "type")) (hh:A.handled=none)
  (h:wpAny M A x (fun v s₁=>∃ e o vs,v=.ref e/\s₁.heap.get? e=some o/\o.cls=.ref C/\o.data=.fields vs/\vs[1]?=some .none/\K.In s₁.heap/\E (.ref e) s₁) E s) :
  wpAny M A (raiseStmt env (some x) none) Q E s:=by
 unfold raiseStmt;refine li (IR h (fun v s₁ h₁=>?_) fun _ _ x=>x);obtain ⟨e,o,vs,rfl,he,hc,hd,h1,X,hE⟩:=h₁;obtain ⟨hp,g,d,tk,os⟩:=s₁;have L0:W.Looks M hp (typeOf (.ref e)) (.ref C):=hc ▸ (_k he).andThen .now;have L1:=_i (M:=M) X hb;have L2:W.Looks M hp (isType (.ref e)) false:=by
  obtain ⟨oc,od,E4,dA⟩:=o;dsimp only at hd;subst hd;intro A' Q' E' s' k q;unfold isType loadHead;exact li (_j (k _ _ he) (sw q))
 have L3:W.Looks M hp (isExcClass (.ref e)) false:=L2.andThen .now;have L4:W.Looks M hp (isInstance (.ref e) (.type "BaseException")) true:=L0.andThen L1;have L5:=W.looks_typeIn (M:=M) X cC;refine li (sw (li (KB ?_)));unfold excFromValue;refine li (L3.at ?_);simp only [Ix,_c];refine li (L4.at ?_);simp only [Ja2];refine sw ?_;refine li (L2.at ?_);simp only [Ix,_c];unfold raisedInstance;refine li (li (L0.at (li (L5.at ?_))));refine sw ?_;unfold setFlight;refine li (li (wpAny_field he hd h1 ?_));refine sw ?_;exact wpAny_raiseNew_none hh hE
def Ku {fs:List Addr} {H H':Hp} {h h1 base:Heap} (u:Un fs [] H H' h h1):∀ l:List Env,(∀ b∈bL l,b∈fs/\H b=none)->h.FunFrames base l->h1.FunFrames base l
 | [],_,_=>trivial
 | env::r,hs,⟨hk,⟨L,o,hf,hn,ho,hd⟩,hr⟩=>by
  have e:bL (env::r)=L::bL r:=by
   unfold bL;rw [_f,hf]
  obtain ⟨h1',h2'⟩:=hs L (by rw [e];exact LT);obtain ⟨sl,e1⟩:=u.slot L o ho h2' h1' (by simp);exact ⟨hk,⟨L,_,hf,hn,e1,hd⟩,Ku u r (fun b hb=>hs b (by rw [e];exact Db _ hb)) hr⟩
section
variable {X:Cx} {π:List (Addr×Obj)} {σ:St} {H H':Hp} {s s1:Shared} {ea C:Addr} {od:Option Addr}
def Inv.Y0 {M:Model} {A:Around} {E:Value->Shared->Prop} (I:Inv X π σ H s) (O:Own X) (hA:A.frames=some X.stack) (os:s1.os=s.os) (bare:AllBare s1.gens) (un:Un (bL X.stack) [] H H' s.heap s1.heap) (ay:cg X.prog X.w H' s1.heap)
  (free:H' ea=none) (new:s.heap.get? ea=none) (hn:lU ea (.ref C) od s1.heap):wpAny M A (leaving X.env (.ref ea)) (fun _ s''=>nI X.prog X.w X.outer X.H₀ X.s₀ ea C od H' s'') E s1:=by
 have aJ:(W.hideAll s1.heap (ea::bL X.stack)).StaysIn s1.heap:=fun b o q=>Ja3 _ q;have hX:s1.heap.FunFrames (W.hideAll s1.heap (ea::bL X.stack)) X.stack:=W.funFrames_hide (Ku un X.stack (fun b hb=>⟨hb,I.vN b hb⟩) I.stack) fun env he a ha=>Db _ (_H.mpr ⟨env,he,ha⟩);have EG:(W.hideAll s1.heap (ea::bL X.stack)).get? ea=none:=W.hideAll_none _ LT;have gN:rM (W.hideAll s1.heap (ea::bL X.stack)) (bL X.stack) s.heap H' s1.heap:=fun b o e hb z=>by
  refine _5 _ e fun hm=>?_;rcases lv.mp hm with q | q
  ·rcases z with ⟨u,z⟩ | ⟨u,z⟩
   ·rw [q,new] at z;cases z
   ·rw [q,free] at z;cases z
  ·exact hb q
 generalize W.hideAll s1.heap (ea::bL X.stack)=B at aJ hX EG gN;rw [O.dO] at hX hA;obtain ⟨oe,he,hc,yn,vs,a0,hd,h1,h0⟩:=id hn;refine aB ((Kp.leaving X.env (.ref ea)).any hn.hd (wpAny_leaving_firstW (Q:=fun _ s''=>∃ h2,s''={ s1 with heap:=h2 }/\Heap.LeftW B (X.env::X.outer) ea oe.cls a0 s1.heap h2) hA hX O.frame he aJ EG hd h1 h0 fun h2 x=>⟨h2,rfl,x⟩)) fun _ s'' ⟨⟨h2,e,k1,⟨_,_,k2⟩,k3,k4⟩,hd2⟩=>?_;subst e;rw [hc] at k3;exact I.yJ (s':={ s1 with heap:=h2 }) O os bare un ay free new gN ⟨k1,EG,k2,k3⟩ k4 hd2
structure Ah (X:Cx) (R:St->XK):Prop where
 made:∀ (π:List (Addr×Obj)) (σ:St) (H H':Hp) (s s1:Shared) (ea C:Addr) (od:Option Addr),Inv X π σ H s->s1.os=s.os->AllBare s1.gens->Un (bL X.stack) [] H H' s.heap s1.heap->cg X.prog X.w H' s1.heap->H' ea=none->s.heap.get? ea=none ->
  lU ea (.ref C) od s1.heap->R σ (.ref C) od H'->X.xe (.ref ea) s1
end
def nu {P:Program} {w:World} {K:ν} {mg:Str->Option Value} {base:Heap} {N:List Str} {qual:Str} {scope:Scope} {f:Addr} {cd:Value} {A:Around} {outer:List Env} {s₀:Shared} {H₀:Hp} {E:XK} :
  Ah (df (bC P w) P w K mg base N qual scope f cd A outer s₀ H₀ E) (fun _=>E) where
 made:=fun π σ H H' s s1 ea C od I os bare un ay free new hn hE=>aB (I.Y0 ⟨rfl,rfl,rfl⟩ I.ok.frames os bare un ay free new hn) fun _ s'' z=>⟨ea,C,od,H',rfl,z,hE⟩
def yK (C:Addr) (fld:Str) (R:St->XK) (t:TA):TS:=fun _ σ H=>t σ H fun vs H1=>∃ v,vs=[v]/\∀ d,H1 d=none->R σ (.ref C) (some d) (upd H1 d (.xd [(fld,v)]))
def aaE {X:Cx} {R:St->XK} {x fld:Str} {C f:Addr} {fd:FuncData} {k:Nat} {ps:List Str} {e:Expr} {es:List Expr} {t:TA} {np bh pos:Pos} (hx:Ah X R) (hex:X.ex=[]) (hc:X.calm=true) (hm:X.mg x=some (.ref C)) (Z:gI X.K C f fld) (cC:W.typeIn X.K (.ref C)=some (.type "type"))
  (F:aA X.prog X.w X.K X.mg X.base aM k f fd ps (mG C fld)) (hr:bb (k+1) X.A) (hb:Binds X.K fd ps []) (ha:PA X (e::es) t)
  (hg:Gl X x:=by rfl) (hs:(e::es).all noStar=true:=by rfl) (bM:(x == ("__debug__":Str))=false:=by decide):PS X (.Raise (some (.Call (.Name x np) (e::es) [] bh)) none pos) (yK C fld R t):=by
 have hs':=hs;rw [KK,AC] at hs';intro π s σ H D I h;rw [arm_exec_Raise];refine li (_X ?_);show wpAny _ _ (raiseStmt X.env (some (do let v <- eval (.Call (.Name x np) (e::es) [] bh) X.env;standAt pos;pure v)) none) _ _ s;refine abZ Z.be cC (I.ok.hd hc) (li (IR (FM (kJ I hg hm ?_ bM)) (fun v s3 h3=>li (_X (sw h3))) fun _ _ z=>z));refine ST (h₀:=X.base) I.ok.mod.il Z.kp (aB (ha bh π s σ H _ I h) fun us s2 ⟨vs,H2,I2,r,v,ev,hR⟩=>⟨I2.bX,?_⟩) (fS hs'.1) (iH hs'.2);subst ev;obtain ⟨u,rfl,ru⟩:=vals1 r;obtain ⟨h2,g2,d2,t2,xI⟩:=s2;refine acb Z I2.bX (by show 1<=sizeLine;decide) fun h3 ex mV=>?_;have eR:∀ b,(∃ o,h2.get? b=some o)->b≠ex:=fun b ⟨o,e'⟩ z=>by
  have:=mV.new;rw [z,this] at e';cases e'
 have mT:H2 ex=none:=by
  cases q:H2 ex with
  | none=>rfl
  | some o=>exact absurd rfl (eR ex (I2.ay ex o q).there)
 have I3:Inv X π σ H2 ⟨h3,g2,d2,t2,xI⟩:=I2.kept (t':=t2) mV.keeps;have I4:Inv X π σ (upd H2 ex (dU ex C none)) ⟨h3,g2,d2,t2,xI⟩:=by
  refine I3.rQ mT ?_ ?_ ?_ ?_ (Ii (PN mV))
  ·cases q:X.s₀.heap.get? ex with
   | none=>rfl
   | some o =>
    exact absurd rfl (eR ex (I2.base.there ex o q (by rw [hex];simp)))
  ·obtain ⟨m,⟨o,_,_,ho,_⟩,_⟩:=I2.loc;exact pp (eR _ ⟨o,ho⟩)
  ·intro y c e';obtain ⟨w',o,ho,_⟩:=I2.cell y c e';exact eR _ ⟨o,ho⟩
  ·intro p hp;exact eR _ ⟨_,(I2.pin p hp).1⟩
 have hl:([Value.ref ex,u]++([]:List Value)).length=ps.length:=by
  have:=F.len [.ref ex,v] (upd H2 ex (dU ex C none)) (fun _ _=>True) E0 ⟨au,fun _ _=>True.intro⟩;exact this
 refine WP (_b (F.run (X.A.under (.builtin "type.__call__" ⟨[.ref C,u],[]⟩)) X.stack ⟨h3,g2,d2,t2,xI⟩ (upd H2 ex (dU ex C none)) ⟨[.ref ex,u],[]⟩ [.ref ex,u] [.ref ex,v]
  (fun r H5=>r=.aq/\∃ d,upd H2 ex (dU ex C none) d=none/\H5=upd (upd (upd H2 ex (dU ex C none)) ex (dU ex C (some d))) d (.xd [(fld,v)])) E0 (hr.make C [u] []) (I4.qQ.make C [u] []) (hb _ [.ref ex,u] I4.bX hl) (.cons rfl (.cons ru .nil))
  ⟨au,fun d hd=>⟨rfl,d,hd,rfl⟩⟩) fun r s5 hq=>?_)
 cases r with
 | error e'=>exact False.elim hq
 | ok fl =>
  cases fl with
  | next=>exact False.elim hq
  | brk=>exact False.elim hq
  | cont=>exact False.elim hq
  | ret u5 =>
   obtain ⟨v5,H5,os5,bare5,m6,Fp,rv5,rfl,d,qW,rfl⟩:=hq;have lB:d≠ex:=fun z=>by rw [z,au] at qW;cases qW
   have hd2:H2 d=none:=by rw [ag lB] at qW;exact qW
   have e5:upd (upd (upd H2 ex (dU ex C none)) ex (dU ex C (some d))) d (.xd [(fld,v)]) ex=some (dU ex C (some d)):=by rw [ag (pp lB),au]
   have e6:∀ b,b≠ex->upd (upd (upd H2 ex (dU ex C none)) ex (dU ex C (some d))) d (.xd [(fld,v)]) b=upd H2 d (.xd [(fld,v)]) b:=fun b hb=>by
    by_cases q:b=d
    ·rw [q,au,au]
    ·rw [ag q,ag hb,ag hb,ag q]
   have e7:upd H2 d (.xd [(fld,v)]) ex=none:=by rw [ag (pp lB)];exact mT
   have e4:∀ b,b≠ex->upd H2 ex (dU ex C none) b=H2 b:=fun b hb=>ag hb;generalize upd (upd (upd H2 ex (dU ex C none)) ex (dU ex C (some d))) d (.xd [(fld,v)])=H5 at m6 Fp e5 e6;obtain ⟨hN,_,_⟩:=(show bR X.prog X.w H5 s5.heap ex (dU ex C (some d)) from Fp ex _ e5);have rA:∀ b o,H2 b=some o->b≠ex:=fun b o q=>gg q mT;have MV:Un (bL X.stack) [] H2 (upd H2 d (.xd [(fld,v)])) h2 s5.heap:=by
    refine ⟨fun b o q n hb hx=>?_,fun b o q n hb hx=>?_,fun b o q n hx=>?_,fun b o q hx=>?_,fun b xs q=>?_,fun b o v' q=>?_,fun b ps' q=>?_⟩
    ·exact m6.keep b o (mV.keeps b o q) (by rw [e4 b (eR b ⟨o,q⟩)];exact n) hb hx
    ·exact m6.slot b o (mV.keeps b o q) (by rw [e4 b (eR b ⟨o,q⟩)];exact n) hb hx
    ·rw [<- e6 b (eR b ⟨o,q⟩)];exact m6.free b o (mV.keeps b o q) (by rw [e4 b (eR b ⟨o,q⟩)];exact n) hx
    ·exact m6.there b o (mV.keeps b o q) hx
    ·rw [<- e6 b (rA b _ q)];exact m6.fJ b xs (by rw [e4 b (rA b _ q)];exact q)
    ·rw [<- e6 b (rA b _ q)];exact m6.fj b o v' (by rw [e4 b (rA b _ q)];exact q)
    ·rw [<- e6 b (rA b _ q)];exact m6.fQ b ps' (by rw [e4 b (rA b _ q)];exact q)
   have hokF:cg X.prog X.w (upd H2 d (.xd [(fld,v)])) s5.heap:=fun b o q=>by
    have hb:b≠ex:=fun z=>by rw [z,e7] at q;cases q
    have q5:H5 b=some o:=by rw [e6 b hb];exact q
    have ne5:∀ c o',H5 c=some o'->o'≠dU ex C (some d)->c≠ex:=fun c o' z1 z2 z=>by rw [z,e5] at z1;exact z2 (Fa z1).symm
    refine (Fp b o q5).gH (fun _ _ _ z=>z) (fun c z=>?_) fun c xs z=>?_
    ·rw [<- e6 c (ne5 c _ z (fun z'=>by cases z'))];exact z
    ·rw [<- e6 c (ne5 c _ z (fun z'=>by cases z'))];exact z
   obtain ⟨oe,he,yr,yn,vs',a0,yo,h1,h0⟩:=id hN;refine ⟨rv5,ex,oe,vs',rfl,he,yr,yo,h1,?_,hx.made π σ H2 _ ⟨h2,g2,d2,t2,xI⟩ s5 ex C (some d) I2 os5 bare5 MV hokF e7 mV.new hN (hR d hd2)⟩;exact I2.ok.mod.il.keeps fun b o z=>MV.keep b o (I2.bs b o z).1 (I2.bs b o z).2 (fun hb=>by have:=(I2.stack.mem hb).1;rw [z] at this;cases this) (by simp)
section
variable {prog:Program} {w:World} {A:Around} {E:Value->Shared->Prop} {s:Shared} {K:ν} {x C f d:Addr} {fld:Str}
open Builtin Builtin.ObjectAttr in
def ZN {M:Model} {h:Heap} {mA:Str->Option Value} {u:Value} (Z:gI K C f fld) (X:K.In h) (I:dq x (.ref C) (some d) h) (hn:h.Ns1 d mA) (hu:mA fld=some u):W.Looks M h (find (.ref x) (.ref C) fld) (.value u):=by
 have L1:=GE (M:=M) X Z.na;obtain ⟨bm,N,nm,qn,bs,sn,sub,ab,col,dd,k0,k1,k2,k3,k5,hC,T,MD⟩:=vv X Z.q;have Lc:W.Looks M h (classData C) _:=(_k (part:=none) hC).andThen .now;obtain ⟨o,hx,hc,jA,vs,eX⟩:=I;obtain ⟨oc,od,E4,dA⟩:=o;dsimp only at hc jA eX;subst hc jA eX;intro A' Q' E' s' k q;unfold find;refine li (L1 _ _ _ _ k ?_);refine li (sw (li (sw ?_)));show wpAny M A' (ownThenClass (.ref x) fld none none) Q' E' s';unfold ownThenClass inOwnDict ownDict;refine li (li (li (_j (k _ _ hx) ?_)));show wpAny M A' (instanceDict x false) _ E' s';unfold instanceDict;refine li (_j (k _ _ hx) (li (Lc _ _ _ _ k ?_)));refine sw (a:=some d) ?_;show wpAny M A' (nsGet d fld) _ E' s';refine wpAny_nsGet (hn.ns.keeps k) ?_;rw [hu];exact li (wpAny_rule (sw q))
def VG {v:V} {u:Value} (r:RelV v u):handedOut u=pure u:=by
 cases v <;> first
  | (cases r;rfl)
  | (obtain ⟨t,rfl⟩:=r;rfl)
def aa7 {b:Bool} {Q:Value->Shared->Prop} {mA:Str->Option Value} {u:Value} (Z:gI K C f fld) (ZK:fL K C) (X:K.In s.heap) (I:dq x (.ref C) (some d) s.heap) (hn:s.heap.Ns1 d mA) (hu:mA fld=some u) (hh:handedOut u=pure u)
  (h:Q u { s with toks:=s.toks+1 }):wpAny (model prog w) A (getAttr (.ref x) fld b) Q E s:=by
 obtain ⟨hp,g,dr,t,os⟩:=s;have L0:=n9 (M:=model prog w) I;have L1:=GE (M:=model prog w) X ZK.xy;have L2:=GE (M:=model prog w) X ZK.GK;have L3:=ZN (M:=model prog w) Z X I hn hu;unfold getAttr getAttrBy;refine li (wpAny_mkText (KB (li (L0.at (li (L1.at ?_))))));show wpAny _ _ (getAttrByItsOwn (.ref x) (.str fld t) (.ref C) (.builtin "BaseException.__getattribute__") true b) _ _ _;unfold getAttrByItsOwn;refine li (L2.at ?_);refine li (Jad (KB ?_));have ec:callGetattribute (.ref x) (.str fld t) (.builtin "BaseException.__getattribute__") b=boundAndCalled (.builtin "BaseException.__getattribute__") (.ref x) (.str fld t):=by
  unfold callGetattribute;cases b <;> rfl
 rw [ec];unfold boundAndCalled;refine li (wpAny_of_eq (_l.ga.bind (.ref x)) ?_);refine WP (_e _l.ga.plain PySem.F.entry_bexc_ga (He ZK X I ?_));show wpAny _ _ (Builtin.«object.__getattribute__» ⟨[.ref x,.str fld t],[]⟩) _ _ _;unfold Builtin.«object.__getattribute__»;refine li (sw (li (sw (li (L0.at (li (L3.at ?_)))))));refine sw ?_;show wpAny _ _ (handedOut u) _ _ _;rw [hh];exact sw h
end
def An (C:Addr) (fld:Str) (ta:TE):TE:=fun σ H Q=>ta σ H fun x H1=>∃ ea d fs v,x=.ref ea/\H1 ea=some (lb ea C (some d))/\H1 d=some (.xd fs)/\fs.lookup fld=some v/\Q v H1
def XQ {X:Cx} {C f:Addr} {fld:Str} {e:Expr} {ta:TE} {pos:Pos} (Z:gI X.K C f fld) (ZK:fL X.K C) (he:PE X e ta) (hb:attributeBase e fld X.env (eval e X.env)=eval e X.env):PE X (.Attribute e fld pos) (An C fld ta):=by
 intro π s σ H Q I h;refine LC hb (aB (he π s σ H _ I h) fun u s1 ⟨x,H1,I1,rx,ea,d,fs,v,ex,h1,h2,hl,q⟩=>?_);subst ex;obtain rfl:u=Value.ref ea:=rx;obtain ⟨p,_,_⟩:=(show bR X.prog X.w H1 s1.heap ea (lb ea C (some d)) from I1.ay ea _ h1);obtain ⟨mA,eA,hrel⟩:=(show bR X.prog X.w H1 s1.heap d (.xd fs) from I1.ay d _ h2);have hr:=hrel fld;rw [hl] at hr;cases hm:mA fld with
 | none=>rw [hm] at hr;exact hr.elim
 | some u' =>
  rw [hm] at hr;exact aa7 Z ZK I1.bX p eA hm (VG hr) ⟨v,H1,I1.tok _,hr,q⟩
inductive FI (C:Addr) (f:Str) (x:V) (H:Hp) (Q:V->Prop):Prop
 | mk:∀ a dx fs v,x=.ref a->H a=some (.ins C dx fs)->fs.lookup f=some v->Q v->FI C f x H Q
inductive SI (C:Addr) (f:Str) (x y:V) (H:Hp) (R:Hp->Prop):Prop
 | mk:∀ a dx fs,x=.ref a->H a=some (.ins C dx fs)->fs.length < 1000->R (upd H a (.ins C dx (ax f y fs)))->SI C f x y H R
inductive AI (C:Addr) (f:Str) (x:V) (H:Hp) (Q:Addr->V->Prop):Prop
 | mk:∀ a dx fs v,x=.ref a->H a=some (.ins C dx fs)->fs.lookup f=some v->Q a v->AI C f x H Q
inductive BI (C:Addr) (f:Str) (a:Addr) (z:V) (H:Hp) (R:Hp->Prop):Prop
 | mk:∀ dx fs,H a=some (.ins C dx fs)->fs.length < 1000->R (upd H a (.ins C dx (ax f z fs)))->BI C f a z H R
def vH (C:Addr) (f:Str) (ta:TE):TE:=fun σ H Q=>ta σ H fun x H1=>FI C f x H1 fun v=>Q v H1
def tY (C:Addr) (f:Str) (ta tv:TE):TS:=fun D σ H=>tv σ H fun y H1=>ta σ H1 fun x H2=>SI C f x y H2 fun H3=>D.nx σ H3
def Bx (C:Addr) (f:Str) (ta tv:TE) (rd:R2):TS:=fun D σ H=>ta σ H fun x H1=>AI C f x H1 fun a v=>tv σ H1 fun y H2=>rd v y H2 fun z H3=>BI C f a z H3 fun H4=>D.nx σ H4
def zr (C:Addr) (m:Str) (sp:Sp) (bj:List V) (R:St->XK) (ta:TE) (t:TA):TE:=fun σ H Q=>ta σ H fun x H1=>MI C m x H1 (t σ H1 fun vs H2=>sp (x::(vs++bj)) H2 Q (R σ))
section
variable {X:Cx} {k:Nat} {f C:Addr} {fd:FuncData} {ps:List Str} {sp:Sp} {bj:List V} {ds:List Value} {R:St->XK} {x m:Str} {p pos apos:Pos} {e o:Expr} {es:List Expr} {ta:TE} {t:TA}
def ZA {pl:Sem Bool} (he:PE X o ta) (c:cX X.K C) (hm:Meth X.K C m f) (F:aA X.prog X.w X.K X.mg X.base (bC X.prog X.w) k f fd ps sp) (hr:bb k X.A) (hb:Binds X.K fd ps ds) (hd:Vals bj ds) (hx:gU X R) (ha:PA X (e::es) t) (hs:(e::es).all noStar=true:=by rfl)
  (ht:eval (.Call (.Attribute o m apos) (e::es) [] pos) X.env=(do
   let ov <- eval o X.env
   standAt apos.atName
   let (f,first) <- holding [ov] (getMethod ov m pl)
   callWith pos f first (backTo pos (starEach (e::es) X.env)) (backToKw pos (keywordEach [] X.env))):=by rfl):PE X (.Call (.Attribute o m apos) (e::es) [] pos) (zr C m sp bj R ta t):=by
 have hs':=hs;rw [KK,AC] at hs';intro π s σ H Q I h;refine _S (pl:=pl) (aB (he π s σ H _ I h) fun u s1 ⟨x,H1,I1,rx,a,dx,fs,ex,ea,l,q⟩=>?_) ht;subst ex;obtain rfl:u=Value.ref a:=rx;refine yY I1 ea c hm l (ST (first:=[.ref a]) (h₀:=X.base) I.ok.mod.il hm.kp (aB (ha pos π s1 σ H1 _ I1 q) fun us s2 ⟨vs,H2,I2,r,q2⟩=>⟨I2.bX,?_⟩) (fS hs'.1) (iH hs'.2));exact IB (us:=.ref a::us) (vs:=.ref a::vs) F hr hb hd hx I2 (.cons rfl r) q2
end
section
variable {X:Cx} {C:Addr} {f:Str} {e o value:Expr} {ta tv:TE} {pos pos' rf:Pos}
def Tr (c:cX X.K C) (n:bw X.K C f) (he:PE X e ta) (hb:attributeBase e f X.env (eval e X.env)=eval e X.env):PE X (.Attribute e f pos) (vH C f ta):=by
 intro π s σ H Q I h;refine LC hb (aB (he π s σ H _ I h) fun u s1 ⟨x,H1,I1,rx,a,dx,fs,v,ex,ea,l,q⟩=>?_);subst ex;obtain rfl:u=Value.ref a:=rx;exact Mw I1 ea c n l fun u' s2 I2 ru=>⟨v,H1,I2,ru,q⟩
def YG (c:cX X.K C) (n:bw X.K C f) (ha:PE X o ta) (hv:PE X value tv) (hs:swapsWith value (some (.Attribute o f pos')) pos.line X.env=pure false):PS X (.Assign [.Attribute o f pos'] value pos) (tY C f ta tv):=by
 intro π s σ H D I h;refine plainObj_wpAny_Assign_Attribute (aB (hv π s σ H _ I h) fun u s1 ⟨y,H1,I1,ry,q⟩=>aB (ha π s1 σ H1 _ I1 q) fun ov s2 ⟨x,H2,I2,rx,a,dx,fs,ex,ea,l,q2⟩=>?_) hs;subst ex;obtain rfl:ov=Value.ref a:=rx;exact Le I2 ea c n l ry fun s3 I3=>⟨σ,_,I3,q2⟩
def S0 {op:Operator} {rd:R2} (c:cX X.K C) (n:bw X.K C f) (ha:PE X o ta) (hv:PE X value tv) (EW:yN X op rd):PS X (.AugAssign (.Attribute o f rf) op value pos) (Bx C f ta tv rd):=by
 intro π s σ H D I h;refine wpAny_AugAssign_AttributeAny (aB (ha π s σ H _ I h) fun ov s1 ⟨x,H1,I1,rx,a,dx,fs,v,ex,ea,l,q⟩=>?_);subst ex;obtain rfl:ov=Value.ref a:=rx;refine Mw I1 ea c n l fun u s2 I2 ru=>aB (hv π s2 σ H1 _ I2 q) fun w3 s3 ⟨y,H2,I3,ry,q3⟩=>aB (EW π s3 σ H2 v y u w3 _ I3 ru ry q3) fun w4 s4 ⟨z,H3,I4,rz,dx',fs',ea',l',q4⟩=>?_;exact Le I4 ea' c n l' rz fun s5 I5=>⟨σ,_,I5,q4⟩
end
def Kb {X:Cx} {op:CmpOp} {a b:Expr} {t:TE} {pos:Pos} (h:PC X op a b t) (hm:behindInMarks op b=false:=by first | exact wW _ (by decide) (by decide) | rfl):PT X (.Compare a [op] [b] pos) (cN t):=by
 intro π s σ H Q I hw;refine wpAny_isTrue_Compare1 (aB (h π s σ H _ I hw) fun v s1 h1=>aB h1 fun u s2 h2=>aB h2 fun c s3 ⟨x,H1,I1,r1,q1⟩=>?_) hm;obtain ⟨k,rfl,q⟩:=zV q1;cases r1;exact Op ⟨H1,I1,q⟩
namespace Dv
section
variable {X:Cx} {a b o e i value:Expr} {ta tb td ty tv:TE} {es:List Expr} {t:TA} {pos pos' apos bh p rf:Pos} {f C:Addr} {fn m x:Str} {k:Nat} {fd:FuncData} {ps:List Str} {sp:Sp} {bj:List V} {ds:List Value} {R:St->XK} {CX:dW} {E:XK} {tA:TT} {body:List Stmt} {tB:TS}
def fld (c:cX X.K C) (n:bw X.K C fn) (he:QE X e ta) (hb:attributeBase e fn X.env (eval e X.env)=eval e X.env:=by rfl):QE X (.Attribute e fn pos) (vH C fn ta):=⟨Tr c n he.h hb⟩
def bu (c:cX X.K C) (n:bw X.K C fn) (ha:QE X o ta) (hv:QE X value tv) (hs:swapsWith value (some (.Attribute o fn pos')) pos.line X.env=pure false:=by rfl):QS X (.Assign [.Attribute o fn pos'] value pos) (tY C fn ta tv):=⟨YG c n ha.h hv.h hs⟩
def jV {op:Operator} {rd:R2} (c:cX X.K C) (n:bw X.K C fn) (EW:yN X op rd) (ha:QE X o ta) (hv:QE X value tv):QS X (.AugAssign (.Attribute o fn rf) op value pos) (Bx C fn ta tv rd):=⟨S0 c n ha.h hv.h EW⟩
def Pb (Z:gI X.K C f fn) (ZK:fL X.K C) (he:QE X e ta) (hb:attributeBase e fn X.env (eval e X.env)=eval e X.env:=by rfl):QE X (.Attribute e fn pos) (An C fn ta):=⟨XQ Z ZK he.h hb⟩
def K7 (Z:gI X.K C f fn) (ha:QE X o ta) (hv:QE X value tv) (hs:swapsWith value (some (.Attribute o fn pos')) pos.line X.env=pure false:=by rfl):QS X (.Assign [.Attribute o fn pos'] value pos) (BB C fn ta tv):=⟨YU Z ha.h hv.h hs⟩
def bI {pl:Sem Bool} (c:cX X.K C) (hm:Meth X.K C m f) (F:aA X.prog X.w X.K X.mg X.base CX k f fd ps sp) (hr:bb k X.A) (hb:Binds X.K fd ps ds) (hd:Vals bj ds) (hx:Passes CX X E) (ho:QE X o ta) (ha:QA X (e::es) t) (hs:(e::es).all noStar=true:=by rfl)
  (ht:eval (.Call (.Attribute o m apos) (e::es) [] pos) X.env=(do
   let ov <- eval o X.env
   standAt apos.atName
   let (f,first) <- holding [ov] (getMethod ov m pl)
   callWith pos f first (backTo pos (starEach (e::es) X.env)) (backToKw pos (keywordEach [] X.env))):=by rfl):QE X (.Call (.Attribute o m apos) (e::es) [] pos) (uq C m sp bj E ta t):=by
 have hs':=hs;rw [KK,AC] at hs';exact ⟨U1 ho.h c hm F hr hb hd hx ha.h (fS hs'.1) (iH hs'.2) ht⟩
def DY {pl:Sem Bool} (c:cX X.K C) (hm:Meth X.K C m f) (F:aA X.prog X.w X.K X.mg X.base CX k f fd ps sp) (hr:bb k X.A) (hb:Binds X.K fd ps ds) (hd:Vals bj ds) (hx:Passes CX X E) (ho:QE X o ta)
  (ht:eval (.Call (.Attribute o m apos) [] [] pos) X.env=(do
   let ov <- eval o X.env
   standAt apos.atName
   let (f,first) <- holding [ov] (getMethod ov m pl)
   callWith pos f first (backTo pos (starEach [] X.env)) (backToKw pos (keywordEach [] X.env))):=by rfl):QE X (.Call (.Attribute o m apos) [] [] pos) (uq C m sp bj E ta lV):=⟨QK ho.h c hm F hr hb hd hx ht⟩
def fB {pl:Sem Bool} (c:cX X.K C) (hm:Meth X.K C m f) (F:aA X.prog X.w X.K X.mg X.base (bC X.prog X.w) k f fd ps sp) (hr:bb k X.A) (hb:Binds X.K fd ps ds) (hd:Vals bj ds) (hx:gU X R) (ho:QE X o ta) (ha:QA X (e::es) t) (hs:(e::es).all noStar=true:=by rfl)
  (ht:eval (.Call (.Attribute o m apos) (e::es) [] pos) X.env=(do
   let ov <- eval o X.env
   standAt apos.atName
   let (f,first) <- holding [ov] (getMethod ov m pl)
   callWith pos f first (backTo pos (starEach (e::es) X.env)) (backToKw pos (keywordEach [] X.env))):=by rfl):QE X (.Call (.Attribute o m apos) (e::es) [] pos) (zr C m sp bj R ta t):=⟨ZA ho.h c hm F hr hb hd hx ha.h hs ht⟩
def make (M:Mk X.K C f) (F:aA X.prog X.w X.K X.mg X.base CX k f fd ps sp) (hr:bb (k+1) X.A) (hm:X.mg x=some (.ref C)) (hb:Binds X.K fd ps ds) (hd:Vals bj ds) (hx:Passes CX X E) (ha:QA X (e::es) t) (hg:Gl X x:=by rfl) (hs:(e::es).all noStar=true:=by rfl) (bM:(x == ("__debug__":Str))=false:=by decide) :
  QE X (.Call (.Name x p) (e::es) [] pos) (r9 C sp bj E t):=by
 have hs':=hs;rw [KK,AC] at hs';exact ⟨WH M F hr hg hm hb hd hx ha.h bM (fS hs'.1) (iH hs'.2)⟩
def VR (M:Mk X.K C f) (F:aA X.prog X.w X.K X.mg X.base CX k f fd ps sp) (hr:bb (k+1) X.A) (hm:X.mg x=some (.ref C)) (hb:Binds X.K fd ps ds) (hd:Vals bj ds) (hx:Passes CX X E) (hg:Gl X x:=by rfl) (bM:(x == ("__debug__":Str))=false:=by decide) :
  QE X (.Call (.Name x p) [] [] pos) (r9 C sp bj E lV):=⟨W7 M F hr hg hm hb hd hx bM⟩
def oH (hx:Ah X R) (hex:X.ex=[]) (hc:X.calm=true) (hm:X.mg x=some (.ref C)) (Z:gI X.K C f fn) (cC:W.typeIn X.K (.ref C)=some (.type "type")) (F:aA X.prog X.w X.K X.mg X.base aM k f fd ps (mG C fn)) (hr:bb (k+1) X.A) (hb:Binds X.K fd ps []) (ha:QA X (e::es) t)
  (hg:Gl X x:=by rfl) (hs:(e::es).all noStar=true:=by rfl) (bM:(x == ("__debug__":Str))=false:=by decide):QS X (.Raise (some (.Call (.Name x p) (e::es) [] bh)) none pos) (yK C fn R t):=⟨aaE hx hex hc hm Z cC F hr hb ha.h hg hs bM⟩
def lW (hu:X.A.units+1 < cLine) (ho:QE X o td) (hi:QE X i ty) (hs:Dm i:=by intro _ _;rfl):QE X (.Subscript o i pos) (zH td ty):=⟨abx hu ho.h hi.h hs⟩
def BO (hu:X.A.units+1 < cLine) (hi:QE X i ty) (ho:QE X o td) (hm:behindInMarks .In o=false:=by rfl):QT X (.Compare i [.In] [o] pos) (cN (Ap ty td)):=⟨Kb (aaf hu hi.h ho.h) hm⟩
def BH (hu:X.A.units+1 < cLine) (hi:QE X i ty) (ho:QE X o td) (hm:behindInMarks .NotIn o=false:=by rfl):QT X (.Compare i [.NotIn] [o] pos) (cN (zO ty td)):=⟨Kb (S4 hu hi.h ho.h) hm⟩
def nY (hu:X.A.units+1 < cLine) (ho:QE X o td) (hi:QE X i ty) (hv:QE X value tv) (hs:swapsWith value (some (.Subscript o i pos')) pos.line X.env=pure false:=by rfl):QS X (.Assign [.Subscript o i pos'] value pos) (Ao td ty tv):=⟨ab9 hu ho.h hi.h hv.h hs⟩
def YT:QE X (.Dict [] [] pos) zI:=⟨XR⟩
def aay (hu:X.A.units+1 < cLine) (ho:QE X o td) (he:QE X e ty) (m1:M1 X o "get" apos e bh:=by exact ⟨rfl,rfl,rfl,rfl⟩):QE X (.Call (.Attribute o "get" apos) [e] [] bh) (Dk td ty):=⟨Zo hu ho.h he.h m1⟩
def KS (ho:QE X o td) (he:QE X e ty) (m1:M1 X o "pop" apos e bh:=by exact ⟨rfl,rfl,rfl,rfl⟩):QE X (.Call (.Attribute o "pop" apos) [e] [] bh) (yR td ty):=⟨WG ho.h he.h m1⟩
def uL (hp:PassesOwn (model X.prog X.w) X.A X.env X.xe) (hc:QT X a tA) (hb:QB X body tB):QS X (.While a body [] pos) (Mr tA tB):=⟨O2 hp hc.h hb.h⟩
def HK (hc:QT X o tA) (ha:QE X a ta) (hb:QE X b tb):QE X (.IfExp o a b pos) (BV tA ta tb):=⟨Pp hc.h ha.h hb.h⟩
end
end Dv
def UD {P:Program} {w:World} {K:ν} {mg:Str->Option Value} {base:Heap} {N:List Str} {qual:Str} {scope:Scope} {f:Addr} {cd:Value} {A:Around} {outer:List Env} {s₀:Shared} {H₀:Hp} {E:XK} {CX:dW} :
  PassesOwn (model P w) (df CX P w K mg base N qual scope f cd A outer s₀ H₀ E).A (df CX P w K mg base N qual scope f cd A outer s₀ H₀ E).env (df CX P w K mg base N qual scope f cd A outer s₀ H₀ E).xe:=PassesOwn.leaving
structure RK (X:Cx) (π:List (Addr×Obj)) (σ:St) (H:Hp) (ea C:Addr) (od:Option Addr) (s:Shared):Prop where
 fl:∃ B a0,Heap.FlyingW B (X.env::X.outer) ea (.ref C) a0 s.heap/\∀ h4:Heap,B.StaysIn h4->s.heap.UpToSlots h4->Inv X π σ H { s with heap:=h4 }
 hd:dq ea (.ref C) od s.heap
 free:H ea=none
 n0:X.s₀.heap.get? ea=none
 nL:ea≠X.env.locals
 nC:∀ x c,X.env.cells.lookup x=some c->c≠ea
 nP:∀ p∈X.pn++π,p.1≠ea
abbrev wU:=Ends->St->Addr->Option Addr->Hp->Prop
def PH (X:Cx) (hs:List ExceptHandler) (t:wU):Prop:=∀ (π:List (Addr×Obj)) (s:Shared) (σ:St) (H:Hp) (D:Ends) (ea C:Addr) (od:Option Addr),RK X π σ H ea C od s->t D σ C od H->wpAny (model X.prog X.w) X.A (handleBy (.ref ea) X.env hs) (SP X π D) X.xe s
section
variable {X:Cx} {K:ν} {Cc:Addr} {n x:Str} {oU:List Stmt} {b₀:Stmt} {np hpos pos:Pos} {th:TS} {tr:wU} {rest:List ExceptHandler}
end
structure QH (X:Cx) (hs:List ExceptHandler) (t:wU):Prop where
 h:PH X hs t
namespace Dv
section
variable {X:Cx} {K:ν} {Cc:Addr} {n x:Str} {oU:List Stmt} {b₀:Stmt} {np hpos pos:Pos} {th:TS} {tr:wU} {rest:List ExceptHandler}
end
end Dv
def leS (a b:Str):Bool:=!ltCps b.cps.toList a.cps.toList
def Ja (ts:List Str):List Str:=ts.mergeSort leS
section
variable {X:Cx}
end
def nU (P:Program) (w:World) (K:ν) (mg:Str->Option Value) (base:Heap) (N:List Str) (qual:Str) (scope:Scope) (f:Addr) (cd:Value) (cl:List (Str×Addr)) (A:Around) (outer:List Env) (s:Shared) (H:Hp) (E:XK):Cx where
 prog:=P
 w:=w
 K:=K
 mg:=mg
 base:=base
 A:=A.deeper (W.envX qual scope s.heap.objs.size f cd cl)
 N:=N
 s₀:=s
 H₀:=H
 env:=W.envX qual scope s.heap.objs.size f cd cl
 outer:=outer
 stack:=W.envX qual scope s.heap.objs.size f cd cl::outer
 ex:=[]
 calm:=true
 fn:=fun _=>false
 pn:=[]
 xe:=fun e s'=>wpAny (model P w) (A.deeper (W.envX qual scope s.heap.objs.size f cd cl)) (leaving (W.envX qual scope s.heap.objs.size f cd cl) e) (fun _ s''=>bC P w outer H s E e s'') (fun e' s''=>bC P w outer H s E e' s'') s'
def lx (c:Addr) (q:Str):HO:=.ext fun h=>h.CodeRec (.ref c) q
structure uv (N:List Str) (scope:Scope) (cl:List (Str×Addr)):Prop where
 kind:scope.kind=.function
 co:scope.isCoroutine=false
 gen:scope.isGenerator=false
 tL:∀ x∈scope.names,x.2≠.cell
 free:∀ x∈N,scope.names.lookup x=some .free
 has:∀ x,scope.names.lookup x=some .free->∃ c,cl.lookup x=some c
 inj:∀ x y c,cl.lookup x=some c->cl.lookup y=some c->x=y
def mL (P:Program) (w:World) (K:ν) (mg:Str->Option Value) (base:Heap) (k:Nat) (s1:Shared) (B:Addr->Prop) (f:Addr) (bg:Hp->VK->XK->Prop):Prop :=
 ∀ (A:Around) (outer:List Env) (s:Shared) (H:Hp) (Q:VK) (E:XK),bb k A->kS P w K mg base A outer s H ->
  (∀ b o,B b->s1.heap.get? b=some o->s.heap.get? b=some o/\H b=none)->bg H Q E ->
  codeAny (model P w) A (.call (.ref f) ⟨[],[]⟩) (CR (bC P w) outer P w H s Q E) s
def Ru {P:Program} {w:World} {K:ν} {mg:Str->Option Value} {base:Heap} {k:Nat} {s1:Shared} {B:Addr->Prop} {f:Addr} {bg:Hp->VK->XK->Prop} {N:List Str} {vs:List V}
  {name qual:Str} {params:Arguments} {body:Expr} {scope:Scope} {cl:List (Str×Addr)} {cdv:Value} (S:uv N scope cl)
  (ho:∀ (s:Shared) (H:Hp) (Q:VK) (E:XK),cg P w H s.heap->(∀ b o,B b->s1.heap.get? b=some o->s.heap.get? b=some o/\H b=none)->bg H Q E->∃ o pm ct,s.heap.get? f=some o/\o.data=.func (W.kla_fn name qual params body scope cl pm cdv ct))
  (bo:∀ H Q E,bg H Q E->∃ c,cdv=.ref c/\H c=some (lx c qual))
  (hB:∀ x c,cl.lookup x=some c->B c) (hlen:vs.length=N.length)
  (kx:∀ x c,cl.lookup x=some c->∃ v,s1.heap.IsCell c v)
  (hcells:∀ (i:Nat) (x:Str) (v:V),N[i]?=some x->vs[i]?=some v->∃ c u,cl.lookup x=some c/\RelV v u/\s1.heap.IsCell c (some u))
  (E8:∀ pm ct,bindArgs (W.kla_fn name qual params body scope cl pm cdv ct) ⟨[],[]⟩=pure [])
  (pf:∀ (A:Around) (outer:List Env) (s:Shared) (H:Hp) (Q:VK) (E:XK),bb k (A.deeper (W.envX qual scope s.heap.objs.size f cdv cl))->bg H Q E ->
   ∃ t,PE (nU P w K mg base N qual scope f cdv cl A outer s H E) body t/\t (vs.map some) H Q) :
  mL P w K mg base (k+1) s1 B f bg:=by
 intro A outer s H Q E hr e0 hk hw;obtain ⟨o,pm,ct,m4,yq⟩:=ho s H Q E e0.ay hk hw;obtain ⟨c,rfl,EM⟩:=bo H Q E hw;have xK:s.heap.CodeRec (.ref c) qual:=(e0.ay c _ EM).1;have lim:s.heap.NoLimit:=e0.mod.nolimit.keeps fun b o e=>(e0.bs b o e).1;refine W.kla_callFunE (fd:=W.kla_fn name qual params body scope cl pm (.ref c) ct) hr.depth m4 yq S.co S.gen rfl xK ?_;rw [E8 pm ct];refine sw (wpAny_newFunctionEnv S.tL (fun _ z=>nomatch z) (fun h₁ eA ko=>⟨lim.fresh _ ko,?_⟩) S.kind);show codeAny _ _ (.expr body (W.envX qual scope s.heap.objs.size f (.ref c) cl)) _ _;have Ey:∀ b o,s.heap.get? b=some o->h₁.get? b=some o:=fun b o e=>ko.extBut b o (zn (u8 e)) (pc _ e);obtain ⟨t,ht,hq2⟩:=pf A outer s H Q E (hr.deeper _) hw;have lF:∀ b:Addr,b ∉ (nU P w K mg base N qual scope f (.ref c) cl A outer s H E).ex:=fun b z=>absurd (show b∈([]:List Addr) from z) (by simp);have cellK:∀ x c',cl.lookup x=some c'->∀ v,s1.heap.IsCell c' v->h₁.IsCell c' v/\H c'=none:=fun x c' e v ⟨o',e1,e2⟩ =>
  ⟨⟨o',Ey _ _ (hk c' o' (hB x c' e) e1).1,e2⟩,(hk c' o' (hB x c' e) e1).2⟩
 have I:Inv (nU P w K mg base N qual scope f (.ref c) cl A outer s H E) [] (vs.map some) H { s with heap:=h₁,toks:=s.toks+([]:List (Str×Value)).length }:=by
  refine ⟨⟨e0.mod,S.kind,rfl,rfl,sK _,S.inj,fun y hy=>?_,fun y c' hf=>absurd hf (by simp [nU]),fun _=>hr.hd,Around.frames_deeper e0.frames,.inr ⟨rfl,rfl⟩,fun b z=>absurd z (lF b),e0.bs,e0.gY,fun b _ _=>lF b,fun b z=>absurd z (lF b),e0.fz,e0.jk⟩,
   rfl,e0.bare,Un.kept Ey,⟨_,eA,fun i y v h1 h2 h3=>?_⟩,fun y c' h=>?_,e0.ay.fresh (sK _),fun y c' h=>?_,fun p hp=>absurd (show p∈([]:List (Addr×Obj)) from hp) (by simp),e0.ay.kept Ey,?_⟩
  ·have hy:scope.names.lookup y=some .cell\/scope.names.lookup y=some .free:=hy;rcases hy with hy | hy
   ·exact absurd rfl (S.tL _ (Fk hy))
   ·exact S.has y hy
  ·have h1':N[i]?=some y:=h1;have ha:vs[i]?=some v:=by
    rw [Ev] at h2;cases e:vs[i]? with
    | none=>rw [e] at h2;cases h2
    | some a=>rw [e] at h2;cases h2;rfl
   obtain ⟨c',u,e1,rv,e2⟩:=hcells i y v h1' ha;exact ⟨u,rv,.inr ⟨.inr (S.free y (NE h1')),c',e1,(cellK y c' e1 _ e2).1⟩⟩
  ·obtain ⟨v,e⟩:=kx y c' h;exact ⟨v,(cellK y c' h v e).1⟩
  ·obtain ⟨v,e⟩:=kx y c' h;exact (cellK y c' h v e).2
  ·show (vs.map some).length=N.length;rw [ss,hlen]
 refine W.kla_codeExpr (IR (ht [] _ (vs.map some) H _ I hq2) (fun u s' hs=>?_) fun e s' hs=>hs);obtain ⟨v,H',J,rv,q⟩:=hs;exact ⟨v,H',J.os,J.bare,J.base,J.ay,rv,q⟩
def jj {P:Program} {w:World} {K:ν} {mg:Str->Option Value} {base:Heap} {N:List Str} {qual:Str} {scope:Scope} {f:Addr} {cd:Value} {cl:List (Str×Addr)} {A:Around} {outer:List Env} {s₀:Shared} {H₀:Hp} {E:XK} :
  gU (nU P w K mg base N qual scope f cd cl A outer s₀ H₀ E) (fun _=>E) where
 pass:=fun π σ H s e s' I hc=>by
  obtain ⟨ea,C,od,H',rfl,F,hE⟩:=hc;exact aB (I.HZ ⟨rfl,rfl,rfl⟩ I.ok.frames F) fun _ s'' z=>⟨ea,C,od,H',rfl,z,hE⟩
def wb (outer:List Env) (H:Hp) (s:Shared) (B:Addr->Prop):Prop:=∀ b,B b->(∃ o,s.heap.get? b=some o)/\H b=none/\b ∉ bL outer
def Up (i:Nat) (f:Addr) (bg:Hp->VK->XK->Prop) (R:St->XK):TE:=fun σ H Q=>σ[i]?=some (some (.ref f))/\bg H Q (R σ)
abbrev xv:=List Env->Shared->Sp
structure tw (P:Program) (w:World) (K:ν) (mg:Str->Option Value) (base:Heap) (CX:dW) (k:Nat) (f:Addr) (fd:FuncData) (ps:List Str) (sp:xv):Prop where
 len:∀ outer s vs H Q E,sp outer s vs H Q E->vs.length=ps.length
 run:∀ (A:Around) (outer:List Env) (s:Shared) (H:Hp) (args:Args) (us:List Value) (vs:List V) (Q:VK) (E:XK),bb k A->kS P w K mg base A outer s H->BindsTo s fd args (ps.zip us)->Vals vs us->sp outer s vs H Q E ->
  codeAny (model P w) A (.call (.ref f) args) (CR CX outer P w H s Q E) s
def acX {CX:dW} {P:Program} {w:World} {K:ν} {mg:Str->Option Value} {base:Heap} {k:Nat} {f:Addr} {name qual:Str} {params:Arguments} {body:List Stmt} {scope:Scope} {dV kV doc pm cdv ct oc:Value} {an od:Option Addr}
  {dA:Array (Option Value)} {N ps:List Str} {sp:xv} (lk:K.lookup f=some ⟨oc,od,.func (W.fnOf name qual params body scope dV kV doc pm an cdv ct),dA⟩) (bo:W.codeIn K cdv qual=true) (S:aE N ps scope)
  (len:∀ outer s vs H Q E,sp outer s vs H Q E->vs.length=ps.length)
  (pf:∀ (A:Around) (outer:List Env) (s:Shared) (H:Hp) (vs:List V) (Q:VK) (E:XK),bb k (A.deeper (envOfC qual scope s.heap.objs.size f cdv))->sp outer s vs H Q E ->
   ∃ t,dz (df CX P w K mg base N qual scope f cdv A outer s H E) body t/\t { nx:=fun _ H'=>Q .aq H',rt:=Q } (start N vs) H) :
  tw P w K mg base CX (k+1) f (W.fnOf name qual params body scope dV kV doc pm an cdv ct) ps sp:=by
 refine ⟨len,fun A outer s H args us vs Q E hr e0 hb r dD=>?_⟩;have hl:=len _ _ _ _ _ _ dD;have KX:K.In s.heap:=e0.mod.il.keeps fun b o e=>(e0.bs b o e).1;have lim:s.heap.NoLimit:=e0.mod.nolimit.keeps fun b o e=>(e0.bs b o e).1;have Fg:∀ y∈ps.zip us,scope.names.lookup y.1=some .local\/(scope.names.lookup y.1=some .cell/\((cellsFrom (s.heap.objs.size+1) scope.names []).lookup y.1).isSome=true):=fun ⟨n,v⟩ hy=>by
  rcases S.par n (_2 hy).1 with q | q
  ·exact .inl q
  ·exact .inr ⟨q,_M _ _ _ (.inl q)⟩
 refine codeAny_call_function hr.depth (KX _ _ lk) rfl S.co S.gen rfl (W.codeRec_of KX bo) (hb _ _ _ _ ?_);refine wpAny_newFunctionEnv_cells S.kind Fg fun env he s1 x=>?_;subst he;refine ⟨lim.keeps x.toInCall.keep,codeAny_func ?_⟩;obtain ⟨t,ht,hq⟩:=pf A outer s H vs Q E (hr.deeper _) dD;have I:Inv (df CX P w K mg base N qual scope f cdv A outer s H E) [] (start N vs) H s1:=JP S hr.hd e0 hl r x;refine IR (ht [] s1 (start N vs) H _ I hq) (fun fl s' hs=>?_) fun e s' hs=>hs;have fin:∀ {σ':St} {H':Hp} {v:V} {u:Value},Inv (df CX P w K mg base N qual scope f cdv A outer s H E) [] σ' H' s'->RelV v u->Q v H'->CE outer P w H s Q u s' :=
  fun {σ' H' v u} J rv q=>⟨v,H',J.os,J.bare,J.base,J.ay,rv,q⟩
 cases fl with
 | ret u =>
  obtain ⟨v,σ',H',J,rv,q⟩:=hs;exact fin J rv q
 | next =>
  obtain ⟨σ',H',J,q⟩:=hs;exact fin (v:=V.aq) (u:=Value.none) J rfl q
 | brk =>
  obtain ⟨_,_,_,q⟩:=hs;exact False.elim q
 | cont =>
  obtain ⟨_,_,_,q⟩:=hs;exact False.elim q
abbrev Ent:=Int×Int×Addr
def dZ:List Ent->List Value
 | []=>[]
 | e::r=>rawInt e.1::rawInt e.2.1::.ref e.2.2::dZ r
def G5:∀ (a b:List Ent),dZ (a++b)=dZ a++dZ b
 | [],b=>rfl
 | e::r,b=>by show _::_::_::dZ (r++b)=_;rw [G5 r b];rfl
def Bn:∀ es:List Ent,TriplesOk (dZ es)
 | []=>trivial
 | e::r=>Bn r
def Kf (pos:Pos):∀ es:List Ent,codeAmong pos (dZ es)=(es.find? fun e=>e.1 == (pos.line:Int) && e.2.1 == (pos.col:Int)).map fun e=>Value.ref e.2.2
 | []=>rfl
 | e::r=>by
  show (if e.1 == (pos.line:Int) && e.2.1 == (pos.col:Int) then some (Value.ref e.2.2) else codeAmong pos (dZ r))=_;rw [PP];cases h:(e.1 == (pos.line:Int) && e.2.1 == (pos.col:Int)) with
  | true=>rfl
  | false=>exact Kf pos r
def jX (P:Addr) (es:List Ent):HO:=.ext fun h=>h.get? P=some (W.tabObj (dZ es).toArray)
structure cT (H:Hp) (P:Addr) (q:Str) (es:List Ent):Prop where
 tab:H P=some (jX P es)
 code:∀ e∈es,H e.2.2=some (lx e.2.2 q)
structure Ae (X:Cx) (P:Addr) (params:Arguments) (scope:Scope) (dm:List (Str×Addr)) (q:Str):Prop where
 dflt:defaultsOf params X.env=([],[])
 gW:closureFor scope X.env=pure dm
 code:∃ c,X.env.code=.ref c/\W.CodeHd X.base c P
 blt:X.base.BuiltinsAt X.mg P
 qual:X.env.qual ++ "<lambda>" = q
structure jL (P:Addr) (q:Str) (c:Addr) (H H1:Hp):Prop where
 rest:∀ b,b≠P->b≠c->H1 b=H b
 code:H1 c=some (lx c q)
 old:H c=none\/H1=H
 tab:∃ es,cT H1 P q es
def lY {a b n:Nat} (h:a < n) (h':n<=b):b≠a:=by omega
def UX {X:Cx} {π:List (Addr×Obj)} {σ:St} {H:Hp} {s:Shared} {P:Addr} {params:Arguments} {body:Expr} {scope:Scope} {dm:List (Str×Addr)} {q:Str} {fX:Pos} {es:List Ent} {Q:Value->Shared->Prop}
  (I:Inv X π σ H s) (L:Ae X P params scope dm q) (T:cT H P q es)
  (h:∀ f c ct pm s1 H1,Inv X π σ H1 s1->jL P q c H H1->H1 f=none->s.heap.objs.size<=f->f≠X.env.locals->s1.heap.get? f=some (W.kla_obj "<lambda>" q params body scope dm pm c ct) ->
   (∀ b o,H b=none->s.heap.get? b=some o->s1.heap.get? b=some o)->Q (.ref f) s1) :
  wpAny (model X.prog X.w) X.A (eval (.Lambda params body scope fX) X.env) Q X.xe s:=by
 obtain ⟨hdef,kx,⟨c,Nx,C⟩,hb,hq⟩:=L;subst hq;refine W.kla_eval hdef ?_;have hP:s.heap.get? P=some (W.tabObj (dZ es).toArray):=(I.ay P _ T.tab).1;have hgP:mainGlobals≠P:=fun e=>by
  obtain ⟨o,_,_,g,_⟩:=I.mod.glob;have:=(I.bs _ _ g).2;rw [e,T.tab] at this;cases this
 have My:s.heap.BuiltinsAt X.mg P:=by
  obtain ⟨bm,o,b1,b2,b3,b4,b5,b6⟩:=hb;exact ⟨bm,o,b1,b2,b3,b4,I.bk _ _ b5,b6⟩
 have Fz:=I.lt;have cM:∀ {b:Addr},H b=none->b≠P:=fun {b} n e=>by rw [e,T.tab] at n;cases n
 cases hf:codeAmong fX (dZ es).toArray.toList with
 | none =>
  refine W.kla_makeFunction (mg:=X.mg) kx I.ok.glob (I.mod.glob.keeps I.bk) Nx (C.keeps I.bk) hP (Bn es) hf hgP My fun c' ct h' tk hx gM bO xK lC=>?_;have htb':h'.get? P=some (W.tabObj (dZ (es++[((fX.line:Int),(fX.col:Int),c')])).toArray):=by
   rw [lC,G5];simp [dZ]
  have hPs:P < s.heap.objs.size:=u8 hP;have NH:c'≠P:=lY hPs gM;have I1:Inv X π σ (upd H P (jX P (es++[((fX.line:Int),(fX.col:Int),c')]))) { s with heap:=h',toks:=tk } :=
   I.write (x:=P) (e:=P) (t':=tk) (by rw [T.tab];trivial) (.inl rfl) (fun b u hb e=>hx b u hb e) ⟨_,htb'⟩ ⟨htb',⟨_,htb'⟩,fun h1 h2 z k=>k _ z⟩
  have Nd:H c'=none:=I.ay.fresh gM;have hcn1:(upd H P (jX P (es++[((fX.line:Int),(fX.col:Int),c')]))) c'=none:=by rw [ag NH];exact Nd
  have I2:=I1.rQ (a:=c') (o:=lx c' (X.env.qual ++ "<lambda>")) hcn1 (SZ (wl I.sz gM)) (lY Fz gM) (fun x c₁ e z=>by
    obtain ⟨v,o,ho,_⟩:=I.cell x c₁ e;exact lY (u8 ho) gM z.symm) (fun p hp z=>by
    exact lY (u8 (I.pin p hp).1) gM z.symm) ⟨xK,(by obtain ⟨c₂,o,_,_,e,g,_⟩:=xK;cases e;exact ⟨o,g⟩),fun h1 h2 z k=>by
     obtain ⟨c₂,o,vs,t,e,g,r⟩:=z;cases e;exact ⟨c',o,vs,t,rfl,k o g,r⟩⟩
  have I3:=I2.kept (t':=tk) (h':=h'.push (W.kla_obj "<lambda>" (X.env.qual ++ "<lambda>") params body scope dm ((X.mg "__name__").getD .none) c' ct)) (fun b u e=>pc _ e);have kC:(upd (upd H P (jX P (es++[((fX.line:Int),(fX.col:Int),c')]))) c' (lx c' (X.env.qual ++ "<lambda>"))) h'.objs.size=none:=I2.ay.fresh (sK _);have hsz:s.heap.objs.size<=h'.objs.size:=wl gM (Ja0 bO);refine h h'.objs.size c' ct _ _ _ I3 ⟨fun b n1 n2=>by rw [ag n2,ag n1],au,.inl Nd,es++[((fX.line:Int),(fX.col:Int),c')],⟨by rw [ag (pp NH),au],fun e he=>?_⟩⟩ kC hsz (lY Fz hsz) (wn _ rfl) fun b o n e=>pc _ (hx b o (cM n) e);rcases Go.mp he with he | he
  ·have:=T.code e he;by_cases hc:e.2.2=c'
   ·rw [hc,au]
   ·have hp:e.2.2≠P:=fun z=>by
     have hr:s.heap.CodeRec (.ref P) (X.env.qual ++ "<lambda>"):=by
      have hh:=(I.ay _ _ this).1;rw [z] at hh;exact hh
     obtain ⟨c₂,o,vs,t,e1,g,d,r⟩:=hr;cases e1;rw [hP] at g;cases g;have d':(dZ es).toArray=vs:=by injection d
     subst d';cases es with
     | nil=>cases he
     | cons e₁ r₁=>simp [dZ,rawInt] at r
    rw [ag hc,ag hp];exact this
  ·rw [wf.mp he];exact au
 | some cv =>
  have hf':=hf;rw [show (dZ es).toArray.toList=dZ es from rfl,Kf] at hf';obtain ⟨e,he,hev⟩:=T0.mp hf';subst hev;refine W.kla_makeFunctionHit (mg:=X.mg) kx I.ok.glob (I.mod.glob.keeps I.bk) Nx (C.keeps I.bk) hP (Bn es) hf My fun ct h' tk hk hsz=>?_;have I1:=I.kept (t':=tk) hk;have I2:=I1.kept (t':=tk) (h':=h'.push (W.kla_obj "<lambda>" (X.env.qual ++ "<lambda>") params body scope dm ((X.mg "__name__").getD .none) e.2.2 ct)) (fun b u e=>pc _ e);exact h h'.objs.size e.2.2 ct _ _ _ I2 ⟨fun _ _ _=>rfl,T.code e (List.mem_of_find?_eq_some he),.inr rfl,es,T⟩ (I1.ay.fresh (sK _)) hsz (lY Fz hsz) (wn _ rfl) fun b o n e=>pc _ (hk b o e)
abbrev bW:=Hp->VK->XK->Prop
def S9 (c:Addr) (q:Str) (W:bW):bW:=fun H Q E=>H c=some (lx c q)/\W H Q E
def kG (ix:List Nat) (σ:St) (vs:List V):Prop:=vs.length=ix.length/\∀ (i j:Nat) (v:V),ix[i]?=some j->vs[i]?=some v->σ[j]?=some (some v)
def Uj (P:Addr) (q:Str) (ix:List Nat) (W:List V->bW) (jD:bW->bW) (R:St->XK):TE:=fun σ H Q =>
 ∃ es vs,cT H P q es/\kG ix σ vs/\∀ c H1,jL P q c H H1->jD (S9 c q (W vs)) H1 Q (R σ)
structure vY (X:Cx) (N':List Str) (ix:List Nat) (dm:List (Str×Addr)):Prop where
 len:ix.length=N'.length
 at':∀ (i j:Nat),ix[i]?=some j->∃ x,N'[i]?=some x/\X.N[j]?=some x/\X.env.scope.names.lookup x=some .cell
 gW:∀ x c,dm.lookup x=some c->X.env.cells.lookup x=some c
 FH:∀ x∈N',dm.lookup x=X.env.cells.lookup x
 own:∀ x c,dm.lookup x=some c->X.fn x=true
abbrev nS:=List (Addr×Addr)
def xb (tabs:nS) (H:Hp):Prop:=∀ q∈tabs,∃ es,H q.2=some (jX q.2 es)
structure oz (tabs:nS) (H:Hp):Prop where
 all:∀ b,H b=none\/(∃ o xs,H b=some (.cO o (.lst xs)))\/∃ q∈tabs,b=q.2
 tab:∀ q∈tabs,H q.2=some (jX q.2 [])
def oz.ok {tabs:nS} {H:Hp} (h:oz tabs H) {c P:Addr} (q:Str) (hm:(c,P)∈tabs):cT H P q []:=⟨h.tab _ hm,fun _ z=>nomatch z⟩
def abU {P:Program} {w:World} {K:ν} {mg mb:Str->Option Value} {CX:dW} {k:Nat} {fa a:Addr} {fd:FuncData} {x:Str} {sp:Sp} {s₁:Shared} {vs:List Value} {ns:List Int} {tabs:nS}
  (KX:K.In s₁.heap) (eA:s₁.heap.Ns mainGlobals mg) (hb:s₁.heap.Ns builtinsNs mb) (hbb:∀ x:Str,x ≠ "__name__" -> mb x=bootBuiltins x) (hlim:s₁.heap.NoLimit) (hg:s₁.gens=#[])
  (hT:W.TabsAt tabs s₁.heap) (oT:W.noTabs K=true) (hbm:∃ bm ob,mg "__builtins__" = some (.ref bm)/\bm≠builtinsNs/\s₁.heap.get? bm=some ob/\ob.cls=.type "module" /\ ob.dict=some builtinsNs/\ob.data=.plain)
  (ha:s₁.heap.get? a=some { cls:=.type "list",data:=.seq vs.toArray }) (hi:IntsAre vs ns) (hl:ns.length<=sizeLine) (hr:bb k callerA)
  (F:∀ base:Heap,K.In base->base.Ns mainGlobals mg->(∀ q∈tabs,W.CodeHd base q.1 q.2/\base.BuiltinsAt mg q.2)->aA P w K mg base CX k fa fd [x] sp) (E8:∀ (s:Shared) (u:Value),BindsTo s fd ⟨[u],[]⟩ [(x,u)])
  (dD:∀ H:Hp,oz tabs H->aD K H a (ns.map V.int)->sp [.ref a] H (fun v H'=>v=.bl true/\xb tabs H') fun _ _ _=>False)
  (ER:∀ H e s',CX [] H s₁ (fun _ _ _=>False) e s'->False) :
  codeAny (model P w) callerA (.call (.ref fa) ⟨[.ref a],[]⟩) (fun r s'=>r=.ok (.ret (.bool true))/\OldK s₁.heap s'.heap/\s'.os=s₁.os/\AllBare s'.gens) s₁:=by
 have rv:=Hu hi;have lenV:=hi.length;have tabAt:∀ b,(∃ q∈tabs,b=q.2)->s₁.heap.get? b=some (W.tabObj #[]):=fun b ⟨q,hq,e⟩=>e ▸ (hT q hq).2;have M3:¬ ∃ q∈tabs,a=q.2:=fun z=>by
  have:=tabAt a z;rw [ha] at this;cases this
 have core:∀ H:Hp,oz tabs H->aD K H a (ns.map V.int)->cg P w H s₁.heap->(∀ b,H b≠none->b=a\/∃ q∈tabs,b=q.2)->(H a≠none->K.lookup a=none) ->
   codeAny (model P w) callerA (.call (.ref fa) ⟨[.ref a],[]⟩) (fun r s'=>r=.ok (.ret (.bool true))/\OldK s₁.heap s'.heap/\s'.os=s₁.os/\AllBare s'.gens) s₁:=by
  intro H hO hS ay hA hK;have xN:∀ {b:Addr} {o:Obj},s₁.heap.get? b=some o->H b=none->(jf s₁.heap H).get? b=some o:=fun e n=>Q4 e n;have E7:∀ {b:Addr} {o:Obj},s₁.heap.get? b=some o->b≠a->(∀ ps,o.data≠.fields ps\/o.cls≠.none)->H b=none:=fun {b o} e na d=>by
   cases q:H b with
   | none=>rfl
   | some u =>
    rcases hA b (by rw [q];simp) with e' | e'
    ·exact absurd e' na
    ·have e2:=tabAt b e';rw [e] at e2;cases e2;rcases d #[] with d | d
     ·exact absurd rfl d
     ·exact absurd rfl d
  have lF:∀ {b:Addr} {o:Obj} {es:Array DictEntry} {ep:Nat},s₁.heap.get? b=some o->o.data=.dict es ep->H b=none:=fun {b o es ep} e d=>by
   refine E7 e (fun z=>?_) fun ps=>.inl (by rw [d];simp);subst z;rw [ha] at e;cases e;have d':Data.seq vs.toArray _=Data.dict es ep:=d;cases d'
  have xM:∀ {b:Addr} {m:Str->Option Value},s₁.heap.Ns b m->(jf s₁.heap H).Ns b m:=fun {b m} ⟨o,es,ep,e,d,r⟩=>⟨o,es,ep,xN e (lF e d),d,r⟩;have Ny:K.In (jf s₁.heap H):=fun b o e=>xN (KX b o e) (by
   cases q:H b with
   | none=>rfl
   | some u =>
    rcases hA b (by rw [q];simp) with e' | e'
    ·subst e';rw [hK (by rw [q];simp)] at e;cases e
    ·have e2:=tabAt b e';rw [KX b o e] at e2;cases e2;have h2:=LE.mp oT (b,_) (W.mem_of_lookupK e);exact absurd (show false=true from h2) ww)
  have hM:Mod K mg (jf s₁.heap H):=⟨Ny,xM eA,⟨mb,xM hb,hbb⟩,let ⟨mc,h1,h2⟩:=hlim;⟨mc,xM h1,h2⟩⟩;have e0:kS P w K mg (jf s₁.heap H) callerA [] s₁ H:=⟨rfl,hM,fun b o e=>Yo e,Nat.le_of_eq (adE _ _),trivial,fun b hb=>absurd (show b∈([]:List Addr) from hb) (by simp),ay,.of_eq hg⟩;have hcodes:∀ q∈tabs,W.CodeHd (jf s₁.heap H) q.1 q.2/\(jf s₁.heap H).BuiltinsAt mg q.2:=fun q hq=>by
   obtain ⟨o,vs',file,tf,flags,tg,inF,text,tt,e1,r1,r⟩:=(hT q hq).1;obtain ⟨bm,ob,b1,b2,b3,b4,b5,b6⟩:=hbm;refine ⟨⟨o,vs',file,tf,flags,tg,inF,text,tt,xN e1 (E7 e1 (fun z=>?_) fun ps=>.inr (by rw [r1];simp)),r1,r⟩,bm,ob,b1,b2,fun z=>?_,fun z=>?_,xN b3 (E7 b3 (fun z=>?_) fun ps=>.inr (by rw [b4];simp)),b4,b5,b6⟩
   ·subst z;rw [ha] at e1;cases e1;simp at r1
   ·obtain ⟨o',es,ep,e,d,_⟩:=eA;rw [z,e] at b3;cases b3;rw [d] at b6;cases b6
   ·rw [z,(hT q hq).2] at b3;cases b3;cases b6
   ·subst z;rw [ha] at b3;cases b3;cases b6
  refine _b ((F _ Ny (xM eA) hcodes).run callerA [] s₁ H ⟨[.ref a],[]⟩ [.ref a] [.ref a] _ _ hr e0 (E8 s₁ (.ref a)) (.cons rfl .nil) (dD H hO hS)) fun r s' h=>?_;cases r with
  | error e=>exact (ER H e s' h).elim
  | ok fl =>
   cases fl with
   | next=>exact False.elim h
   | brk=>exact False.elim h
   | cont=>exact False.elim h
   | ret u =>
    obtain ⟨v,H',os,bare,un,hok',r',q',qt⟩:=h;subst q';obtain rfl:u=Value.bool true:=r';refine ⟨rfl,⟨fun b o e=>?_,fun b o e=>un.there b o e (by simp)⟩,os,bare⟩;cases q:H b with
    | none=>exact .inl (un.keep b o e q (by intro z;exact absurd (show b∈([]:List Addr) from z) (by simp)) (by simp))
    | some u =>
     rcases hO.all b with z | ⟨ob,xs,z⟩ | ⟨qq,xW,z⟩
     ·rw [q] at z;cases z
     ·have z2:=un.fj b ob _ z;obtain ⟨e1,_⟩:=ay b _ z;obtain ⟨e2,_⟩:=hok' b _ z2;rw [e] at e1;cases e1;exact .inl e2
     ·subst z;obtain ⟨es,he⟩:=qt qq xW;have e3:s'.heap.get? qq.2=some (W.tabObj (dZ es).toArray):=(hok' _ _ he).1;have e4:=(hT qq xW).2;rw [e] at e4;cases e4;exact .inr (.inl ⟨((hT qq xW).1.tab (hT qq xW).2).isCodeTable,rfl,#[],(dZ es).toArray,rfl,by rw [e3];simp⟩)
 have MH:∀ b,(∃ q∈tabs,b=q.2)->∀ H:Hp,bR P w H s₁.heap b (jX b []):=fun b z H=>⟨tabAt b z,⟨_,tabAt b z⟩,fun h1 h2 y k=>k _ y⟩
 classical
 cases hk:K.lookup a with
 | some o =>
  have e:=KX a o hk;rw [ha] at e;cases e;refine core (fun b=>if (∃ q∈tabs,b=q.2) then some (jX b []) else none) ⟨fun b=>?_,fun q hq=>At ⟨q,hq,rfl⟩⟩ (.inr ⟨_,vs.toArray,_,hk,rfl,rfl,rfl,by rw [sB,lenV];exact hl,by simpa using rv⟩) (fun b u z=>?_) (fun b z=>?_) fun z=>absurd (xL M3) z
  ·by_cases h:∃ q∈tabs,b=q.2
   ·exact .inr (.inr h)
   ·exact .inl (xL h)
  ·by_cases h:∃ q∈tabs,b=q.2
   ·have z':=(At h).symm.trans z;cases z';exact MH b h _
   ·have z':=(xL h).symm.trans z;cases z'
  ·by_cases h:∃ q∈tabs,b=q.2
   ·exact .inr h
   ·exact absurd (xL h) z
 | none =>
  refine core (fun b=>if b=a then some (.cO { cls:=.type "list",data:=.seq vs.toArray } (.lst (ns.map V.int))) else if (∃ q∈tabs,b=q.2) then some (jX b []) else none) ⟨fun b=>?_,fun q hq=>?_⟩ (.inl (.inr ⟨{ cls:=.type "list",data:=.seq vs.toArray },At rfl⟩)) (fun b u z=>?_) (fun b z=>?_) fun _=>hk
  ·by_cases hb:b=a
   ·exact .inr (.inl ⟨_,_,At hb⟩)
   ·by_cases h:∃ q∈tabs,b=q.2
    ·exact .inr (.inr h)
    ·exact .inl ((xL hb).trans (xL h))
  ·have cM:q.2≠a:=fun z=>M3 ⟨q,hq,z.symm⟩;exact (xL cM).trans (At ⟨q,hq,rfl⟩)
  ·by_cases hb:b=a
   ·have z':=(At hb).symm.trans z;cases z';subst hb;exact ⟨ha,by rw [ss];exact hl,vs,_,rv,ha⟩
   ·have z':=(xL hb).symm.trans z;by_cases h:∃ q∈tabs,b=q.2
    ·have z2:=(At h).symm.trans z';cases z2;exact MH b h _
    ·have z2:=(xL h).symm.trans z';cases z2
  ·by_cases hb:b=a
   ·exact .inl hb
   ·by_cases h:∃ q∈tabs,b=q.2
    ·exact .inr h
    ·exact absurd ((xL hb).trans (xL h)) z
def UL {l:W.OpenLaw} {n k:Nat} {q:Program} {loose:List Str} {XP:(Str->Option Value)->Heap->Prop} {YP:World->Heap->Prop} {d:DefRec} {K:Params->ν} {CX:World->dW} {sp:World->Sp} {x:Str} {tabs:nS}
  (hn:l.most=some n) (fv:n<=sizeLine) (u3:d.params.defaults=[]) (hr:bb k callerA)
  (hY:∀ (w:World) (h:Heap),YP w h->(K w.params).In h)
  (oT:∀ w:World,W.noTabs (K w.params)=true) (lC:∀ (w:World),∀ t∈tabs,∃ y e,(recsOf q).find? (fun e=>e.name == y)=some e/\W.tabIn (K w.params) y=some t)
  (F:∀ (w:World) (mg:Str->Option Value) (fa:Addr) (h:Heap),(K w.params).In h->h.Ns mainGlobals mg->mg d.name=some (.ref fa) ->
   ∃ fd:FuncData,(∀ (s:Shared) (u:Value),BindsTo s fd ⟨[u],[]⟩ [(x,u)]) /\
    ∀ base:Heap,(K w.params).In base->base.Ns mainGlobals mg->(∀ t∈tabs,W.CodeHd base t.1 t.2/\base.BuiltinsAt mg t.2)->aA l.prog w (K w.params) mg base (CX w) k fa fd [x] (sp w))
  (dD:∀ (w:World) (H:Hp) (a:Addr) (ns:List Int),ns.length<=n->oz tabs H->aD (K w.params) H a (ns.map V.int)->sp w [.ref a] H (fun v H'=>v=.bl true/\xb tabs H') fun _ _ _=>False)
  (ER:∀ (w:World) (H:Hp) (s:Shared) (e:Value) (s':Shared),CX w [] H s (fun _ _ _=>False) e s'->False) :
  W.WalkO q loose XP YP l.row.toRowW d [] (fun f vs=>PySem.call f vs):=by
 refine Att.Vn hn u3 fun w s₀ s₁ mg mb fa o pm cd doc a vs ns G Y ho hd bo hmg uU hints hlen hg=>?_;have KX:=hY w _ Y;obtain ⟨fd,hb,hF⟩:=F w mg fa _ KX G.T.g hmg;exact abU KX G.T.g G.T.b G.T.builtins G.T.nolimit hg (fun t ht=>by
  obtain ⟨y,e,h1,h2⟩:=lC w t ht;exact W.tab_of G.T KX h1 h2) (oT w) G.T.bmain uU hints (wl hlen fv) hr hF hb (fun H hO hS=>dD w H a ns hlen hO hS) fun H e s'=>ER w H s₁ e s'
section
variable {prog:Program} {w:World} {A:Around} {R:Result->Shared->Prop} {I:Addr} {fp wr:List Addr} {P:Nat->Value->Prop} {St:Nat->Heap->Prop}
def Qz (a d:Value):argsOk "min" ⟨[a],[("default",d)]⟩:=by unfold argsOk;kernel_rfl
def Ub (W:Walks prog w A.in1 I fp wr 0 P St) {S:Addr} {s:Shared} {c:Nat} {d:Value} (aJ:St 0 s.heap)
  (hS:s.heap.get? S=some { cls:=.type "list",dict:=none,data:=.seq #[] c,slots:=#[] })
  (hR:∀ h' tk,(∀ b o,b ∉ wr->s.heap.get? b=some o->h'.get? b=some o)->R (.ok (.ret d)) { s with heap:=h',toks:=tk }) :
  codeAny (model prog w) A (.builtin "min.loop" ⟨[.ref I,.none,.ref S],[("default",d)]⟩) R s:=by
 refine _3 F.entry_min_loop ?_;rw [_Z _z _];show wpAny _ A.in1 (seqItems? (.ref S) >>= _) _ _ s;refine li (Jaa hS rfl ?_);show wpAny _ A.in1 (tryCatch (pyNext (.ref I)) _ >>= _) _ _ s;refine li (wpAny_tryCatch (W.done s _ _ aJ fun h' tk hk'=>?_));exact li (wpAny_rule (sw (hR h' tk hk')))
def Uh (W:Walks prog w A.in1 I fp wr 1 P St) {S:Addr} {s:Shared} {c:Nat} {d:Value} (rF:S ∉ fp) (aJ:St 0 s.heap)
  (hS:s.heap.get? S=some { cls:=.type "list",dict:=none,data:=.seq #[] c,slots:=#[] })
  (hR:∀ v h' tk,P 0 v->(∀ b o,b ∉ wr->b≠S->s.heap.get? b=some o->h'.get? b=some o)->R (.ok (.ret v)) { s with heap:=h',toks:=tk }) :
  codeAny (model prog w) A (.builtin "min.loop" ⟨[.ref I,.none,.ref S],[("default",d)]⟩) R s:=by
 have Oc:S ∉ wr:=fun h=>rF (W.sub _ h);have EU:(toString "min" ++ toString ".loop" : String) = "min.loop" := by decide
 refine _3 F.entry_min_loop ?_;rw [_Z _z _];show wpAny _ A.in1 (seqItems? (.ref S) >>= _) _ _ s;refine li (Jaa hS rfl ?_);show wpAny _ A.in1 (tryCatch (pyNext (.ref I)) _ >>= _) _ _ s;refine li (wpAny_tryCatch (W.item 0 s _ _ (by decide) aJ fun v h' tk hP hst' hk'=>?_));have hS':=hk' S _ Oc hS;show wpAny _ A.in1 (updateSeq S (fun _=>#[v,v]) >>= _) _ _ _;refine li ?_;refine wpAny_updateSeq hS' rfl ?_;rw [EU];refine sw ⟨plainId_quiet _z _,?_⟩;have key:∀ (s2:Shared) (c2:Nat),St 1 s2.heap->s2.heap.get? S=some { cls:=.type "list",dict:=none,data:=.seq #[v,v] c2,slots:=#[] }->(∀ h'' tk'',(∀ b o,b ∉ wr->b≠S->s2.heap.get? b=some o->h''.get? b=some o)->R (.ok (.ret v)) { s2 with heap:=h'',toks:=tk'' }) ->
   codeAny (model prog w) A (.builtin "min.loop" ⟨[.ref I,.none,.ref S],[("default",d)]⟩) R s2:=fun s2 c2 kz hS2 hR2=>by
  refine _3 F.entry_min_loop ?_;rw [_Z _z _];show wpAny _ A.in1 (seqItems? (.ref S) >>= _) _ _ s2;refine li (Jaa hS2 rfl ?_);show wpAny _ A.in1 (tryCatch (pyNext (.ref I)) _ >>= _) _ _ s2;refine li (wpAny_tryCatch (W.done s2 _ _ kz fun h3 tk3 rj=>?_));have hS3:=rj S _ Oc hS2;show wpAny _ A.in1 (updateSeq S (fun _=>#[]) >>= _) _ _ _;refine li ?_;refine wpAny_updateSeq hS3 rfl (li (wpAny_letGo (sw ?_)));exact hR2 _ tk3 fun b o hbw hbS e=>(GM _ _ (pp hbS)).trans (rj b o hbw e)
 refine key _ _ (W.frame _ _ _ hst' fun b oX o e=>(GM _ _ (fun h:S=b=>rF (by rw [h];exact oX))).trans e) (Sc _ hS' rfl) fun h'' tk'' hk''=>?_;exact hR v h'' tk'' hP fun b o hbw hbS e=>hk'' b o hbw hbS ((GM _ _ (pp hbS)).trans (hk' b o hbw e))
def abX {E:Value->Shared->Prop} {s:Shared} {x d:Value} {Q:Value->Shared->Prop}
  (h:wpAny (model prog w) A.in1 (pyIter x) (fun it s₂=>∃ I fp wr n P St,it=.ref I/\Walks prog w A.in1 I fp wr n P St/\St 0 s₂.heap/\(∀ b∈fp,b < s₂.heap.objs.size)/\n<=1 /\
   ∀ v h' tk,(n=0/\v=d\/n=1/\P 0 v)->(∀ b o,b ∉ wr->s₂.heap.get? b=some o->h'.get? b=some o)->Q v { s₂ with heap:=h',toks:=tk }) E s) :
  wpAny (model prog w) A (call (.builtin "min") [x] [("default",d)]) Q E s:=by
 have EU:(toString "min" ++ toString ".loop" : String) = "min.loop" := by decide
 refine WP (_e F.plain_min F.entry_min ?_);have N7:wpAny (model prog w) A.in1 (Builtin.«min» ⟨[x],[("default",d)]⟩) (fun fin s'=>match fin with
   | .done f=>(match (Except.ok f:Result) with | .ok (.ret v)=>Q v s' | .ok _=>False | .error e=>E e s')
   | .again c'=>c'.quiet=true/\codeAny (model prog w) A c' (fun r s'=>match r with | .ok (.ret v)=>Q v s' | .ok _=>False | .error e=>E e s') s') E s:=by
  show wpAny _ A.in1 (Builtin.Builtins.bindParams "min" ["key","default"] 0 ⟨[],[("default",d)]⟩ >>= _) _ _ s;refine li (wpAny_of_eq (show Builtin.Builtins.bindParams "min" ["key","default"] 0 ⟨[],[("default",d)]⟩=pure [none,some d] from rfl) ?_);refine li (sw ?_);refine li (IR h (fun it s₂ h₂=>?_) fun _ _ e=>e);obtain ⟨I,fp,wr,n,P,St,rfl,W,aJ,Eh,hn,hQ⟩:=h₂;refine li (_s ?_);have rF:s₂.heap.objs.size ∉ fp:=fun hm=>Id _ (Eh _ hm);rw [EU];refine sw ⟨plainId_quiet _z _,?_⟩;have kz:=W.frame _ _ _ aJ (fun b _ o e=>pc { cls:=.type "list",data:=.seq ([]:List Value).toArray } e)
  match n,hn,W,hQ with
  | 0,_,W,hQ =>
   refine Ub W kz (wn _ rfl) fun h' tk hk=>?_;exact hQ d h' tk (.inl ⟨rfl,rfl⟩) fun b o hbw e=>hk b o hbw (pc _ e)
  | 1,_,W,hQ =>
   refine Uh W rF kz (wn _ rfl) fun v h' tk hP hk=>?_;exact hQ v h' tk (.inr ⟨rfl,hP⟩) fun b o hbw e=>hk b o hbw (zn (u8 e)) (pc _ e)
 have ha:=Qz x d;simp only [checkBuiltinCall,F.kind_min];cases hsig:Manifest.signature? "min" with
 | none=>exact sw N7
 | some sig =>
  have ha':Bind.checkArgs "min" sig ⟨[x],[("default",d)]⟩=pure ():=by simpa only [argsOk,hsig] using ha
  simp only [ha'];exact sw N7
end
def ke (h:Heap) (d:Addr) (es:Array DictEntry) (ep:Nat):Prop:=∃ o,h.get? d=some o/\o.ExactDict/\o.data=.dict es ep
def ke.at' {h h':Heap} {d:Addr} {es:Array DictEntry} {ep:Nat} (x:ke h d es ep) (k:∀ o,h.get? d=some o->h'.get? d=some o):ke h' d es ep:=let ⟨o,e,r⟩:=x;⟨o,k o e,r⟩
section
variable {prog:Program} {w:World} {A:Around} {E:Value->Shared->Prop} {s:Shared} {es:Array DictEntry}
def ke.typeIs {d:Addr} {ep:Nat} (x:ke s.heap d es ep):s.TypeIs (.ref d) "dict" := let ⟨o,e,c,_⟩:=x;⟨o,e,c.1⟩
def zG {d:Addr} {ep:Nat} {Q:Value->Shared->Prop} (hd:(d == sysModules)=false) (hm:ke s.heap d es ep)
  (hQ:Q (.ref s.heap.objs.size) { s with heap:=s.heap.push { cls:=.type "dict_keyiterator",data:=.fields #[.ref d,.int 0 0,.int es.size 0,.int ep 0] } }) :
  wpAny (model prog w) A (pyIter (.ref d)) Q E s:=by
 obtain ⟨o,ho,hc,eX⟩:=id hm;have hT:=hm.typeIs;refine wpAny_pyIter_slot hT F.slot_dict_iter (wpAny_call_entry F.slot_dict_iter hT F.entry_dict_iter ?_ (F.args_dict_iter_1 _));unfold Builtin.«dict.__iter__» Builtin.Dict.dictSlotNone;refine li (li (wpAny_notOrdered_dict hT ?_));show wpAny _ _ (pure (Value.ref d)) _ _ s;refine sw ?_;show wpAny _ _ (Builtin.Dict.showsAll d >>= _) _ _ s;unfold Builtin.Dict.showsAll;rw [xL (by rw [hd];exact ww)];refine li (sw (li (wpAny_dictEntries ho eX (li (wpAny_dictEpoch ho eX ?_)))));refine li (_s (sw ⟨_,rfl,"dict_keyiterator",_,⟨_,wn _ rfl,rfl⟩,_p.lookup,?_⟩))
 simpa [rawInt] using hQ
def w8 {it d:Addr} {i ep:Nat} {Q:Option Value->Shared->Prop} (hit:s.heap.IsKeyIter it d i es.size ep) (hm:ke s.heap d es ep)
  (h1:∀ bO:i < es.size,∀ h',h'.IsKeyIter it d (i+1) es.size ep->Heap.SameBut it s.heap h'->Q (some es[i].key) { s with heap:=h' })
  (h2:es.size<=i->A.handled=none/\∀ h',Heap.ExtBut it s.heap h'->Q none { s with heap:=h' }) :
  wpAny (model prog w) A (pyNext (.ref it)) Q E s:=by
 obtain ⟨o,ho,hc,hd⟩:=id hit;obtain ⟨od,yq,bo,yn⟩:=id hm;unfold pyNext;refine li (Jad (wpAny_callSpecial?_slot (name:=Str.ofString "__next__") hit.typeIs _p
  (wpAny_call_entry _p hit.typeIs F.entry_dict_keyiterator_next ?_ (F.args_dict_keyiterator_next_1 _))))
 refine li (sw (li (li ?_)));refine li (_m hit.typeIs (sw ?_));refine li (wpAny_fieldsOf ho hd ?_);simp only [show Builtin.Dict_items.ownsTuple "dict_keyiterator" = false by decide,Ix,_c];show wpAny _ _ (if (Value.ref d == Value.none)=true then _ else _) _ _ s;rw [xL (show ¬ ((Value.ref d == Value.none)=true) from ww)];refine li (sw (li (wpAny_dictEntries yq yn ?_)));rw [xL (by simp)];refine li (sw (li (wpAny_dictEpoch yq yn ?_)));rw [xL (by simp)];refine sw ?_;rcases Nat.lt_or_ge i es.size with bO | gM
 ·simp only [show ¬ ((i:Int) < 0) from by omega,_c,Int.toNat_natCast,Array.getElem?_eq_getElem bO];refine li (li (_m hit.typeIs (sw ?_)));refine li (wpAny_isOneOf_keyiter hit.typeIs ?_);show wpAny _ _ (setField (.ref it) 1 (rawInt ((i:Int)+1)) >>= _) _ _ s;refine li (wpAny_setField ho hd (by simp) ?_);have hit':(s.heap.update it (Obj.mapFields (·.setIfInBounds 1 (rawInt ((i:Int)+1))))).IsKeyIter it d (i+1) es.size ep :=
   ⟨_,Sc _ ho (Obj.isFreed_of_fields (Ja8 hd _)),(Obj.cls_mapFields ..).trans hc,by rw [Ja8 hd];simp [rawInt]⟩
  refine li (KB (li (wpAny_isOneOf_keyiter (s:={ s with heap:=s.heap.update it (Obj.mapFields (·.setIfInBounds 1 (rawInt ((i:Int)+1)))) }) hit'.typeIs ?_)));show wpAny _ _ (pure es[i].key) _ _ _;exact sw (sw ⟨_,rfl,sw (h1 bO _ hit' (Heap.SameBut.update ..))⟩)
 ·obtain ⟨hh,hQ⟩:=h2 gM;simp only [show ¬ ((i:Int) < 0) from by omega,_c,Int.toNat_natCast,Array.getElem?_eq_none gM];refine li (li (_m hit.typeIs (sw ?_)));show wpAny _ _ (setField (.ref it) 0 .none >>= _) _ _ s;refine li (wpAny_setField ho hd (by simp) ?_);show wpAny _ _ (newExc (.type "StopIteration") [] >>= _) _ _ _;refine li ?_;simp only [newExc,newTuple];refine li (_s ?_ (by size_fits));refine li (m:=firstArgMember _ _) (wpAny_of_eq (a:=Value.none) (by first | rfl | (simp only [firstArgMember];rfl)) ?_);refine _s ?_ (by size_fits);simp only [raiseNew];refine li (wpAny_handled ?_);rw [show A.in1.handled=none from hh];refine li (sw (wpAny_throw ?_));refine li (wpAny_isInstance (T := "StopIteration") (b:=true) ⟨_,wn _ rfl,rfl⟩ isSubtype_stop ?_);exact sw (hQ _ (((Heap.SameBut.update ..).extBut.push _).push _))
def IY (hh:A.handled=none) (I d:Addr) (cM:d≠I) (es:Array DictEntry) (ep:Nat) :
  Walks prog w A I [I,d] [I] es.size (fun i v=>∃ e,es[i]?=some e/\v=e.key) (fun i h=>h.IsKeyIter I d i es.size ep/\ke h d es ep) where
 sub:=fun b hb=>by simp at hb;simp [hb]
 frame:=fun _ _ _ st hk=>⟨st.1.at fun o e=>hk I (by simp) o e,st.2.at' fun o e=>hk d (by simp) o e⟩
 item:=fun i s Q E hi st hQ=>w8 st.1 st.2 (fun bO h' hit' hs'=>hQ _ h' s.toks ⟨es[i],by simp [bO],rfl⟩ ⟨hit',st.2.at' fun o e=>hs'.extBut d o cM e⟩ fun b o hb e=>hs'.extBut b o (fun h=>hb (by simp [h])) e) fun gM=>absurd hi (Nat.not_lt.mpr gM)
 done:=fun s Q E st hQ=>w8 st.1 st.2 (fun bO=>absurd bO (Id _)) fun _=>⟨hh,fun h' he'=>hQ h' s.toks fun b o hb e=>he' b o (fun h=>hb (by simp [h])) e⟩
 self:=fun _ _ _ _ st hQ=>wpAny_pyIter_keyiter st.1 hQ
end
section
variable {X:Cx}
def BC (te:TE):TE:=fun σ H Q=>te σ H fun x H1=>∃ a kvs,x=.ref a/\H1 a=some (.dT kvs)/\((kvs=[]/\Q .aq H1)\/∃ k v,kvs=[(k,v)]/\∀ p,H1 p=some (.tup (k.map kV))->Q (.ref p) H1)
def abk {e:Expr} {te:TE} {p p2 p3 pos:Pos} {j:Nat} (hc:X.calm=true) (hg:Gl X "min") (hm:X.mg "min" = none) (he:PE X e te) (hs:starEach [e] X.env=[(false,eval e X.env)]:=by rfl) :
  PE X (.Call (.Name "min" p) [e] [⟨some "default",.Constant .none j p2,p3⟩] pos) (BC te):=by
 intro π s σ H Q I h;refine FM (nQ (u:=.builtin "min") I hg hm (by kernel_rfl) ?_);refine callWith_kw ?_ (by rw [hs];rfl) (by rw [hs];rfl);rw [hs];show wpAny _ _ (spliced ((false,eval e X.env)::backTo pos [])) _ _ s;refine SL (aB (he π s σ H _ I h) fun u s1 ⟨x,H1,I1,rx,a,kvs,ex,hd,q⟩=>Tk ?_);subst ex;cases (show u=Value.ref a from rx);refine kws_cons (Constant_none (kws_nil ?_));show wpAny _ _ (call (.builtin "min") [.ref a] [("default",.none)]) _ _ s1;obtain ⟨hz,hS,xs,hp,o,es,ep,ho,hex,eX,uX,MU⟩:=id (I1.ay a _ hd);refine abX (zG hS ⟨o,ho,hex,eX⟩ ?_);have bO:a < s1.heap.objs.size:=u8 ho;have hW:=IY (prog:=X.prog) (w:=X.w) (A:=X.A.in1) (I1.ok.hd hc) s1.heap.objs.size a (zn bO) es ep;have yu:(s1.heap.push { cls:=.type "dict_keyiterator",data:=.fields #[.ref a,.int 0 0,.int es.size 0,.int ep 0] }).IsKeyIter s1.heap.objs.size a 0 es.size ep/\ke (s1.heap.push { cls:=.type "dict_keyiterator",data:=.fields #[.ref a,.int 0 0,.int es.size 0,.int ep 0] }) a es ep :=
  ⟨⟨_,wn _ rfl,rfl,rfl⟩,⟨o,pc _ ho,hex,eX⟩⟩
 have Eh:∀ b∈[s1.heap.objs.size,a],b < (s1.heap.push { cls:=.type "dict_keyiterator",data:=.fields #[.ref a,.int 0 0,.int es.size 0,.int ep 0] }).objs.size:=fun b hb=>by
  rw [_t];rcases lv.mp hb with e | hb
  ·rw [e];exact KM _
  ·rw [wf.mp hb];exact Nat.lt_succ_of_lt bO
 have kp:∀ h':Heap,(∀ b o,b ∉ [s1.heap.objs.size]->(s1.heap.push { cls:=.type "dict_keyiterator",data:=.fields #[.ref a,.int 0 0,.int es.size 0,.int ep 0] }).get? b=some o->h'.get? b=some o)->∀ b o,s1.heap.get? b=some o->h'.get? b=some o:=fun h' k b o e =>
  k b o (fun z=>by have z':=wf.mp z;have:=u8 e;rw [z'] at this;exact Id _ this) (pc _ e)
 have hsz:es.size=xs.length:=by rw [<- Rs,uX,ss]
 refine ⟨_,_,_,_,_,_,rfl,hW,yu,Eh,?_,fun v h' tk hv hk=>?_⟩
 ·rcases q with ⟨rfl,_⟩ | ⟨k,v,rfl,_⟩
  ·cases hp;rw [hsz];exact Da _
  ·cases hp with | cons _ t=>cases t;rw [hsz];exact sK _
 ·have I2:Inv X π σ H1 { s1 with heap:=h',toks:=tk }:=I1.kept (t':=tk) (kp h' hk);rcases q with ⟨rfl,q⟩ | ⟨k,v',rfl,q⟩
  ·cases hp;rcases hv with ⟨_,rfl⟩ | ⟨h1,_⟩
   ·exact ⟨.aq,H1,I2,rfl,q⟩
   ·rw [hsz] at h1;cases h1
  ·cases hp with
   | @cons _ y _ _ hh t =>
    cases t;rcases hv with ⟨h1,_⟩ | ⟨_,e,he,rfl⟩
    ·rw [hsz] at h1;cases h1
    ·rw [<- SC,uX] at he;cases he;exact ⟨.ref y.2.1,H1,I2,rfl,q _ hh.2.1⟩
end
def bV {f:Str} {v:V} {fs:List (Str×V)} {m:Nat} (h:fs.length<=m):(ax f v fs).length<=m+1:=wl (Cy f v fs) (Nat.succ_le_succ h)
def dh (fs gs:List (Str×V)):Prop:=∀ f,fs.lookup f=gs.lookup f
def dh.refl (fs:List (Str×V)):dh fs fs:=fun _=>rfl
def dh.put {fs gs:List (Str×V)} (h:dh fs gs) (f:Str) (v:V):dh (ax f v fs) (ax f v gs):=fun g=>by rw [eL,eL,h g]
section
variable {X:Cx}
def w9:bootBuiltins "sorted" = some (.builtin "sorted"):=by kernel_rfl
def Dv.minD {e:Expr} {te:TE} {p p2 p3 pos:Pos} {j:Nat} (hc:X.calm=true) (hm:X.mg "min" = none) (he:QE X e te) (hg:Gl X "min" := by rfl) (hs:starEach [e] X.env=[(false,eval e X.env)]:=by rfl) :
  QE X (.Call (.Name "min" p) [e] [⟨some "default",.Constant .none j p2,p3⟩] pos) (BC te):=⟨abk hc hg hm he.h hs⟩
end
structure nT (K:ν) (x qual:Str) (st:Stmt) (f:Addr) (fd:FuncData) (ds:List Value):Prop where
 ex:∃ (oc:Value) (od:Option Addr) (dt:Addr) (kV doc pm:Value) (an:Option Addr) (cdv ct:Value) (dA:Array (Option Value)) (o:Obj) (n:Nat),
  fd=W.fnOf x qual (fh st) (aQ st) (az st) (.ref dt) kV doc pm an cdv ct/\K.lookup f=some ⟨oc,od,.func fd,dA⟩/\W.codeIn K cdv qual=true/\K.lookup dt=some o/\o.data=.seq ds.toArray n
 kp:W.keepIn K (.ref f)=true
section
variable {P:Program} {w:World} {K:ν} {mg:Str->Option Value} {base:Heap} {CX:dW} {x qual:Str} {st:Stmt} {f:Addr} {fd:FuncData} {N ps:List Str} {k:Nat} {ds:List Value}
def nT.c7 {sp:Sp} (F:nT K x qual st f fd ds) (S:aE N ps (az st)) (len:∀ vs H Q E,sp vs H Q E->vs.length=ps.length)
  (hb:∀ (cdv:Value) (A:Around) (outer:List Env) (s:Shared) (H:Hp) (vs:List V) (Q:VK) (E:XK),bb k (A.deeper (envOfC qual (az st) s.heap.objs.size f cdv))->sp vs H Q E ->
   ∃ t,dz (df CX P w K mg base N qual (az st) f cdv A outer s H E) (aQ st) t/\t { nx:=fun _ H'=>Q .aq H',rt:=Q } (start N vs) H):aA P w K mg base CX (k+1) f fd ps sp:=by
 obtain ⟨oc,od,dt,kV,doc,pm,an,cdv,ct,dA,o,n,rfl,lk,bo,_⟩:=F.ex;exact wJ lk bo S len fun A outer s H vs Q E hr dD=>hb cdv A outer s H vs Q E hr dD
def nT.ok {sp:Sp} (F:nT K x qual st f fd ds) (S:aE N ps (az st)) (len:∀ vs H Q E,sp vs H Q E->vs.length=ps.length)
  (hb:∀ (cdv:Value) (A:Around) (outer:List Env) (s:Shared) (H:Hp) (vs:List V) (Q:VK) (E:XK),bb k (A.deeper (envOfC qual (az st) s.heap.objs.size f cdv))->sp vs H Q E ->
   ∃ t,dz (df aM P w K mg base N qual (az st) f cdv A outer s H E).qA (aQ st) t/\t { nx:=fun _ H'=>Q .aq H',rt:=Q } (start N vs) H):aA P w K mg base aM (k+1) f fd ps sp :=
 F.c7 S len fun cdv A outer s H vs Q E hr dD=>by
  obtain ⟨t,h,q⟩:=hb cdv A outer s H vs Q E hr dD;exact ⟨t,h.qA,q⟩
def Ql {oc:Value} {od an:Option Addr} {dA:Array (Option Value)} {kV doc pm cdv ct:Value} {dt:Addr} {o:Obj} {n:Nat} (l:K.lookup f=some ⟨oc,od,.func (W.fnOf x qual (fh st) (aQ st) (az st) (.ref dt) kV doc pm an cdv ct),dA⟩)
  (c:W.codeIn K cdv qual=true) (k:W.keepIn K (.ref f)=true) (ld:K.lookup dt=some o) (hd:o.data=.seq ds.toArray n):nT K x qual st f (W.fnOf x qual (fh st) (aQ st) (az st) (.ref dt) kV doc pm an cdv ct) ds :=
 ⟨⟨oc,od,dt,kV,doc,pm,an,cdv,ct,dA,o,n,rfl,l,c,ld,hd⟩,k⟩
def fD.Uc {sp:xv} (F:fD K x qual st f fd) (S:aE N ps (az st)) (len:∀ outer s vs H Q E,sp outer s vs H Q E->vs.length=ps.length)
  (hb:∀ (cdv:Value) (A:Around) (outer:List Env) (s:Shared) (H:Hp) (vs:List V) (Q:VK) (E:XK),bb k (A.deeper (envOfC qual (az st) s.heap.objs.size f cdv))->sp outer s vs H Q E ->
   ∃ t,dz (df CX P w K mg base N qual (az st) f cdv A outer s H E) (aQ st) t/\t { nx:=fun _ H'=>Q .aq H',rt:=Q } (start N vs) H):tw P w K mg base CX (k+1) f fd ps sp:=by
 obtain ⟨oc,od,kV,doc,pm,an,cdv,ct,dA,rfl,lk,bo⟩:=F.ex;exact acX lk bo S len fun A outer s H vs Q E hr dD=>hb cdv A outer s H vs Q E hr dD
end
section
variable {X:Cx}
end
def eN {X:Cx}:gU X (fun _=>E0) where
 pass:=fun π σ H s e s' I hc=>by
  obtain ⟨ea,C,od,H',rfl,F,hE⟩:=hc;exact hE.elim
section
variable {X:Cx}
end
def fc {α:Type} (p:α->Prop):List α->Prop
 | []=>True
 | a::r=>p a/\fc p r
def fc.mem {α:Type} {p:α->Prop}:∀ {l:List α},fc p l->∀ a∈l,p a
 | _::_,h,a,ha=>by
  rcases lv.mp ha with rfl | ha
  ·exact h.1
  ·exact fc.mem h.2 a ha
def SK:∀ {cl:List (Str×Addr)},(cl.map (·.2)).Nodup->∀ x y c,cl.lookup x=some c->cl.lookup y=some c->x=y:=by
 intro cl nd x y c h1 h2;have m1:=Fk h1;have m2:=Fk h2
 induction cl with
 | nil=>cases m1
 | cons e r ih =>
  have nd':=Do.mp (show (e.2::r.map (·.2)).Nodup from nd);rcases lv.mp m1 with e1 | e1 <;> rcases lv.mp m2 with e2 | e2
  ·rw [<- e1] at e2;exact (P3 Prod.fst e2).symm
  ·exact absurd (Cl.mpr ⟨_,e2,by rw [<- e1]⟩) nd'.1
  ·exact absurd (Cl.mpr ⟨_,e1,by rw [<- e2]⟩) nd'.1
  ·have go:∀ {l:List (Str×Addr)},(l.map (·.2)).Nodup->(x,c)∈l->(y,c)∈l->x=y:=by
    intro l
    induction l with
    | nil=>intro _ a;cases a
    | cons e r ih =>
     intro nd a b;have nd':=Do.mp (show (e.2::r.map (·.2)).Nodup from nd);rcases lv.mp a with e1 | e1 <;> rcases lv.mp b with e2 | e2
     ·rw [<- e1] at e2;exact (P3 Prod.fst e2).symm
     ·exact absurd (Cl.mpr ⟨_,e2,by rw [<- e1]⟩) nd'.1
     ·exact absurd (Cl.mpr ⟨_,e1,by rw [<- e2]⟩) nd'.1
     ·exact ih nd'.2 e1 e2
   exact go nd'.2 e1 e2
def uv.of {N:List Str} {scope:Scope} {cl:List (Str×Addr)} (kind:scope.kind=.function) (co:scope.isCoroutine=false) (gen:scope.isGenerator=false) (tL:scope.names.all (fun x=>x.2 != .cell)=true)
  (free:N.all (fun x=>scope.names.lookup x == some .free)=true) (has:fc (fun e:Str×NameKind=>e.2=.free->∃ c,cl.lookup e.1=some c) scope.names) (nd:(cl.map (·.2)).Nodup):uv N scope cl where
 kind:=kind
 co:=co
 gen:=gen
 tL:=fun x hx=>by simpa using LE.mp tL x hx
 free:=fun x hx=>by simpa using LE.mp free x hx
 has:=fun x hx=>fc.mem has _ (Fk hx) rfl
 inj:=SK nd
def vY.of {X:Cx} {N':List Str} {ix:List Nat} {dm:List (Str×Addr)} (len:ix.length=N'.length) (own:X.fn=fun _=>true)
  (at':fc (fun e:Nat×Str=>X.N[e.1]?=some e.2/\X.env.scope.names.lookup e.2=some .cell/\dm.lookup e.2=X.env.cells.lookup e.2) (ix.zip N'))
  (gW:fc (fun e:Str×Addr=>X.env.cells.lookup e.1=some e.2) dm):vY X N' ix dm where
 len:=len
 at':=fun i j h=>by
  have hi:=(ul.mp h).1;have hi':i < N'.length:=len ▸ hi;have hm:(j,N'[i])∈ix.zip N':=by
   refine _V.mpr ⟨i,?_⟩;rw [_B];exact ⟨h,ut hi'⟩
  have z:=fc.mem at' _ hm;exact ⟨N'[i],ut hi',z.1,z.2.1⟩
 gW:=fun x c h=>fc.mem gW _ (Fk h)
 FH:=fun x hx=>by
  obtain ⟨i,hi,rfl⟩:=_h hx;have hi':i < ix.length:=len ▸ hi;have hm:(ix[i],N'[i])∈ix.zip N':=by
   refine _V.mpr ⟨i,?_⟩;rw [_B];exact ⟨ut hi',ut hi⟩
  exact (fc.mem at' _ hm).2.2
 own:=fun _ _ _=>by rw [own]
def fD.Ax {P:Program} {w:World} {K:ν} {mg:Str->Option Value} {base:Heap} {CX:dW} {x qual:Str} {st:Stmt} {f:Addr} {fd:FuncData} {N ps:List Str} {k:Nat} {sp:Sp} (F:fD K x qual st f fd) (S:aE N ps (az st)) (len:∀ vs H Q E,sp vs H Q E->vs.length=ps.length)
  (hb:∀ (cdv:Value) (A:Around) (outer:List Env) (s:Shared) (H:Hp) (vs:List V) (Q:VK) (E:XK),fd.code=cdv->bb k (A.deeper (envOfC qual (az st) s.heap.objs.size f cdv))->sp vs H Q E ->
   ∃ t,dz (df CX P w K mg base N qual (az st) f cdv A outer s H E) (aQ st) t/\t { nx:=fun _ H'=>Q .aq H',rt:=Q } (start N vs) H):aA P w K mg base CX (k+1) f fd ps sp:=by
 obtain ⟨oc,od,kV,doc,pm,an,cdv,ct,dA,rfl,lk,bo⟩:=F.ex;exact wJ lk bo S len fun A outer s H vs Q E hr dD=>hb cdv A outer s H vs Q E rfl hr dD
section
variable {X:Cx}
def vq {π:List (Addr×Obj)} {σ:St} {H:Hp} {s:Shared} {A:Around} {a b:Addr} {xs ys:List V} (I:Inv X π σ H s) (ha:aD X.K H a xs) (hb:aD X.K H b ys) (h0:xs=[]\/ys=[]) (hu:A.units < cLine) :
  SeqAt.RcAt A s (.ref a) (.ref b) (decide (xs=ys))/\SeqAt.RcNeAt A s (.ref a) (.ref b) (!decide (xs=ys)):=by
 obtain ⟨i1,r1,p1,_⟩:=I.list ha;obtain ⟨i2,r2,p2,_⟩:=I.list hb;have n1:i1.toArray.size=xs.length:=by rw [sB,<- r1.length]
 have n2:i2.toArray.size=ys.length:=by rw [sB,<- r2.length]
 by_cases h:xs.length=ys.length
 ·have e1:xs=[]:=by
   rcases h0 with e | e
   ·exact e
   ·rw [e] at h;exact Tm.mp h
  have e2:ys=[]:=by rw [e1] at h;exact Tm.mp h.symm
  subst e1 e2;have hsz:i1.toArray.size=i2.toArray.size:=by rw [n1,n2]
  have hz:i1.toArray.size=0:=n1;have k1:=SeqAt.RcAt.lists (A:=A) (s:=s) (e:=fun _=>true) p1.isList p2.isList hsz hu (fun j g1 g2=>absurd g1 (by rw [hz];exact Nat.not_lt_zero _));have k2:=Ja7 (A:=A) (s:=s) (e:=fun _=>true) p1.isList p2.isList hsz hu (fun j g1 g2=>absurd g1 (by rw [hz];exact Nat.not_lt_zero _));rw [hz] at k1 k2;exact ⟨k1,k2⟩
 ·have hsz:(i1.toArray.size != i2.toArray.size)=true:=by rw [n1,n2];simpa using h
  have e:decide (xs=ys)=false:=pi fun z=>h (by rw [z]);rw [e];exact ⟨SeqAt.RcAt.lists_lengths p1.isList p2.isList hsz hu,SeqAt.RcNeAt.lists_lengths p1.isList p2.isList hsz hu⟩
def qr (K:ν) (neg:Bool):R2:=fun x y H Q=>match x,y with
 | .ref a,.ref b=>∃ xs ys:List V,aD K H a xs/\aD K H b ys/\((ys=[]/\Q (.bl (neg ^^ xs.isEmpty)) H)\/(xs=[]/\Q (.bl (neg ^^ ys.isEmpty)) H))
 | _,_=>False
def Ki {xs ys:List V} (h:ys=[]):decide (xs=ys)=xs.isEmpty:=by subst h;cases xs <;> simp
def Lq {xs ys:List V} (h:xs=[]):decide (xs=ys)=ys.isEmpty:=by subst h;cases ys <;> simp
def SW {K:ν} (hK:X.K=K) (hu:X.A.units < cLine):aR X (compareOp .Eq) (qr K false):=by
 subst hK;intro π s σ H x y v u Q I rx ry h;unfold qr at h;split at h
 ·obtain ⟨xs,ys,ha,hb,q⟩:=h;cases rx;cases ry;simp only [Bool.false_bne] at q;rcases q with ⟨e,q⟩ | ⟨e,q⟩
  ·exact (vq I ha hb (.inr e) hu).1 _ _ _ _ ⟨.bl _,H,I,rfl,by rw [Ki e];exact q⟩
  ·exact (vq I ha hb (.inl e) hu).1 _ _ _ _ ⟨.bl _,H,I,rfl,by rw [Lq e];exact q⟩
 ·exact h.elim
def OH {K:ν} (hK:X.K=K) (hu:X.A.units < cLine):aR X (compareOp .NotEq) (qr K true):=by
 subst hK;intro π s σ H x y v u Q I rx ry h;unfold qr at h;split at h
 ·obtain ⟨xs,ys,ha,hb,q⟩:=h;cases rx;cases ry;simp only [Bool.true_bne] at q;rcases q with ⟨e,q⟩ | ⟨e,q⟩
  ·exact (vq I ha hb (.inr e) hu).2 _ _ _ _ ⟨.bl _,H,I,rfl,by rw [Ki e];exact q⟩
  ·exact (vq I ha hb (.inl e) hu).2 _ _ _ _ ⟨.bl _,H,I,rfl,by rw [Lq e];exact q⟩
 ·exact h.elim
def Dt:V->List V->Hp->VK->Prop:=fun x vs H Q=>match x,vs with
 | .ref l,[]=>∃ xs y,H l=some (.lst (xs++[y]))/\Q y (upd H l (.lst xs))
 | _,_=>False
def Jr:en X "list.pop" Dt:=en.imp (r:=KW) ada fun x vs H Q h=>by
 unfold Dt at h;split at h
 ·obtain ⟨xs,y,hl,q⟩:=h;refine ⟨_,xs++[y],y,rfl,rfl,hl,?_,?_⟩
  ·simp
  ·rw [List.dropLast_concat];exact q
 ·exact h.elim
def T2:V->List V->Hp->VK->Prop:=fun x vs H Q=>match x,vs with
 | .ref l,[]=>∃ xs,H l=some (.lst xs)/\Q .aq (upd H l (.lst []))
 | _,_=>False
def Xk:List V->Hp->VK->Prop:=fun xs H Q=>∃ p kvs,xs=[.ref p]/\H p=some (.dT kvs)/\∀ l (ks:List Addr),ks.length=kvs.length->(∀ (i:Nat) (a:Addr) (k:List Key) (v:V),ks[i]?=some a->kvs[i]?=some (k,v)->H a=some (.tup (k.map kV)))->H l=none ->
 Q (.ref l) (upd H l (.lst (ks.map V.ref)))
end
def QC {prog:Program} {w:World} {d:Addr} {es:Array DictEntry} {ep:Nat} (lo:(d == sysModules)=false):W.KdlSrc prog w "dict" d d es.size (fun i v=>∃ e,es[i]?=some e/\v=e.key) (fun h=>ke h d es ep) where
 type:=fun _ hm=>hm.typeIs
 there:=fun _ hm=>let ⟨_,e,_⟩:=hm;⟨u8 e,u8 e⟩
 keep:=fun _ _ hm hk=>hm.at' fun o e=>hk d (.inl rfl) o e
 notList:=by decide
 notTuple:=by decide
 hint:=fun _ _ _ _ hm hq=>W.kdl_hint_dict hm.typeIs hq
 iter:=fun _ _ hh hm=>⟨_,_,(fun _ _ hq=>zG lo hm hq),IY hh _ d (let ⟨_,e,_⟩:=hm;zn (u8 e)) es ep,⟨⟨_,wn _ rfl,rfl,rfl⟩,hm.at' fun o e=>pc _ e⟩⟩
def Lh {α β:Type} {F:α->β->Prop}:∀ {l₁:List α} {l₂:List β},Paired F l₁ l₂->∀ {i:Nat} {a:α} {b:β},l₁[i]?=some a->l₂[i]?=some b->F a b
 | _,_,.cons h _,0,_,_,e1,e2=>by cases e1;cases e2;exact h
 | _,_,.cons _ t,i+1,_,_,e1,e2=>Lh t e1 e2
section
variable {X:Cx}
def BQ:∀ {vs:List V} {us:List Value},vs.length=us.length->(∀ (i:Nat) (v:V) (u:Value),vs[i]?=some v->us[i]?=some u->RelV v u)->Vals vs us
 | [],[],_,_=>.nil
 | v::vs,u::us,e,h=>.cons (h 0 v u rfl rfl) (BQ (by simpa using e) fun i v u h1 h2=>h (i+1) v u h1 h2)
def Wt (hc:X.calm=true):cZ X (.type "list") Xk:=by
 intro π s σ H xs us Q I r h;obtain ⟨p,kvs,rfl,hd,q⟩:=h;obtain ⟨u,rfl,rx⟩:=vals1 r;cases rx;obtain ⟨hz,hS,ys,hp,o,es,ep,ho,hex,eX,uX,MU⟩:=id (I.ay p _ hd);have hsz:es.size=ys.length:=by rw [<- Rs,uX,ss]
 have lG:kvs.length=ys.length:=hp.length;refine W.kdl_call (QC (prog:=X.prog) (w:=X.w) (ep:=ep) (es:=es) hS) (I.ok.hd hc) ⟨o,ho,hex,eX⟩ (by rw [hsz,<- lG];exact hz) fun h' tk acc c hk hD iU=>?_;have hal:acc.toList.length=ys.length:=by rw [Rs,iU.1,hsz]
 have hv:Vals ((ys.map (·.2.1)).map V.ref) acc.toList:=by
  refine BQ (by simp [hal]) fun i v u h1 h2=>?_;obtain ⟨e,he,rfl⟩:=iU.2 i u (by rw [<- SC];exact h2);rw [<- SC,uX,Ev] at he;rw [Re,Ev] at h1;cases hy:ys[i]? with
  | none=>rw [hy] at h1;cases h1
  | some y =>
   rw [hy] at h1 he;cases h1;cases he;exact rfl
 refine ⟨.ref s.heap.objs.size,_,I.laid (t':=tk) hk (sK _) (show bR X.prog X.w _ _ _ (.lst ((ys.map (·.2.1)).map V.ref)) from ⟨?_,_,c,hv,?_⟩),rfl,q _ (ys.map (·.2.1)) ?_ (fun i a k v h1 h2=>?_) (I.ay.fresh (sK _))⟩
 ·simp only [ss];rw [<- lG];exact hz
 ·rw [_0];exact hD
 ·rw [ss,lG]
 ·rw [Ev] at h1;cases hy:ys[i]? with
  | none=>rw [hy] at h1;cases h1
  | some y =>
   rw [hy] at h1;cases h1;have z:=Lh hp h2 hy;exact z.2.1
end
def RN:typeLookup (.type "list_reverseiterator") "__len__" = pure none:=by rw [typeLookup_type,builtinLookup_eq_fast];kernel_rfl
def R8:typeLookup (.type "list_reverseiterator") "__length_hint__" = pure (some (.builtin "list_reverseiterator.__length_hint__")):=by rw [typeLookup_type,builtinLookup_eq_fast];kernel_rfl
section
variable {prog:Program} {w:World} {A:Around} {E:Value->Shared->Prop} {s:Shared} {I:Addr}
def abe {Q:Bool->Shared->Prop} (hT:s.TypeIs (.ref I) "list_reverseiterator") (h:Q false s):wpAny (model prog w) A (Builtin.List.listLengthHint (.ref I)) Q E s:=by
 unfold Builtin.List.listLengthHint;refine li (wpAny_specialOf hT RN ?_);show wpAny _ A (specialOf (Value.ref I) (Str.ofString "__length_hint__") >>= _) _ _ _;refine li (wpAny_specialOf hT R8 ?_);generalize hid:("list_reverseiterator.__length_hint__" : String)=id0
 wp_delta
 rw [show splitId id0=some ("list_reverseiterator","__length_hint__") from by subst hid;decide +kernel];subst hid;refine li (wpAny_isInstance (T := "list_reverseiterator") (b:=true) hT (by rw [isSubtype_type];kernel_rfl) ?_);refine _4 (fun fG=>absurd fG (by decide)) (fun _=>?_);refine _4 (fun _=>?_) (fun fG=>absurd (by decide +kernel) fG);refine _4 (fun fG=>absurd fG (by decide +kernel)) (fun _=>?_);exact sw h
def aaV {R:Result->Shared->Prop} {l S:Addr} {items:Array Value} {res:Value} {c₀:Nat} (hh:A.handled=none) (hit:s.heap.IsRevIter I l ((items.size:Int) - 1)) (hl:s.heap.IsList l items) (cM:l≠I) (N0:S≠I) (hSl:S≠l) (hn:items.size<=sizeLine)
  (hS:s.heap.get? S=some { cls:=.type "list",data:=.seq #[] c₀ })
  (hR:∀ h' tk acc' c',(∀ b o,b≠S->b≠I->s.heap.get? b=some o->h'.get? b=some o)->h'.get? S=some { cls:=.type "list",dict:=none,data:=.seq acc' c',slots:=#[] }->ItemsOf (fun i v=>items[items.size - 1 - i]?=some v) acc' items.size->R (.ok (.ret res)) { s with heap:=h',toks:=tk }) :
  wpAny (model prog w) A.in1 (Builtin.List.listExtendWith (.ref S) (.ref I) res)
   (fun fin s'=>match fin with | .done f=>R (.ok f) s' | .again c'=>c'.quiet=true/\codeAny (model prog w) A c' R s') (fun e s'=>R (.error e) s') s:=by
 have W:=Walks.listRev (prog:=prog) (w:=w) (A:=A.in1) hh I l cM items;have rF:S ∉ [I,l]:=by simp only [lv,mo,wP,UV];exact ⟨N0,hSl⟩
 have yu:0<=items.size/\s.heap.IsRevIter I l ((items.size:Int) - 1 - ((0:Nat):Int))/\s.heap.IsList l items:=⟨Da _,by simpa using hit,hl⟩;unfold Builtin.List.listExtendWith;refine li (wpAny_typeOf hit.typeIs ?_);have h1:Builtin.List.listSameRef (.ref S) (.ref I)=false:=by simp [Builtin.List.listSameRef,N0]
 simp only [h1,show (Value.type "list_reverseiterator" == Value.type "list")=false by decide,show (Value.type "list_reverseiterator" == Value.type "tuple")=false by decide,Jac,Ix,_c];refine li (W.self 0 _ _ _ yu ?_);refine li (KB (abe hit.typeIs ?_));refine _4 (fun h=>absurd h (by decide)) (fun _=>sw ⟨plainId_quiet PySem.F.plain_extend_loop _,?_⟩);refine codeAny_extend_loopS W.toS hn S rF res items.size 0 _ #[] c₀ rfl (Da _) yu hS (ItemsOf.nil _) fun s' acc' c' hm hS' iU=>?_;rw [Moved.eq_with hm];refine hR s'.heap s'.toks acc' c' (fun b o hb hb' e=>hm.heap b o (fun hmem=>?_) e) hS' iU;rcases lv.mp hmem with e' | hmem
 ·exact hb e'
 ·exact hb' (wf.mp hmem)
def SR {Q:Value->Shared->Prop} {l:Addr} {items:Array Value} (hh:A.handled=none) (hit:s.heap.IsRevIter I l ((items.size:Int) - 1)) (hl:s.heap.IsList l items) (cM:l≠I) (hn:items.size<=sizeLine)
  (hQ:∀ h' tk acc' c',(∀ b o,b≠I->s.heap.get? b=some o->h'.get? b=some o)->h'.get? s.heap.objs.size=some { cls:=.type "list",dict:=none,data:=.seq acc' c',slots:=#[] }->ItemsOf (fun i v=>items[items.size - 1 - i]?=some v) acc' items.size ->
   Q (.ref s.heap.objs.size) { s with heap:=h',toks:=tk }):wpAny (model prog w) A (call (.type "list") [.ref I]) Q E s:=by
 have hIlt:I < s.heap.objs.size:=let ⟨_,e,_⟩:=hit;u8 e
 have hllt:l < s.heap.objs.size:=let ⟨_,e,_⟩:=hl;u8 e
 refine callType_codes (Q₁:=fun obj s₁=>obj=.ref s.heap.objs.size/\s₁={ s with heap:=s.heap.push { cls:=.type "list",data:=.seq #[] } }) PySem.F.called_list (PySem.F.typeCall_list_1 _) PySem.F.entry_list_init
  (code_list_new _ ⟨rfl,rfl⟩) fun obj s₁ h₁=>?_
 obtain ⟨rfl,rfl⟩:=h₁;have hS:(s.heap.push { cls:=.type "list",data:=.seq #[] }).get? s.heap.objs.size=some { cls:=.type "list",data:=.seq #[] }:=wn _ rfl;refine ⟨⟨_,hS,rfl⟩,PySem.F.args_list_init_2 _ _,?_⟩;show wpAny _ _ (do let old <- Builtin.List.listItems (.ref s.heap.objs.size);Builtin.List.listUpdate (.ref s.heap.objs.size) (fun _=>#[]);letGo old.toList.reverse;Builtin.List.listExtendWith (.ref s.heap.objs.size) (.ref I) .none) _ _ _;refine li ?_;unfold Builtin.List.listItems;refine li (Jaa hS rfl (sw ?_));show wpAny _ _ (updateSeq s.heap.objs.size (fun _=>#[]) >>= fun _=>letGo (#[]:Array Value).toList.reverse >>= fun _=>Builtin.List.listExtendWith (.ref s.heap.objs.size) (.ref I) .none) _ _ _;refine li (wpAny_updateSeq hS rfl ?_);have hS₂:=Sc (Obj.mapSeq (fun _=>(#[]:Array Value))) hS rfl;have EJ:∀ b o,s.heap.get? b=some o->((s.heap.push { cls:=.type "list",data:=.seq #[] }).update s.heap.objs.size (Obj.mapSeq (fun _=>(#[]:Array Value)))).get? b=some o :=
  fun b o e=>(GM _ _ (Ja1 (u8 e))).trans (pc _ e)
 refine li (wpAny_letGo ?_);refine aaV (A:=A.in1) hh (hit.at fun o e=>EJ _ o e) (hl.at fun o e=>EJ _ o e) cM (Ja1 hIlt) (Ja1 hllt) hn hS₂ fun h' tk acc' c' hk hS' iU=>?_;exact ⟨rfl,hQ h' tk acc' c' (fun b o hb e=>hk b o (zn (u8 e)) hb (EJ b o e)) hS' iU⟩
end
section
variable {X:Cx}
def Aa (K:ν) (te:TE):TE:=fun σ H Q=>te σ H fun x H1=>∃ p ys,x=.ref p/\aD K H1 p ys/\∀ l,H1 l=none->Q (.ref l) (upd H1 l (.lst ys.reverse))
def W5 {e:Expr} {te:TE} {p q pos qos:Pos} (hc:X.calm=true) (hg:Gl X "list") (hm:X.mg "list" = none) (En:Gl X "reversed") (Fc:X.mg "reversed" = none) (he:PE X e te) (hs:starEach [e] X.env=[(false,eval e X.env)]:=by rfl) :
  PE X (.Call (.Name "list" p) [.Call (.Name "reversed" q) [e] [] qos] [] pos) (Aa X.K te):=by
 intro π s σ H Q I h;refine FM (nQ (u:=.type "list") I hg hm (by kernel_rfl) ?_);refine TW ?_;show wpAny _ _ (spliced ((false,eval (.Call (.Name "reversed" q) [e] [] qos) X.env)::backTo pos (starEach [] X.env))) _ _ s;refine SL ?_;refine FM (nQ (u:=.type "reversed") I En Fc (by kernel_rfl) ?_);refine TW ?_ (by rw [hs];rfl) (by rfl);rw [hs];show wpAny _ _ (spliced ((false,eval e X.env)::backTo qos [])) _ _ s;refine SL (aB (he π s σ H _ I h) fun u s1 ⟨x,H1,I1,rx,a,ys,ex,hl,q⟩=>Tk ?_);subst ex;cases (show u=Value.ref a from rx);obtain ⟨aj,r',pl,hz⟩:=I1.list hl;have hlen:=r'.length;obtain ⟨oa,hoa,_⟩:=pl.isList;have halt:a < s1.heap.objs.size:=u8 hoa;refine call_reversed_list pl.isList ?_;refine Tk ?_;refine SR (I1.ok.hd hc) (l:=a) (items:=aj.toArray) ⟨_,wn _ rfl,rfl,rfl⟩ (pl.isList.at fun o e=>pc _ e) (zn halt) (by rw [sB,<- hlen];exact hz) fun h' tk acc c hk hD iU=>?_;have kp:∀ b o,s1.heap.get? b=some o->h'.get? b=some o:=fun b o e=>hk b o (zn (u8 e)) (pc _ e);have hsz:s1.heap.objs.size<=(s1.heap.push (revObj a ((aj.toArray.size:Int) - 1))).objs.size:=by rw [_t];exact Nat.le_succ _
 have hv:Vals ys.reverse acc.toList:=by
  have ha:acc.size=aj.length:=by rw [iU.1,sB]
  refine BQ (by rw [_8,hlen,<- ha];exact Rs.symm) fun i v u h1 h2=>?_;have hu:=iU.2 i u (by rw [<- SC];exact h2);have hi:i < ys.length:=by have:=(ul.mp h1).1;rwa [_8] at this
  rw [List.getElem?_reverse hi] at h1;obtain ⟨w,hw,rw'⟩:=r'.get h1;rw [List.getElem?_toArray,sB,<- hlen,hw] at hu;cases hu;exact rw'
 refine ⟨.ref _,_,I1.laid (t':=tk) kp hsz (show bR X.prog X.w _ _ _ (.lst ys.reverse) from ⟨by rw [_8];exact hz,_,c,hv,by rw [_0];exact hD⟩),rfl,q _ (I1.ay.fresh hsz)⟩
def Dv.listRev {e:Expr} {te:TE} {p q pos qos:Pos} {K:ν} (hK:X.K=K) (hc:X.calm=true) (hm:X.mg "list" = none) (Fc:X.mg "reversed" = none) (he:QE X e te) (hg:Gl X "list" := by rfl) (En:Gl X "reversed" := by rfl) (hs:starEach [e] X.env=[(false,eval e X.env)]:=by rfl) :
  QE X (.Call (.Name "list" p) [.Call (.Name "reversed" q) [e] [] qos] [] pos) (Aa K te):=hK ▸ ⟨W5 hc hg hm En Fc he.h hs⟩
end
def Cd {K:ν} {x:Str} {f c P:Addr} {oc occ:Value} {od odc:Option Addr} {fd:FuncData} {sl slc:Array (Option Value)} {vs:Array Value} (n:W.nsIn K mainGlobals x=some (some (.ref f))) (l:K.lookup f=some ⟨oc,od,.func fd,sl⟩) (hc:fd.code=.ref c)
  (lc:K.lookup c=some ⟨occ,odc,.fields vs,slc⟩) (hv:vs[11]?=some (.ref P)):W.tabIn K x=some (c,P):=by
 unfold W.tabIn;simp only [n,l,hc,lc,hv]
def cf (X:Cx) (scope:Scope) (cl:List (Str×Addr)) (N:List Str) (s:Shared) (H:Hp) (ex:List Addr) (C:Addr):Cx :=
 { X with N:=N,s₀:=s,H₀:=H,env:=compEnvC scope cl C X.env,outer:=X.stack,stack:=X.stack,ex:=ex,fn:=fun _=>false,pn:=[],xe:=fun _ _=>False }
structure iA (X:Cx) (scope:Scope) (cl:List (Str×Addr)) (caps:List Str) (ix:List Nat):Prop where
 gW:closureFor scope X.env=pure cl
 sub:∀ x c,cl.lookup x=some c->X.env.cells.lookup x=some c
 has:∀ y,((relabel scope X.env).names.lookup y=some .cell\/(relabel scope X.env).names.lookup y=some .free)->∃ c,cl.lookup y=some c
 len:ix.length=caps.length
 at':∀ (i j:Nat),ix[i]?=some j->∃ x,caps[i]?=some x/\X.N[j]?=some x/\X.env.scope.names.lookup x=some .cell/\(relabel scope X.env).names.lookup x=some .cell/\cl.lookup x=X.env.cells.lookup x
def iA.of {X:Cx} {scope:Scope} {cl:List (Str×Addr)} {caps:List Str} {ix:List Nat} (gW:closureFor scope X.env=pure cl) (sub:fc (fun e:Str×Addr=>X.env.cells.lookup e.1=some e.2) cl)
  (has:fc (fun e:Str×NameKind=>(e.2=.cell\/e.2=.free)->∃ c,cl.lookup e.1=some c) (relabel scope X.env).names) (len:ix.length=caps.length)
  (at':fc (fun e:Nat×Str=>X.N[e.1]?=some e.2/\X.env.scope.names.lookup e.2=some .cell/\(relabel scope X.env).names.lookup e.2=some .cell/\cl.lookup e.2=X.env.cells.lookup e.2) (ix.zip caps)):iA X scope cl caps ix where
 gW:=gW
 sub:=fun x c h=>fc.mem sub _ (Fk h)
 has:=fun y hy=>by
  rcases hy with h | h
  ·exact fc.mem has _ (Fk h) (.inl rfl)
  ·exact fc.mem has _ (Fk h) (.inr rfl)
 len:=len
 at':=fun i j h=>by
  have hi:=(ul.mp h).1;have hi':i < caps.length:=len ▸ hi;have hm:(j,caps[i])∈ix.zip caps:=by
   refine _V.mpr ⟨i,?_⟩;rw [_B];exact ⟨h,ut hi'⟩
  have z:=fc.mem at' _ hm;exact ⟨caps[i],ut hi',z⟩
def mr (n:Nat) (ix:List Nat) (wi:TI) (g:TG) (tt:TT) (te:TE):TE:=fun σ H Q=>∃ vs,kG ix σ vs/\wi σ H fun J H1=>∃ W:Nat->List V->Nat->Hp->Prop,(∃ m,W 0 [] m H1)/\∀ i ys m H,W i ys m H ->
 ys.length<=sizeLine/\((J.stop i H/\∀ l,H l=none->Q (.ref l) (upd H l (.lst ys))) \/
  (J.go i H/\ys.length < sizeLine/\∀ y H',J.mK i H y H'->∀ σ0:St,σ0.length=n->g y (σ0++vs.map some) H' fun σ1 H1=>(∃ σ2:St,σ1=σ2++vs.map some/\σ2.length=n) /\
   tt σ1 H1 fun c H2=>if c=true then te σ1 H2 fun z H3=>∃ m',m' < m/\W (i+1) (ys++[z]) m' H3 else ∃ m',m' < m/\W (i+1) ys m' H2))
section
variable {X:Cx}
def Vo {π:List (Addr×Obj)} {σ:St} {H:Hp} {s s4:Shared} {scope:Scope} {cl:List (Str×Addr)} {TN caps:List Str} {ix:List Nat} {vs:List V} {fp:List Addr} {C:Addr} {m:Str->Option Value} (I:Inv X π σ H s) (CC:iA X scope cl caps ix) (hv:kG ix σ vs) (hf:∀ b∈fp,gS X π H b) (bO:∀ b∈fp,b < s.heap.objs.size)
  (hk:scope.kind=.function) (hC:s.heap.objs.size<=C)
  (hos:s4.os=s.os) (hgen:s4.gens=s.gens) (old:∀ b o,s.heap.get? b=some o->s4.heap.get? b=some o) (eA:s4.heap.Ns C m):Inv (cf X scope cl (TN++caps) s H fp C) [] ((TN.map fun _=>none)++vs.map some) H s4:=by
 refine ⟨⟨I.ok.mod,hk,I.ok.glob,I.ok.blt,hC,fun x y c e1 e2=>I.ok.inj x y c (CC.sub x c e1) (CC.sub y c e2),fun y hy=>CC.has y hy,fun _ _ e=>(by cases e),I.ok.hd,I.ok.frames,.inl rfl,fun b hb=>⟨zn (wE (bO b hb) hC),fun x c e=>(hf b hb).2.2.2.2.1 x c (CC.sub x c e)⟩,
  fun b o e=>I.bs b o e,wl I.ok.gY I.sz,fun b o e hb=>?_,fun b hb hm=>?_,I.stack,I.vN⟩,
  hos,by rw [hgen];exact I.bare,Un.kept old,⟨m,eA,fun i y v e1 e2 _=>?_⟩,fun x c e=>?_,I.ay.fresh hC,fun x c e=>I.eU x c (CC.sub x c e),fun p hp=>absurd (show p∈([]:List (Addr×Obj)) from hp) (by simp),I.ay.kept old,?_⟩
 ·rcases (hf b hb).2.2.2.1 with z | z
  ·exact I.ok.lX b o e z
  ·exact absurd (wE (wE (u8 e) I.ok.gY) z) (Id _)
 ·rcases lv.mp (I.ua b hm) with z | z
  ·exact (hf b hb).2.1 z
  ·exact (hf b hb).2.2.1 z
 ·have e1':(TN++caps)[i]?=some y:=e1;have e2':((TN.map fun _=>(none:Option V))++vs.map some)[i]?=some (some v):=e2;by_cases hi:i < TN.length
  ·rw [Gc (by simpa using hi),Ev] at e2';cases h:TN[i]? <;> rw [h] at e2' <;> simp at e2'
  ·rw [FS (by omega)] at e1';rw [FS (by simpa using Nat.not_lt.mp hi),ss,Ev] at e2';have ev:vs[i - TN.length]?=some v:=by
    cases h:vs[i - TN.length]? with
    | none=>rw [h] at e2';cases e2'
    | some a=>rw [h] at e2';cases e2';rfl
   have hlt':i - TN.length < ix.length:=by
    rw [<- hv.1];exact (ul.mp ev).1
   obtain ⟨x,c1,c2,c3,c4,c5⟩:=CC.at' _ _ (ut hlt');rw [e1'] at c1;cases c1;have hσ:=hv.2 _ _ v (ut hlt') ev;obtain ⟨m0,_,hl⟩:=I.loc;obtain ⟨u,ru,lk⟩:=hl _ y v c2 hσ (.inr (.inl c3));rcases lk with ⟨k1,_⟩ | ⟨_,c,k2,o,k3,k4⟩
   ·have:X.env.scope.names.lookup y=some .local:=k1;rw [c3] at this;cases this
   ·exact ⟨u,ru,.inr ⟨.inl c4,c,by show cl.lookup y=some c;rw [c5];exact k2,o,old _ _ k3,k4⟩⟩
 ·obtain ⟨v,o,e1,e2⟩:=I.cell x c (CC.sub x c e);exact ⟨v,o,old _ _ e1,e2⟩
 ·show ((TN.map fun _=>(none:Option V))++vs.map some).length=(TN++caps).length;rw [xz,xz,ss,ss,hv.1,CC.len]
def CK {elt iter:Expr} {ifs:List Expr} {tg:Expr} {g:TG} {TN caps:List Str} {ix:List Nat} {cl:List (Str×Addr)} {pos:Pos} {scope:Scope} {wi:TI} {tt:St->TT} {te:TE} (hc:X.calm=true) (hi:PI X tg iter wi)
  (ht:∀ {π σ s H ex} C,Inv X π σ H s->(∀ b∈ex,gS X π H b)->nN (cf X scope cl (TN++caps) s H ex C) ifs (tt σ)) (fH:∀ s H ex C,PG (cf X scope cl (TN++caps) s H ex C) tg g) (he:∀ s H ex C,PE (cf X scope cl (TN++caps) s H ex C) elt te) (CC:iA X scope cl caps ix)
  (hk:scope.kind=.function) (eS:∀ y∈scope.names,y.2≠.cell)
  {π:List (Addr×Obj)} {s:Shared} {σ:St} {H:Hp} {Q:VK} {RR:Value->Addr->Result->Shared->Prop} (I:Inv X π σ H s) (h:mr TN.length ix wi g (tt σ) te σ H Q)
  (hRR:∀ (a C:Addr) (s6:Shared) (H6:Hp),Inv X π σ H6 s6->(∃ m,s6.heap.Ns C m)->Ce X π H6 C->Q (.ref a) H6->RR (.ref a) C (.ok .next) s6) :
  wpAny (model X.prog X.w) X.A (eval iter X.env) (fun v s1=>wpAny (model X.prog X.w) X.A (pyIter v) (fun it s2=>wpAny (model X.prog X.w) X.A (newList []) (fun acc s3 =>
   wpAny (model X.prog X.w) X.A (newFunctionEnv scope X.env.globals cl [] X.env.qual none .none (some X.env)) (fun NB s4 =>
    codeAny (model X.prog X.w) X.A (.compStart (.ListComp elt [⟨tg,iter,ifs,0⟩] scope pos) 0 it acc { NB with scope:=relabel scope X.env }) (RR acc NB.locals) s4) X.xe s3) X.xe s2) X.xe s1) X.xe s:=by
 obtain ⟨vs,hvs,h⟩:=h;refine aB (hi π s σ H _ I h) fun v s1 h1=>aB h1 fun Fb s2 h2=>?_;obtain ⟨it,fp,tn,J,H2,rfl,I2,T,kz,f2,W,⟨m0,w0⟩,turn⟩:=h2;have bO:∀ b∈fp,b < s2.heap.objs.size:=fun b hb=>let ⟨o,e,_⟩:=T.obj _ _ kz b hb;u8 e
 refine _s (wpAny_newFunctionEnv eS (by intro y hy;simp at hy) (fun h1 hns1 hsb1=>?_) hk);dsimp only at hns1 hsb1 ⊢;generalize EL:s2.heap.push { cls:=.type "list",dict:=none,data:=.seq ([]:List Value).toArray }=G at hns1 hsb1 ⊢;have hG:G.objs.size=s2.heap.objs.size+1:=by rw [<- EL,_t]
 have yw:s2.heap.objs.size≠G.objs.size:=by rw [hG];exact zn (KM _)
 have oZ:s2.heap.objs.size<=G.objs.size:=by rw [hG];exact Nat.le_succ _
 have old:∀ b o,s2.heap.get? b=some o->h1.get? b=some o:=fun b o e=>by
  exact hsb1.extBut b o (zn (wE (u8 e) oZ)) (pc _ (EL ▸ pc _ e))
 have accO:h1.get? s2.heap.objs.size=some { cls:=.type "list",dict:=none,data:=.seq ([]:List Value).toArray } :=
  hsb1.extBut _ _ yw (pc _ (EL ▸ wn _ rfl))
 -- ki state at ki block's entry
 have main:∀ s4:Shared,s4={ s2 with heap:=h1,toks:=s2.toks+([]:List (Str×Value)).length } ->
   codeAny (model X.prog X.w) X.A (.compLoop (.ListComp elt [⟨tg,iter,ifs,0⟩] scope pos) 0 (.ref it) (.ref s2.heap.objs.size) (compEnvC scope cl G.objs.size X.env))
    (RR (.ref s2.heap.objs.size) G.objs.size) s4:=by
  rintro s4 rfl;have I4:Inv (cf X scope cl (TN++caps) s2 H2 fp G.objs.size) [] ((TN.map fun _=>none)++vs.map some) H2 { s2 with heap:=h1,toks:=s2.toks+([]:List (Str×Value)).length } :=
   Vo I2 CC hvs f2 bO hk oZ rfl rfl old hns1
  have Fo:∀ {H':Hp} {pl:List (Addr×Obj)},(∀ b∈fp,H' b=none)->(∀ p∈pl,p.1 ∉ fp)->∀ b∈fp,gS (cf X scope cl (TN++caps) s2 H2 fp G.objs.size) pl H' b:=fun hn hp b hb =>
   ⟨hn b hb,zn (wE (bO b hb) oZ),I4.ok.mj b hb,.inl hb,fun x c e=>(f2 b hb).2.2.2.2.1 x c (CC.sub x c e),fun p hp' e=>hp p (by simpa [cf] using hp') (e ▸ hb)⟩
  have Nz:s2.heap.objs.size ∉ fp:=fun z=>Id _ (bO _ z);refine Yi (fun n s'=>∃ (i:Nat) (ys:List V) (aj:List Value) (k:Nat) (σ':St) (H':Hp),(∃ σ0:St,σ'=σ0++vs.map some/\σ0.length=TN.length)/\Inv (cf X scope cl (TN++caps) s2 H2 fp G.objs.size) [] σ' H' s'/\tn i s'.heap/\(∀ b∈fp,H' b=none)/\H' s2.heap.objs.size=none/\Vals ys aj /\
   s'.heap.get? s2.heap.objs.size=some { cls:=.type "list",dict:=none,data:=.seq aj.toArray k }/\W i ys n H') (fun _ _ _=>trivial) ?_ m0
   ⟨0,[],[],0,_,H2,⟨_,rfl,by simp⟩,I4,T.keep _ _ _ kz (fun b _ o e=>old b o e),fun b hb=>(f2 b hb).1,I2.ay.fresh (sK _),.nil,accO,w0⟩
  rintro n s5 ⟨i,ys,aj,k,σ5,H5,⟨σ0,hq5,hσ⟩,I5,qV,yz,yj,rv,ea,w5⟩;subst hq5;have Ip:Inv (cf X scope cl (TN++caps) s2 H2 fp G.objs.size) [(s2.heap.objs.size,{ cls:=.type "list",dict:=none,data:=.seq aj.toArray k })] (σ0++vs.map some) H5 s5:=I5.uB fun p hp=>by
   have e:p=(s2.heap.objs.size,{ cls:=.type "list",dict:=none,data:=.seq aj.toArray k }):=by simpa using hp
   subst e;refine ⟨ea,yj,yw,fun z=>?_,fun v z=>by cases z⟩;exact I2.Mu (sK _) (by
    have hz:s2.heap.objs.size∈bL X.stack:=z;rcases lv.mp (I2.ua _ hz) with q | q
    ·exact absurd I2.lt (by rw [<- q];exact Id _)
    ·exact q)
  have Fv:∀ p∈[((s2.heap.objs.size,{ cls:=.type "list",dict:=none,data:=.seq aj.toArray k }):Addr×Obj)],p.1 ∉ fp:=fun p hp=>by
   have e:p=(s2.heap.objs.size,{ cls:=.type "list",dict:=none,data:=.seq aj.toArray k }):=by simpa using hp
   subst e;exact Nz
  obtain ⟨hyl,alt⟩:=turn i ys n H5 w5;rcases alt with ⟨stop,qn⟩ | ⟨go,hys,step⟩
  ·refine aB (T.done (cf X scope cl (TN++caps) s2 H2 fp G.objs.size) rfl rfl rfl hc i _ s5 (σ0++vs.map some) H5 (fun _ _=>False) Ip (Fo yz Fv) qV stop) fun r s6 ⟨hr,I6⟩=>?_;subst hr;have ea6:=(I6.pin (s2.heap.objs.size,{ cls:=.type "list",dict:=none,data:=.seq aj.toArray k }) (wS _ (wf.mpr rfl))).1;obtain ⟨m,hn6,_⟩:=I6.loc;have hC6:H5 G.objs.size=none:=I6.free;have lt2:∀ b o,s2.heap.get? b=some o->b≠s2.heap.objs.size:=fun b o e=>zn (u8 e);have Iout:Inv X π σ (upd H5 s2.heap.objs.size (.lst ys)) s6:=by
    refine I2.GV (s':=s6) (ch:=fp) I6.os ⟨fun b o e n hb hx=>?_,fun b o e n hb hx=>?_,fun b o e n hx=>?_,fun b o e hx=>?_,fun b xs e=>?_,fun b o u e=>?_,fun b ps e=>?_⟩ ?_ I6.bare fun b hb=>?_
    ·exact I6.base.keep b o e n hb hx
    ·exact I6.base.slot b o e n hb hx
    ·rw [ag (lt2 b o e)];exact I6.base.free b o e n hx
    ·exact I6.base.there b o e hx
    ·rw [ag (gg e (I2.ay.fresh (sK _)))];exact I6.base.fJ b xs e
    ·rw [ag (gg e (I2.ay.fresh (sK _)))];exact I6.base.fj b o u e
    ·obtain ⟨more,e1⟩:=I6.base.fQ b ps e;exact ⟨more,by rw [ag (gg e (I2.ay.fresh (sK _)))];exact e1⟩
    ·intro b u e;by_cases hb:b=s2.heap.objs.size
     ·subst hb;rw [au] at e;cases e;exact ⟨hyl,aj,k,rv,ea6⟩
     ·rw [ag hb] at e;exact (I6.ay b u e).gH (fun c v _ q=>q) (fun c q=>by rw [ag (gg q yj)];exact q) fun c xs q=>by rw [ag (gg q yj)];exact q
    ·obtain ⟨g1,g2,g3,g4,g5,g6⟩:=f2 b hb;exact ⟨g4,g2,g5,g6⟩
   refine hRR _ _ s6 _ Iout ⟨m,hn6⟩ ⟨by rw [ag (pp yw)];exact hC6,?_,?_,fun y c e z=>?_,fun p hp z=>?_⟩ (qn _ yj)
   ·exact Ja1 (wE I2.lt oZ)
   ·exact wl I2.sz oZ
   ·obtain ⟨v',q⟩:=I2.cell y c e;exact absurd (wE q.lt oZ) (by rw [z];exact Id _)
   ·exact absurd (wE (u8 (I2.pin p hp).1) oZ) (by rw [z];exact Id _)
  ·refine aB (T.item (cf X scope cl (TN++caps) s2 H2 fp G.objs.size) rfl rfl rfl hc i _ s5 (σ0++vs.map some) H5 (fun _ _=>False) Ip (Fo yz Fv) qV go) fun r s6 ⟨u,hr,h6⟩=>?_;subst hr;refine aB h6 fun _ s7 ⟨y,H7,I7,ry,y7,ES,fr7⟩=>?_;have I7':=I7.pinned (Fo fr7 Fv) (T.obj _ _ ES);refine aB (fH _ _ _ _ _ s7 (σ0++vs.map some) H7 y u _ I7' ry (step y H7 y7 σ0 hσ)) fun _ s8 ⟨σ8,H8,I8,NP,q8⟩=>?_;refine aB (ht _ I2 f2 _ s8 σ8 H8 _ I8 q8) fun ok s9 ⟨H9,I9,q9⟩=>?_
   -- what is pinned stays
   have Oi:∀ {s':Shared} {H':Hp},Inv (cf X scope cl (TN++caps) s2 H2 fp G.objs.size) ([(s2.heap.objs.size,{ cls:=.type "list",dict:=none,data:=.seq aj.toArray k })]++tJ fp s7.heap) σ8 H' s' ->
     tn (i+1) s'.heap/\(∀ b∈fp,H' b=none)/\H' s2.heap.objs.size=none/\s'.heap.get? s2.heap.objs.size=some { cls:=.type "list",dict:=none,data:=.seq aj.toArray k }:=fun {s' H'} J'=>by
    refine ⟨T.keep _ _ _ ES fun b hb o e=>(J'.pin (b,o) (wS _ (wS _ (v9 hb e)))).1,fun b hb=>?_,(J'.pin (s2.heap.objs.size,{ cls:=.type "list",dict:=none,data:=.seq aj.toArray k }) (wS _ (_a _ (wf.mpr rfl)))).2.1,(J'.pin (s2.heap.objs.size,{ cls:=.type "list",dict:=none,data:=.seq aj.toArray k }) (wS _ (_a _ (wf.mpr rfl)))).1⟩;obtain ⟨o,e,_⟩:=T.obj _ _ ES b hb;exact (J'.pin (b,o) (wS _ (wS _ (v9 hb e)))).2.1
   cases ok with
   | false =>
    obtain ⟨m',hm,w'⟩:=q9;obtain ⟨k1,k2,k3,k4⟩:=Oi I9;exact ⟨m',hm,i+1,ys,aj,k,σ8,H9,NP,I9.uB (π':=[]) (fun _ hp=>nomatch hp),k1,k2,k3,rv,k4,w'⟩
   | true =>
    refine aB (he _ _ _ _ _ s9 σ8 H9 _ I9 q9) fun zv gP ⟨z,kj,MK,rz,pV⟩=>?_;obtain ⟨m',hm,w'⟩:=pV;obtain ⟨k1,k2,k3,k4⟩:=Oi MK;have hl:=rv.length;refine TD F.slot_list_append ⟨_,k4,rfl⟩ F.entry_list_append (F.args_list_append_2 _ _) (PySem.list_append s2.heap.objs.size aj.toArray k zv (by rw [sB];omega)) ⟨k4,?_⟩;have q:=PySem.IsL.update k4 (·.push zv);have ip:aj.toArray.push zv=(aj++[zv]).toArray:=by simp
    rw [ip] at q;have I11:Inv (cf X scope cl (TN++caps) s2 H2 fp G.objs.size) [] σ8 kj gP:=MK.uB (π':=[]) (fun _ hp=>nomatch hp);refine ⟨m',hm,i+1,ys++[z],aj++[zv],_,σ8,kj,NP,I11.turned (t':=gP.toks) (it:=s2.heap.objs.size) (fun b o hb e=>(GM gP.heap _ (pp hb)).trans e) k3 yw (.inr (sK _)) (fun x c e z=>by obtain ⟨v',q⟩:=I2.cell x c (CC.sub x c e);exact absurd q.lt (by rw [z];exact Id _)) (fun p hp=>absurd (show p∈([]:List (Addr×Obj)) from hp) (by simp)),
     T.keep _ _ _ k1 fun b hb o e=>(GM gP.heap _ (fun z=>Nz (by rw [z];exact hb))).trans e,k2,k3,rv.append (.cons rz .nil),q,w'⟩
 exact codeAny_compStart_list (main _ rfl) (T.self _ 0 _ _ _ (T.keep _ _ _ kz fun b _ o e=>old b o e) (main _ rfl))
def YC {elt iter:Expr} {ifs:List Expr} {tg:Expr} {g:TG} {TN caps:List Str} {ix:List Nat} {cl:List (Str×Addr)} {pos:Pos} {scope:Scope} {wi:TI} {tt:TT} {te:TE} (hc:X.calm=true) (hi:PI X tg iter wi)
  (ht:∀ s H ex C,nN (cf X scope cl (TN++caps) s H ex C) ifs tt) (fH:∀ s H ex C,PG (cf X scope cl (TN++caps) s H ex C) tg g) (he:∀ s H ex C,PE (cf X scope cl (TN++caps) s H ex C) elt te) (CC:iA X scope cl caps ix)
  (hk:scope.kind=.function:=by rfl) (cH:∀ y∈scope.names,y.2=.local->scope.names.lookup y.1=some .local:=by decide +kernel) (eS:∀ y∈scope.names,y.2≠.cell:=by decide +kernel)
  (hs:∀ x,foldedSetIterable iter X.env x=pure x:=by intro _;rfl):PE X (.ListComp elt [⟨tg,iter,ifs,0⟩] scope pos) (mr TN.length ix wi g tt te):=by
 intro π s σ H Q I h;rw [eval_ListComp];refine _D (use:=none) (cl:=cl) rfl hs CC.gW hk cH ?_;refine CK (RR:=fun acc C=>compPost (model X.prog X.w) X.A X.xe none (EP X π σ Q) acc C) (tt:=fun _=>tt) hc hi (fun C _ _=>ht _ _ _ C) fH he CC hk eS I h ?_;intro a C s6 H6 I6 hm o q;obtain ⟨m,hn⟩:=hm;exact ⟨m,hn,fun h' ko=>⟨.ref a,H6,o.go I6 ko,rfl,q⟩⟩
def acG {elt iter:Expr} {ifs:List Expr} {tg:Expr} {g:TG} {TN caps:List Str} {ix:List Nat} {cl:List (Str×Addr)} {y:Str} {i:Nat} {py pos spos:Pos} {scope:Scope} {wi:TI} {tt:TT} {te:TE} (hc:X.calm=true) (hN:X.N.Nodup) (uZ:X.N[i]?=some y) (rh:X.env.scope.names.lookup y=some .local) (hi:PI X tg iter wi)
  (ht:∀ s H ex C,nN (cf X scope cl (TN++caps) s H ex C) ifs tt) (fH:∀ s H ex C,PG (cf X scope cl (TN++caps) s H ex C) tg g) (he:∀ s H ex C,PE (cf X scope cl (TN++caps) s H ex C) elt te) (CC:iA X scope cl caps ix)
  (uP:swapsWith (.ListComp elt [⟨tg,iter,ifs,0⟩] scope pos) (some (.Name y py)) spos.line X.env=pure true:=by rfl)
  (hk:scope.kind=.function:=by rfl) (cH:∀ y∈scope.names,y.2=.local->scope.names.lookup y.1=some .local:=by decide +kernel) (eS:∀ y∈scope.names,y.2≠.cell:=by decide +kernel)
  (hs:∀ x,foldedSetIterable iter X.env x=pure x:=by intro _;rfl):PS X (.Assign [.Name y py] (.ListComp elt [⟨tg,iter,ifs,0⟩] scope pos) spos) (mB (mr TN.length ix wi g tt te) (fM i)):=by
 intro π s σ H D I h;rw [exec_Assign_Name_used _ _ _ _ uP];refine li (_X (li ?_));refine li (IR (_D (e:=.ListComp elt [⟨tg,iter,ifs,0⟩] scope pos) (use:=some (assign (.Name y py) X.env)) (cl:=cl) (Q:=fun _ s'=>SP X π D .next s') rfl hs CC.gW hk cH
  (CK (RR:=fun acc C=>compPost (model X.prog X.w) X.A X.xe (some (assign (.Name y py) X.env)) (fun _ s'=>SP X π D .next s') acc C) (tt:=fun _=>tt) hc hi (fun C _ _=>ht _ _ _ C) fH he CC hk eS I h ?_)) (fun _ s' hq=>sw (sw hq)) fun _ _ e=>e)
 intro a C s6 H6 I6 hm o q;obtain ⟨m,hn⟩:=hm;refine (show wpAny (model X.prog X.w) X.A (assign (.Name y py) X.env (.ref a)) _ X.xe s6 from ?_);refine wpAny_assign_Name (Jq I6 hN uZ (.inl rh) (v:=.ref a) rfl (fun s' I' ko=>?_) (.inr rh));obtain ⟨b,ko,hb⟩:=ko;have nb:C≠b:=by
  rcases hb with z | z
  ·rw [z];exact o.nl
  ·exact fun e=>o.nc y b z e.symm
 exact ⟨m,hn.sameBut ko nb,fun h' hs'=>⟨_,H6,o.go I' hs',q⟩⟩
end
namespace Dv
section
variable {X:Cx}
def B9 {elt iter tg:Expr} {g:TG} {ifs:List Expr} {TN caps:List Str} {ix:List Nat} {cl:List (Str×Addr)} {pos:Pos} {scope:Scope} {wi:TI} {tt:TT} {te:TE} (hc:X.calm=true) (hi:QI X tg iter wi)
  (ht:∀ s H ex C,oI (cf X scope cl (TN++caps) s H ex C) ifs tt) (fH:∀ s H ex C,QG (cf X scope cl (TN++caps) s H ex C) tg g) (he:∀ s H ex C,QE (cf X scope cl (TN++caps) s H ex C) elt te) (CC:iA X scope cl caps ix)
  (hk:scope.kind=.function:=by rfl) (cH:∀ y∈scope.names,y.2=.local->scope.names.lookup y.1=some .local:=by decide +kernel) (eS:∀ y∈scope.names,y.2≠.cell:=by decide +kernel)
  (hs:∀ x,foldedSetIterable iter X.env x=pure x:=by intro _;rfl):QE X (.ListComp elt [⟨tg,iter,ifs,0⟩] scope pos) (mr TN.length ix wi g tt te):=⟨YC hc hi.h (fun s H ex C=>(ht s H ex C).h) (fun s H ex C=>(fH s H ex C).h) (fun s H ex C=>(he s H ex C).h) CC hk cH eS hs⟩
def K4 (i:Nat) {elt iter tg:Expr} {g:TG} {ifs:List Expr} {TN caps:List Str} {ix:List Nat} {cl:List (Str×Addr)} {y:Str} {py pos spos:Pos} {scope:Scope} {wi:TI} {tt:TT} {te:TE} (hc:X.calm=true) (hN:X.N.Nodup) (hi:QI X tg iter wi)
  (ht:∀ s H ex C,oI (cf X scope cl (TN++caps) s H ex C) ifs tt) (fH:∀ s H ex C,QG (cf X scope cl (TN++caps) s H ex C) tg g) (he:∀ s H ex C,QE (cf X scope cl (TN++caps) s H ex C) elt te) (CC:iA X scope cl caps ix) (uZ:X.N[i]?=some y:=by rfl) (rh:X.env.scope.names.lookup y=some .local:=by rfl)
  (uP:swapsWith (.ListComp elt [⟨tg,iter,ifs,0⟩] scope pos) (some (.Name y py)) spos.line X.env=pure true:=by rfl)
  (hk:scope.kind=.function:=by rfl) (cH:∀ y∈scope.names,y.2=.local->scope.names.lookup y.1=some .local:=by decide +kernel) (eS:∀ y∈scope.names,y.2≠.cell:=by decide +kernel)
  (hs:∀ x,foldedSetIterable iter X.env x=pure x:=by intro _;rfl):QS X (.Assign [.Name y py] (.ListComp elt [⟨tg,iter,ifs,0⟩] scope pos) spos) (mB (mr TN.length ix wi g tt te) (fM i)):=⟨acG hc hN uZ rh hi.h (fun s H ex C=>(ht s H ex C).h) (fun s H ex C=>(fH s H ex C).h) (fun s H ex C=>(he s H ex C).h) CC uP hk cH eS hs⟩
end
end Dv
section
variable {X:Cx}
end
def vQ {σ:St} (h:σ.length=1):∃ a,σ=[a]:=by
 match σ,h with
 | [a],_=>exact ⟨a,rfl⟩
def g9 {f:Str} {v u:V}:∀ {fs:List (Str×V)},fs.lookup f=some u->(ax f v fs).length=fs.length
 | (g,x)::r,h=>by
  rw [show ax f v ((g,x)::r)=(if g=f then (g,v)::r else (g,x)::ax f v r) from rfl];by_cases e:g=f
  ·rw [At e];rfl
  ·rw [xL e];have hb:(f == g)=false:=EQ.mpr (pp e);have h':r.lookup f=some u:=by simpa [List.lookup,hb] using h
   rw [FB,g9 h'];rfl
def DZ (r:V->List V->Hp->VK->Prop) (to:TE):TE:=fun σ H Q=>to σ H fun x H1=>match x with
 | .ref l=>(match H1 l with
  | some (.lst _)=>r (.ref l) [] H1 Q
  | _=>False)
 | _=>False
section
variable {X:Cx} {name:Str} {id:String} {r:V->List V->Hp->VK->Prop} {o:Expr} {to:TE} {apos bh:Pos}
def Q5 (slot:Slot "list" name id) (cC:typeOf (.builtin id)=pure (.type "method_descriptor")) (hm:en X id r) (ho:PE X o to)
  (ju:attributeBase o name X.env (eval o X.env)=eval o X.env:=by rfl) (jw:(apos.endLine == bh.line)=true:=by rfl):PE X (.Call (.Attribute o name apos) [] [] bh) (DZ r to):=by
 intro π s σ H Q I h;refine wpAny_Call_method0_late ju jw (aB (ho π s σ H _ I h) fun v s1 ⟨x,H1,I1,r1,q1⟩=>?_);dsimp only at q1;split at q1
 ·rename_i l;split at q1
  ·rename_i zs el;obtain ⟨h1,h2⟩:=yX (T := "list") I1 r1 (.inl ⟨rfl,zs,aD.of el⟩);exact ⟨"list",id,PySem.F.plainAttrs_list,slot,cC,h1,h2,Uf rfl (PySem.evalArgs_none (hm π s1 σ H1 (.ref l) [] v [] Q I1 r1 .nil q1))⟩
  ·exact q1.elim
 ·exact q1.elim
def Dv.JF (slot:Slot "list" name id) (cC:typeOf (.builtin id)=pure (.type "method_descriptor")) (hm:en X id r) (ho:QE X o to)
  (ju:attributeBase o name X.env (eval o X.env)=eval o X.env:=by rfl) (jw:(apos.endLine == bh.line)=true:=by rfl):QE X (.Call (.Attribute o name apos) [] [] bh) (DZ r to):=⟨Q5 slot cC hm ho.h ju jw⟩
end
def ah.gk {H H1:Hp} {l:Addr} {o:HO} (s:ah H H1) (hl:H l=none):ah H (L2.upd H1 l o):=fun b u e=>by
 rw [ag (fun z=>by rw [z,hl] at e;cases e)];exact s b u e
def mL.m {P:Program} {w:World} {K:ν} {mg:Str->Option Value} {base:Heap} {k:Nat} {s1:Shared} {B:Addr->Prop} {f:Addr} {bg:bW} (D:mL P w K mg base k s1 B f bg) :
  mL P w K mg base k s1 B f (fun H Q E=>∃ (Q0:VK) (E0:XK),bg H Q0 E0/\(∀ v H',Q0 v H'->Q v H')/\∀ C od H',E0 C od H'->E C od H') :=
 fun A outer s H Q E hr e0 hk ⟨Q0,E0,hw,hq,he⟩=>_b (D A outer s H Q0 E0 hr e0 hk hw) fun r s' z=>by
  cases r with
  | error e =>
   obtain ⟨ea,C,od,H',e1,F,z⟩:=z;exact ⟨ea,C,od,H',e1,F,he _ _ _ z⟩
  | ok fl =>
   cases fl with
   | ret u =>
    obtain ⟨v,H',z1,z2,z3,z4,z5,z6⟩:=z;exact ⟨v,H',z1,z2,z3,z4,z5,hq _ _ z6⟩
   | next=>exact z
   | brk=>exact z
   | cont=>exact z
def jL.Di {P:Addr} {q:Str} {c:Addr} {H H1:Hp} (L:jL P q c H H1):∀ b o,b≠P->H b=some o->H1 b=some o:=fun b o hb e=>by
 by_cases hc:b=c
 ·rcases L.old with h | h
  ·rw [hc,h] at e;cases e
  ·rw [h];exact e
 ·rw [L.rest b hb hc];exact e
def IL:R2:=fun x y H Q=>match x,y with
 | .str i,.str j=>Q (.bl (!(!(Builtin.Str.occurrences j i 0 j.length 1).isEmpty))) H
 | _,_=>False
def LX {X:Cx}:aR X (compareOp .NotIn) IL:=adL.imp fun x y H Q h=>by
 unfold IL at h;split at h
 ·exact ⟨_,_,rfl,rfl,h⟩
 ·exact h.elim
section
variable {X:Cx}
def CV:List V->Hp->VK->Prop:=fun xs H Q=>match xs with
 | [.bl b]=>Q (.int (if b then 1 else 0)) H
 | _=>False
def Mi:cZ X (.type "int") CV:=by
 intro π s σ H xs us Q I r h;unfold CV at h;split at h
 ·rename_i b;obtain ⟨u,rfl,rx⟩:=vals1 r;cases rx;exact call_int_bool ⟨.int (if b then 1 else 0),H,I.tok _,⟨_,rfl⟩,h⟩
 ·exact h.elim
def IS:aR X (binaryOp .Pow) (pZ K8 fun i j=>i ^ j.toNat):=ON.imp fun _ _ _ _ h=>zk h
end
def Ck (K:ν):R2:=fun x y H Q=>match y with
 | .ref p=>∃ xs,(aD K H p xs\/cJ K H p xs)/\di x=true/\xs.all di=true/\Q (.bl (!fO x xs)) H
 | _=>False
def zT {X:Cx} {K:ν} (h:X.K=K):aR X (compareOp .NotIn) (Ck K):=h ▸ Xh.imp fun x y H Q z=>by
 unfold Ck at z;split at z
 ·obtain ⟨xs,z1,z2,z3,z4⟩:=z;exact ⟨_,xs,rfl,z1,z2,z3,z4⟩
 ·exact z.elim
structure FT (K:ν) (mg:Str->Option Value) (x y:Str) (st:Stmt) (ps:List Str) where
 f:Addr
 d:FuncData
 F:fD K x y st f d
 m:mg x=some (.ref f)
 b:Binds K d ps []
structure MT (K:ν) (C:Addr) (x y:Str) (st:Stmt) (ps:List Str) where
 f:Addr
 d:FuncData
 F:fD K x y st f d
 h:Meth K C x f
 b:Binds K d ps []
def FA (K:ν) (x y:Str) (st:Stmt):Prop:=∃ (f:Addr) (oc:Value) (od:Option Addr) (kV dc pm:Value) (an:Option Addr) (cd ct:Value) (sl:Array (Option Value)),
 W.nsIn K mainGlobals x=some (some (.ref f))/\K.lookup f=some ⟨oc,od,.func (W.fnOf x y (fh st) (aQ st) (az st) .none kV dc pm an cd ct),sl⟩/\W.codeIn K cd y=true/\W.keepIn K (.ref f)=true
def MA (K:ν) (C:Addr) (x y:Str) (st:Stmt):Prop:=∃ (f:Addr) (oc:Value) (od:Option Addr) (kV dc pm:Value) (an:Option Addr) (cd ct:Value) (sl:Array (Option Value)),
 W.findIn K (.ref C) x=some (some (.ref f))/\K.lookup f=some ⟨oc,od,.func (W.fnOf x y (fh st) (aQ st) (az st) .none kV dc pm an cd ct),sl⟩/\W.codeIn K cd y=true/\W.keepIn K (.ref f)=true/\W.isFn K (.ref f)=true
section
variable {K:ν} {mg:Str->Option Value} {h:Heap} {C:Addr} {x y:Str} {st:Stmt} {ps:List Str}
def FA.ft (X:K.In h) (G:h.Ns mainGlobals mg) (ps:List Str) (hb:∀ (kV dc pm:Value) (an:Option Addr) (cd ct:Value) (us:List Value),us.length=ps.length->bindArgs (W.fnOf x y (fh st) (aQ st) (az st) .none kV dc pm an cd ct) ⟨us,[]⟩=pure (ps.zip us)) (a:FA K x y st):Nonempty (FT K mg x y st ps):=by
 obtain ⟨f,oc,od,kV,dc,pm,an,cd,ct,sl,n,l,c,k⟩:=a;have F:=y4 (st:=st) l c k;exact ⟨⟨f,_,F,W.mg_of X G n,F.binds hb⟩⟩
def MA.ft (ps:List Str) (hb:∀ (kV dc pm:Value) (an:Option Addr) (cd ct:Value) (us:List Value),us.length=ps.length->bindArgs (W.fnOf x y (fh st) (aQ st) (az st) .none kV dc pm an cd ct) ⟨us,[]⟩=pure (ps.zip us)) (a:MA K C x y st):Nonempty (MT K C x y st ps):=by
 obtain ⟨f,oc,od,kV,dc,pm,an,cd,ct,sl,n,l,c,k,t⟩:=a;have F:=y4 (st:=st) l c k;exact ⟨⟨f,_,F,⟨n,t,k⟩,F.binds hb⟩⟩
end
section
variable {K:ν} {mg:Str->Option Value} {h:Heap} {C:Addr} {x y:Str} {st:Stmt} {ps:List Str}
def FA.mk {f:Addr} {oc:Value} {od:Option Addr} {kV dc pm:Value} {an:Option Addr} {cd ct:Value} {sl:Array (Option Value)} (n:W.nsIn K mainGlobals x=some (some (.ref f))) (l:K.lookup f=some ⟨oc,od,.func (W.fnOf x y (fh st) (aQ st) (az st) .none kV dc pm an cd ct),sl⟩) (c:W.codeIn K cd y=true) (k:W.keepIn K (.ref f)=true):FA K x y st:=⟨_,_,_,_,_,_,_,_,_,_,n,l,c,k⟩
def MA.mk {f:Addr} {oc:Value} {od:Option Addr} {kV dc pm:Value} {an:Option Addr} {cd ct:Value} {sl:Array (Option Value)} (n:W.findIn K (.ref C) x=some (some (.ref f))) (l:K.lookup f=some ⟨oc,od,.func (W.fnOf x y (fh st) (aQ st) (az st) .none kV dc pm an cd ct),sl⟩) (c:W.codeIn K cd y=true) (k:W.keepIn K (.ref f)=true) (t:W.isFn K (.ref f)=true):MA K C x y st:=⟨_,_,_,_,_,_,_,_,_,_,n,l,c,k,t⟩
def FA.gt (X:K.In h) (G:h.Ns mainGlobals mg) (hb:∀ (kV dc pm:Value) (an:Option Addr) (cd ct:Value) (us:List Value),us.length=ps.length->bindArgs (W.fnOf x y (fh st) (aQ st) (az st) .none kV dc pm an cd ct) ⟨us,[]⟩=pure (ps.zip us)) (a:FA K x y st):Nonempty (FT K mg x y st ps):=FA.ft X G ps hb a
def MA.gt (hb:∀ (kV dc pm:Value) (an:Option Addr) (cd ct:Value) (us:List Value),us.length=ps.length->bindArgs (W.fnOf x y (fh st) (aQ st) (az st) .none kV dc pm an cd ct) ⟨us,[]⟩=pure (ps.zip us)) (a:MA K C x y st):Nonempty (MT K C x y st ps):=MA.ft ps hb a
def Zr {M:MT K C "__init__" y st ps} (a:W.makesIn K C=true) (b:W.keepIn K (.ref C)=true):Mk K C M.f:=⟨a,M.h.at_,M.h.fn,b⟩
def sO {dt:Addr} {kV doc pm cdv ct:Value} {an:Option Addr} {o:Obj} {n:Nat} {ds:List Value} (j:Nat) (ld:K.lookup dt=some o) (hd:o.data=.seq ds.toArray n)
  (h:∀ (dt:Addr) (kV doc pm:Value) (an:Option Addr) (cdv ct:Value) (us:List Value),(us++ds.drop j).length=ps.length ->
   ∃ k,bindArgs (W.fnOf x y (fh st) (aQ st) (az st) (.ref dt) kV doc pm an cdv ct) ⟨us,[]⟩=seqItems? (.ref dt) >>= k/\k (some ds.toArray)=pure (ps.zip (us++ds.drop j))) :
  Binds K (W.fnOf x y (fh st) (aQ st) (az st) (.ref dt) kV doc pm an cdv ct) ps (ds.drop j):=by
 intro s us X hl;obtain ⟨k,h1,h2⟩:=h dt kV doc pm an cdv ct us hl;exact BindsTo.of_defaults rfl (X _ _ ld) hd h1 h2
end
section
variable {X:Cx} {tg:Expr}
end
section
variable {X:Cx}
def Zj:List V->Hp->VK->Prop:=fun xs H Q=>match xs with
 | [.int a]=>a.natAbs.log2 < 1920/\Q (.str (Str.ofString (toString a))) H
 | _=>False
end
section
variable {X:Cx}
def RV:V->List V->Hp->VK->Prop:=fun x vs H Q=>match x,vs with
 | .ref l,[.int 0]=>∃ y xs,H l=some (.lst (y::xs))/\Q y (upd H l (.lst xs))
 | _,_=>False
end
section
variable {X:Cx}
def all_true (n:Nat):(List.range n).all (fun _=>true)=true:=by rw [LE];exact fun _ _=>rfl
def abA (K:ν) (neg:Bool):R2:=fun x y H Q=>match x,y with
 | .ref a,.ref b=>∃ xs ys:List V,(aD K H a xs/\aD K H b ys\/cJ K H a xs/\cJ K H b ys)/\xs.length=ys.length/\xs.all di=true/\ys.all di=true/\(∀ i (h1:i < xs.length) (h2:i < ys.length),fR xs[i] ys[i]=true)/\Q (.bl (!neg)) H
 | _,_=>False
end
def Zp {α:Type} (us ws:List α):List α:=if ws.length=1 then us++ws else []
section
variable {K:ν} {x qual nm:Str} {st:Stmt} {f:Addr} {fd:FuncData} {ps:List Str} {ds:List Value}
def YR {α:Type} {a b c d:α}:Zp [a,b,c] [d]=[a,b,c,d]:=rfl
end
section
variable {X:Cx}
end
def qu (J:It) (n:Nat) (vs:List V) (g:TG) (tt:TT) (te:TE) (Q:VK) (H1:Hp):Prop:=∃ W:Nat->List V->Nat->Hp->Prop,(∃ m,W 0 [] m H1)/\∀ i ys m H,W i ys m H ->
 ys.length<=sizeLine/\((J.stop i H/\∀ l,H l=none->Q (.ref l) (upd H l (.lst ys))) \/
  (J.go i H/\ys.length < sizeLine/\∀ y H',J.mK i H y H'->∀ σ0:St,σ0.length=n->g y (σ0++vs.map some) H' fun σ1 H1=>(∃ σ2:St,σ1=σ2++vs.map some/\σ2.length=n) /\
   tt σ1 H1 fun c H2=>if c=true then te σ1 H2 fun z H3=>∃ m',m' < m/\W (i+1) (ys++[z]) m' H3 else ∃ m',m' < m/\W (i+1) ys m' H2))
def J5 {n:Nat} {ix:List Nat} {wi:TI} {g:TG} {tt:TT} {te:TE} {σ:St} {H:Hp} {Q:VK}:mr n ix wi g tt te σ H Q=∃ vs,kG ix σ vs/\wi σ H fun J H1=>qu J n vs g tt te Q H1:=rfl
def Wb {K:ν} {C:Addr} {y:Str} {st:Stmt} {ps:List Str} {fld:Str} {M:MT K C "__init__" y st ps} (q:vt K C=true) (sa:W.findIn K (.ref C) "__setattr__" = some (some (.builtin "object.__setattr__"))) (na:W.findIn K (.ref C) fld=some none) (ob:W.mroIn K C (.type "object")=some true)
  (be:W.mroIn K C (.type "BaseException")=some true) (self:W.mroIn K C (.ref C)=some true) (kp:W.keepIn K (.ref C)=true):gI K C M.f fld:=⟨q,M.h.at_,eq_of_beq M.h.fn,sa,na,ob,be,self,kp⟩
end L2
open PySem PySem.Spec PyProof.Rows
namespace L2
section
variable {X:Cx}
def xr (n b:Bool):Bool:=match n with | false=>b | true=>!b
def yV (n b:Bool):(n ^^ b)=xr n b:=by cases n <;> cases b <;> rfl
def mF (neg:Bool):R2:=fun x y H Q=>match x,y with
 | .int i,.int j=>Q (.bl (xr neg (decide (i=j)))) H
 | .str i,.str j=>Q (.bl (xr neg (decide (i=j)))) H
 | .bl i,.bl j=>Q (.bl (xr neg (decide (i=j)))) H
 | _,_=>wB x y=true/\Q (.bl (xr neg (decide (x=y)))) H
def Lr (neg:Bool):qd neg=mF neg:=by
 funext x y H Q;unfold qd mF;simp only [yV] <;> rfl
def gi:aR X (compareOp .Eq) (mF false):=Lr false ▸ abS
def gq:aR X (compareOp .NotEq) (mF true):=Lr true ▸ P8
def rK (neg:Bool):R2:=fun x y H Q=>match x,y with
 | .ref a,.ref b=>∃ ts us:List Str,H a=some (.lst (ts.map V.str))/\H b=some (.lst (us.map V.str))/\Q (.bl (xr neg (decide (ts=us)))) H
 | _,_=>False
def FR (neg:Bool):qM neg=rK neg:=by
 funext x y H Q;unfold qM rK;simp only [yV] <;> rfl
def Uk (hu:X.A.units < cLine):aR X (compareOp .Eq) (rK false):=FR false ▸ U2 hu
def Ic (hu:X.A.units < cLine):aR X (compareOp .NotEq) (rK true):=FR true ▸ UW hu
def uk (K:ν) (neg:Bool):R2:=fun x y H Q=>match x,y with
 | .ref a,.ref b=>∃ xs ys:List V,aD K H a xs/\aD K H b ys/\((ys=[]/\Q (.bl (xr neg xs.isEmpty)) H)\/(xs=[]/\Q (.bl (xr neg ys.isEmpty)) H))
 | _,_=>False
def Md {K:ν} (neg:Bool):qr K neg=uk K neg:=by
 funext x y H Q;unfold qr uk;simp only [yV] <;> rfl
def FN {K:ν} (hK:X.K=K) (hu:X.A.units < cLine):aR X (compareOp .Eq) (uk K false):=Md (K:=K) false ▸ SW hK hu
def JE {K:ν} (hK:X.K=K) (hu:X.A.units < cLine):aR X (compareOp .NotEq) (uk K true):=Md (K:=K) true ▸ OH hK hu
end
end L2
namespace L2
open PySem PySem.Spec PyProof.Rows
def Ze {J:It} {tt:TT} {te:TE} {Q:VK} {H:Hp}:uM J tt te Q H ↔ qu J 1 [] (fM 0) tt te Q H:=by
 constructor
 ·rintro ⟨W,w0,h⟩;refine ⟨W,w0,fun i ys m H hw=>⟨(h i ys m H hw).1,(h i ys m H hw).2.imp_right fun z=>⟨z.1,z.2.1,fun y H' hy σ0 hσ=>?_⟩⟩⟩;obtain ⟨a,rfl⟩:=vQ hσ;exact ⟨⟨[some y],rfl,rfl⟩,z.2.2 y H' hy⟩
 ·rintro ⟨W,w0,h⟩;exact ⟨W,w0,fun i ys m H hw=>⟨(h i ys m H hw).1,(h i ys m H hw).2.imp_right fun z=>⟨z.1,z.2.1,fun y H' hy=>(z.2.2 y H' hy [none] rfl).2⟩⟩⟩
def KO {wi:TI} {tt:TT} {te:TE} {σ:St} {H:Hp} {Q:VK} (h:wz wi tt te σ H Q):mr 1 [] wi (fM 0) tt te σ H Q:=by
 rw [Gy] at h;rw [J5];have e:(fun (J:It) H1=>uM J tt te Q H1)=fun J H1=>qu J 1 [] (fM 0) tt te Q H1:=by funext J H1;exact propext Ze
 rw [e] at h;exact ⟨[],⟨rfl,by simp⟩,h⟩
section
variable {X:Cx}
def Dv.BD {elt iter tg:Expr} {ifs:List Expr} {x:Str} {cl:List (Str×Addr)} {pos:Pos} {scope:Scope} {wi:TI} {tt:TT} {te:TE} (hc:X.calm=true) (hi:QI X tg iter wi)
  (ht:∀ s H ex C,oI (cf X scope cl ([x]++[]) s H ex C) ifs tt) (fH:∀ s H ex C,QG (cf X scope cl ([x]++[]) s H ex C) tg (fM 0)) (he:∀ s H ex C,QE (cf X scope cl ([x]++[]) s H ex C) elt te) (CC:iA X scope cl [] [])
  (hk:scope.kind=.function:=by rfl) (cH:∀ y∈scope.names,y.2=.local->scope.names.lookup y.1=some .local:=by decide +kernel) (eS:∀ y∈scope.names,y.2≠.cell:=by decide +kernel)
  (hs:∀ x,foldedSetIterable iter X.env x=pure x:=by intro _;rfl):QE X (.ListComp elt [⟨tg,iter,ifs,0⟩] scope pos) (wz wi tt te) :=
 ⟨fun π s σ H Q I h=>(Dv.B9 hc hi ht fH he CC hk cH eS hs).h π s σ H Q I (KO h)⟩
def Dv.GH (i:Nat) {elt iter tg:Expr} {ifs:List Expr} {x:Str} {cl:List (Str×Addr)} {y:Str} {py pos spos:Pos} {scope:Scope} {wi:TI} {tt:TT} {te:TE} (hc:X.calm=true) (hN:X.N.Nodup) (hi:QI X tg iter wi)
  (ht:∀ s H ex C,oI (cf X scope cl ([x]++[]) s H ex C) ifs tt) (fH:∀ s H ex C,QG (cf X scope cl ([x]++[]) s H ex C) tg (fM 0)) (he:∀ s H ex C,QE (cf X scope cl ([x]++[]) s H ex C) elt te) (CC:iA X scope cl [] []) (uZ:X.N[i]?=some y:=by rfl) (rh:X.env.scope.names.lookup y=some .local:=by rfl)
  (uP:swapsWith (.ListComp elt [⟨tg,iter,ifs,0⟩] scope pos) (some (.Name y py)) spos.line X.env=pure true:=by rfl)
  (hk:scope.kind=.function:=by rfl) (cH:∀ y∈scope.names,y.2=.local->scope.names.lookup y.1=some .local:=by decide +kernel) (eS:∀ y∈scope.names,y.2≠.cell:=by decide +kernel)
  (hs:∀ x,foldedSetIterable iter X.env x=pure x:=by intro _;rfl):QS X (.Assign [.Name y py] (.ListComp elt [⟨tg,iter,ifs,0⟩] scope pos) spos) (mB (wz wi tt te) (fM i)) :=
 ⟨fun π s σ H D I h=>(Dv.K4 i hc hN hi ht fH he CC uZ rh uP hk cH eS hs).h π s σ H D I (KO h)⟩
end
end L2
namespace L2
def Gu {α:Type} {C:List α->Prop} (h:C []):∀ us:List α,us.length=0->C us
 | [],_=>h
def ox {α:Type} {C:List α->Prop} {n:Nat} (h:∀ a us,us.length=n->C (a::us)):∀ us:List α,us.length=n+1->C us
 | a::us,e=>h a us (Nat.succ.inj e)
def KI {α:Type} {C:List α->Prop} (h:∀ a,C [a]):∀ us:List α,us.length=1->C us:=ox fun a=>Gu (C:=fun us=>C (a::us)) (h a)
def Jg {α:Type} {C:List α->Prop} (h:∀ a b,C [a,b]):∀ us:List α,us.length=2->C us:=ox fun a=>KI (C:=fun us=>C (a::us)) (h a)
def yC {α:Type} {C:List α->Prop} (h:∀ a b c,C [a,b,c]):∀ us:List α,us.length=3->C us:=ox fun a=>Jg (C:=fun us=>C (a::us)) (h a)
def wt {α:Type} {C:List α->Prop} (h:∀ a b c d,C [a,b,c,d]):∀ us:List α,us.length=4->C us:=ox fun a=>yC (C:=fun us=>C (a::us)) (h a)
def Ay {α:Type} {C:List α->Prop} (h:∀ a b c d e,C [a,b,c,d,e]):∀ us:List α,us.length=5->C us:=ox fun a=>wt (C:=fun us=>C (a::us)) (h a)
def AM {α:Type} {C:List α->Prop} (h:∀ a b c d e f,C [a,b,c,d,e,f]):∀ us:List α,us.length=6->C us:=ox fun a=>Ay (C:=fun us=>C (a::us)) (h a)
def YN {α:Type} {C:List α->Prop} (h:∀ a b c d e f g,C [a,b,c,d,e,f,g]):∀ us:List α,us.length=7->C us:=ox fun a=>AM (C:=fun us=>C (a::us)) (h a)
end L2
namespace L2
open PySem PySem.Spec PyProof.Rows
section
open PySem.AutoSeq1 (wpAny_loadPart')
open PySem.MeetsSeq PySem.SeqAt
def DX:∀ {ns:List Int} {us:List Value},Vals (ns.map V.int) us->IntsAre us ns
 | [],_,.nil=>.nil
 | _::_,_,.cons r t=>by
  obtain ⟨k,rfl⟩:=r;exact .cons _ _ (DX t)
def JG:∀ {ns:List Int} {us:List Value},IntsAre us ns->∃ xs:List (Int×Tok),us=xs.map (fun p=>Value.int p.1 p.2)/\ns=xs.map (·.1)
 | _,_,.nil=>⟨[],rfl,rfl⟩
 | _,_,.cons n t h=>by
  obtain ⟨xs,e1,e2⟩:=JG h;exact ⟨(n,t)::xs,by rw [e1];rfl,by rw [e2];rfl⟩
end
section
variable {X:Cx}
def zl (K:ν):V->List V->Hp->VK->Prop:=fun x vs H Q=>match x,vs with
 | .ref l,[.int k]=>∃ ns:List Int,aD K H l (ns.map V.int)/\k∈ns/\Q (.int (ns.idxOf k:Nat)) H
 | _,_=>False
def OR (K:ν):V->List V->Hp->VK->Prop:=fun x vs H Q=>match x,vs with
 | .ref l,[.int k]=>∃ ns:List Int,cJ K H l (ns.map V.int)/\k∈ns/\Q (.int (ns.idxOf k:Nat)) H
 | _,_=>False
def Gi {K:ν} (hK:X.K=K):en X "list.index" (zl K):=by
 subst hK;intro π s σ H x vs v us Q I rx rv h;unfold zl at h;split at h
 ·rename_i l k;obtain ⟨ns,hl,hk,q⟩:=h;cases rx;obtain ⟨u,rfl,ru⟩:=vals1 rv;obtain ⟨t,rfl⟩:=ru;obtain ⟨aj,r',⟨⟨cls,dd,data,sl⟩,n,ho,hc,hd,hs⟩,hz⟩:=I.list hl;simp only at hc hd hs;subst hc hd hs;have hi:=DX r';have hlen:=hi.length;have hj:ns.idxOf k < ns.length:=List.idxOf_lt_length_iff.mpr hk;rw [ss] at hz;have hsl:sizeLine < 2 ^ 62:=by decide
  refine TD _K ⟨_,ho,rfl⟩ PySem.F.entry_list_index (PySem.F.args_list_index_2 _ _)
   (PySem.SeqAt.list_indexAt l aj.toArray n none sl (.int k t) (isInt k) (ns.idxOf k) (by simpa [hlen] using hj) (by omega) ?_ ?_) ⟨ho,fun y hy=>(eq_isInt k t hi y (by simpa using hy)).at _ _,⟨.int _,H,I.kept (t':=s.toks+1) fun _ _ e=>e,⟨_,rfl⟩,q⟩⟩
  ·show isInt k aj[ns.idxOf k]=true;rw [isInt_at k hi _ (by omega) hj]
   simpa using List.getElem_idxOf hj
  ·intro j hjs bO;show isInt k aj[j]=false;rw [isInt_at k hi j (by simpa using hjs) (by omega)];exact ne_of_lt_idxOf bO _
 ·exact h.elim
def Ac (K:ν):List V->Hp->VK->Prop:=fun xs H Q=>match xs with
 | [.ref p]=>∃ (ns:List Int) (m:Int),aD K H p (ns.map V.int)/\m∈ns/\(∀ k∈ns,m<=k)/\Q (.int m) H
 | _=>False
def acg {K:ν} (hK:X.K=K) (hc:X.calm=true):cZ X (.builtin "min") (Ac K):=by
 subst hK;intro π s σ H xs us Q I r h;unfold Ac at h;split at h
 ·obtain ⟨ns,m,hl,hm,hle,q⟩:=h;obtain ⟨u,rfl,rx⟩:=vals1 r;cases rx;obtain ⟨aj,r',pl,hz⟩:=I.list hl;obtain ⟨xs,e1,e2⟩:=JG (DX r');have he:aj.toArray=intItems xs.toArray:=by rw [e1];simp [intItems]
  rw [he] at pl;have hx:0 < xs.length:=by
   rw [e2] at hm;cases xs with
   | nil=>cases hm
   | cons _ _=>exact Nat.succ_pos _
  refine min_intList (I.ok.hd hc) pl.isList (by simpa using hx) fun v h' tk hv hk=>?_;obtain ⟨t,rfl⟩:=intItems_at hv;obtain ⟨rB,xY⟩:=PySem.argBest_lt (numAt xs.toArray) (xs.toArray.size - 1);refine ⟨.int m,H,I.kept (t':=tk) hk,⟨t,?_⟩,q⟩;have hn:∀ i (h:i < xs.length),numAt xs.toArray i=xs[i].1:=fun i h=>by simp [numAt,h]
  have hsz:xs.toArray.size=xs.length:=by simp
  rw [hsz] at rB xY ⊢;generalize argBest _ (xs.length - 1)=a at rB xY ⊢;have ha:a < xs.length:=by omega
  have h1:m<=numAt xs.toArray a:=hle _ (by rw [e2,hn a ha];exact _9 (_y ha));rw [e2] at hm;obtain ⟨p,hp,hpm⟩:=Cl.mp hm;obtain ⟨i,hi,rfl⟩:=_h hp;have h2:=xY i (by omega);rw [hn i hi,hpm] at h2;rw [show numAt xs.toArray a=m by omega]
 ·exact h.elim
end
end L2
namespace HT
open PySem PySem.Spec PyProof.Rows
section
variable {prog:Program} {w:World} {A:Around} {E:Value->Shared->Prop} {s:Shared}
end
end HT
namespace L2
open PySem PySem.Spec PyProof.Rows
section
variable {X:Cx}
def Pg (K:ν):R2:=fun x y H Q=>match x,y with
 | .ref a,.ref b=>∃ xs ys,cJ K H a xs/\cJ K H b ys/\xs.length+ys.length<=sizeLine/\((xs=[]/\Q (.ref b) H)\/(xs≠[]/\ys≠[]/\∀ p,H p=none->Q (.ref p) (upd H p (.tup (xs++ys)))))
 | _,_=>False
def Uo (K:ν):R2:=fun x y H Q=>match x,y with
 | .ref a,.ref b=>∃ xs,cJ K H a xs/\cJ K H b []/\Q (.bl xs.isEmpty) H
 | _,_=>False
def aam (K:ν):V->Option Int->Option Int->Hp->VK->Prop:=fun x lo hi H Q=>match x with
 | .ref a=>∃ xs,cJ K H a xs/\(HT.dR xs.length 0 lo=0/\HT.dR xs.length xs.length hi=xs.length->Q (.ref a) H)/\(∀ p,H p=none->Q (.ref p) (upd H p (.tup (gA xs lo hi))))
 | _=>False
def aa1 (r:V->List V->Hp->VK->Prop) (to:TE) (t:TA):TE:=fun σ H Q=>to σ H fun x H1=>match x with
 | .ref l=>(match H1 l with
  | some (.tup _)=>t σ H1 fun xs H2=>r (.ref l) xs H2 Q
  | _=>False)
 | _=>False
section
variable {o e:Expr} {es:List Expr} {name:Str} {id:String} {r:V->List V->Hp->VK->Prop} {to:TE} {t:TA} {apos bh:Pos}
end
def UE:bootBuiltins "min" = some (.builtin "min"):=by kernel_rfl
end
def bb.m {j k:Nat} {A:Around} (r:bb k A) (h:j<=k:=by decide):bb j A:=r.mono h
def fI {C d x:Addr} {f:Str} {fs gs:List (Str×V)} {v:V} {H:Hp} {Q:V->Prop} (h:H x=some (.ins C d fs)) (s:dh fs gs) (e:List.lookup f gs=some v) (q:Q v):FI C f (.ref x) H Q:=⟨x,_,_,_,rfl,h,(s f).trans e,q⟩
def mI {C d x:Addr} {f:Str} {fs gs:List (Str×V)} {H:Hp} {q:Prop} (h:H x=some (.ins C d fs)) (s:dh fs gs) (r:q) (e:List.lookup f gs=none:=by rfl):MI C f (.ref x) H q:=⟨x,_,_,rfl,h,(s f).trans e,r⟩
@[elab_as_elim] theorem eC {H:Hp} {p:Addr} {o:HO} {C:Hp->Prop} (h:H p=none) (k:∀ H1,ah H H1->H1 p=some o->C H1):C (upd H p o):=k _ (ah.upd h) au
section
variable {prog:Program} {w:World} {A:Around} {E:Value->Shared->Prop} {s:Shared}
end
section
variable {X:Cx}
end
def DE (K:ν) (H:Hp):Nat->V->V->Prop
 | 0,x,y=>di x=true/\di y=true/\fR x y=true
 | n+1,x,y=>(di x=true/\di y=true/\fR x y=true)\/∃ a b xs ys,x=.ref a/\y=.ref b/\(aD K H a xs/\aD K H b ys\/cJ K H a xs/\cJ K H b ys)/\xs.length=ys.length/\∀ i (h1:i < xs.length) (h2:i < ys.length),DE K H n xs[i] ys[i]
section
variable {X:Cx}
def vh {xs:List V} {i1:List Value} (r1:Vals xs i1) (j:Nat) (g1:j < i1.toArray.size):∃ (j1:j < xs.length),RelV xs[j] i1.toArray[j]:=by
 have j1:j < xs.length:=by rw [r1.length];simpa using g1
 obtain ⟨u1,e1,ru1⟩:=r1.get (ut j1);have w1:i1.toArray[j]=u1:=by
  have:=(ul.mp e1).2
  simpa using this
 exact ⟨j1,by rw [w1];exact ru1⟩
def S6 {π:List (Addr×Obj)} {σ:St} {H:Hp} {s:Shared} (I:Inv X π σ H s) {n:Nat} (ih:∀ {A:Around} {x y:V} {v u:Value},DE X.K H n x y->RelV x v->RelV y u->A.units+n < cLine->SeqAt.EqAt A s v u true)
  {A:Around} {a b:Addr} {xs ys:List V} (fG:aD X.K H a xs/\aD X.K H b ys\/cJ X.K H a xs/\cJ X.K H b ys) (hl:xs.length=ys.length) (he:∀ i (h1:i < xs.length) (h2:i < ys.length),DE X.K H n xs[i] ys[i]) (hu:A.units+(n+1) < cLine):SeqAt.RcAt A s (.ref a) (.ref b) true:=by
 have el:∀ {i1 i2:List Value},Vals xs i1->Vals ys i2->∀ (j:Nat) (g1:j < i1.toArray.size) (g2:j < i2.toArray.size),SeqAt.EqAt A.in1 s i1.toArray[j] i2.toArray[j] true:=fun r1 r2 j g1 g2=>by
  obtain ⟨j1,u1⟩:=vh r1 j g1;obtain ⟨j2,u2⟩:=vh r2 j g2;exact ih (he j j1 j2) u1 u2 (show A.units+1+n < cLine by omega)
 rcases fG with ⟨ha,hb⟩ | ⟨ha,hb⟩
 ·obtain ⟨i1,r1,p1,_⟩:=I.list ha;obtain ⟨i2,r2,p2,_⟩:=I.list hb;have hsz:i1.toArray.size=i2.toArray.size:=by rw [sB,sB,<- r1.length,<- r2.length,hl]
  have k:=SeqAt.RcAt.lists (A:=A) (s:=s) (e:=fun _=>true) p1.isList p2.isList hsz (by omega) (el r1 r2);rw [all_true] at k;exact k
 ·obtain ⟨i1,r1,p1,_⟩:=I.tuple ha;obtain ⟨i2,r2,p2,_⟩:=I.tuple hb;have hsz:i1.toArray.size=i2.toArray.size:=by rw [sB,sB,<- r1.length,<- r2.length,hl]
  have k:=SeqAt.RcAt.tuples (A:=A) (s:=s) (e:=fun _=>true) p1 p2 (by omega) (el r1 r2);rw [all_true,hsz,beq_self_eq_true,Bool.and_self] at k;exact k
def Mo {π:List (Addr×Obj)} {σ:St} {H:Hp} {s:Shared} (I:Inv X π σ H s):∀ (n:Nat) {A:Around} {x y:V} {v u:Value},DE X.K H n x y->RelV x v->RelV y u->A.units+n < cLine->SeqAt.EqAt A s v u true
 | 0,A,x,y,v,u,h,rx,ry,hu=>by
  have:=DD (A:=A) (s:=s) rx ry h.1 h.2.1;rw [h.2.2] at this;exact this
 | n+1,A,x,y,v,u,h,rx,ry,hu=>by
  rcases h with h | ⟨a,b,xs,ys,rfl,rfl,fG,hl,he⟩
  ·have:=DD (A:=A) (s:=s) rx ry h.1 h.2.1;rw [h.2.2] at this;exact this
  ·cases rx;cases ry;by_cases e:a=b
   ·subst e;exact SeqAt.EqAt.same _
   ·exact SeqAt.EqAt.of_refs e (S6 I (Mo I n) fG hl he hu)
end
def bb.V9 {k:Nat} {A:Around} (r:bb k A):A.units+(4+1) < cLine:=by have:=r.un;omega
def Y9:List V->Hp->VK->Prop:=fun xs H Q=>match xs with
 | [.int a,.int b]=>Q (.int (if b < a then b else a)) H
 | _=>False
def Ko:∀ es:List Ent,(dZ es).length=3 * es.length
 | []=>rfl
 | e::r=>by show (dZ r).length+1+1+1=3 * (r.length+1);rw [Ko r];omega
def FD {P:Addr} {es:List Ent} {q:Str}:jX P es≠lx P q:=fun e=>by
 have e:=HO.ext.inj e
 let o:Obj:={ cls:=.none,data:=.fields #[.none,.str q 0] }
 let h:Heap:=Heap.push ⟨Array.replicate P o,{}⟩ o
 have hg:h.get? P=some o:=by
  have:=wn (⟨Array.replicate P o,{}⟩:Heap) (o:=o) rfl;rw [show (⟨Array.replicate P o,{}⟩:Heap).objs.size=P from Array.size_replicate] at this;exact this
 have h1:h.CodeRec (.ref P) q:=⟨P,o,_,0,rfl,hg,rfl,rfl⟩;have h2:h.get? P=some (W.tabObj (dZ es).toArray):=(congrFun e h).mpr h1;rw [hg] at h2;have h3:=P3 Obj.data (Fa h2);have h4:#[Value.none,.str q 0]=(dZ es).toArray:=by injection h3
 have h5:=P3 Array.size h4;rw [sB,sB,Ko] at h5;have h6:(2:Nat)=3 * es.length:=h5;omega
section
variable {K:ν} {x qual nm nm2:Str} {st:Stmt} {f:Addr} {fd:FuncData} {ps:List Str} {ds:List Value}
end
section
variable {X:Cx}
end
section
variable {X:Cx} {tg:Expr} {π:List (Addr×Obj)} {σ:St} {H:Hp} {s:Shared}
def Inv.freeze {d:Addr} {o:Obj} {kvs:List (Key×V)} (I:Inv X π σ H s) (e:Rd H d (.dK kvs)) (ho:s.heap.get? d=some o):Inv X π σ (upd H d (.cO o (.dK kvs))) s:=by
 rcases e with e | ⟨o',e⟩
 ·have mu:qF (H d):=by rw [e];trivial
  exact I.un (t':=s.toks) (h':=s.heap) (Un.write mu (.inl rfl) (fun _ _ _ q=>q) ⟨o,ho⟩) (I.ay.write mu (.inl rfl) (fun _ _ _ q=>q) ⟨o,ho⟩ ⟨ho,I.ay d _ e⟩)
 ·obtain ⟨h1,_⟩:=I.ay d _ e;rw [ho] at h1;cases h1;rw [show upd H d (.cO o (.dK kvs))=H from funext fun b=>by
   by_cases z:b=d
   ·rw [z,au,e]
   ·rw [ag z]]
  exact I
end
section
variable {X:Cx} {es:List Expr} {kk:Nat} {rf apos bh:Pos} {o:Expr} {to:TE}
end
section
variable {X:Cx} {e st:Expr} {te:TE} {tk:TO} {p2 pos:Pos}
end
section
variable {X:Cx}
def GY (K:ν) (n:Nat):R2:=fun x y H Q=>((x=.aq/\y=.aq)\/∃ a b xs ys,x=.ref a/\y=.ref b/\(aD K H a xs/\aD K H b ys\/cJ K H a xs/\cJ K H b ys)/\xs.length=ys.length/\(∀ i (h1:i < xs.length) (h2:i < ys.length),DE K H n xs[i] ys[i]))/\Q (.bl false) H
def ZG {K:ν} (n:Nat) (hK:X.K=K) (hu:X.A.units+(n+1) < cLine):aR X (compareOp .NotEq) (GY K n):=by
 subst hK;intro π s σ H x y v u Q I rx ry h;obtain ⟨h,q⟩:=h;rcases h with ⟨rfl,rfl⟩ | ⟨a,b,xs,ys,rfl,rfl,fG,hl,he⟩
 ·cases rx;cases ry;exact SeqAt.RcNeAt.none_none _ _ _ _ ⟨.bl _,H,I,rfl,q⟩
 ·cases rx;cases ry;have el:∀ {i1 i2:List Value},Vals xs i1->Vals ys i2->∀ (j:Nat) (g1:j < i1.toArray.size) (g2:j < i2.toArray.size),SeqAt.EqAt X.A.in1 s i1.toArray[j] i2.toArray[j] true:=fun r1 r2 j g1 g2=>by
   obtain ⟨j1,u1⟩:=vh r1 j g1;obtain ⟨j2,u2⟩:=vh r2 j g2;exact Mo I n (he j j1 j2) u1 u2 (show X.A.units+1+n < cLine by omega)
  rcases fG with ⟨ha,hb⟩ | ⟨ha,hb⟩
  ·obtain ⟨i1,r1,p1,_⟩:=I.list ha;obtain ⟨i2,r2,p2,_⟩:=I.list hb;have hsz:i1.toArray.size=i2.toArray.size:=by rw [sB,sB,<- r1.length,<- r2.length,hl]
   have k:=Ja7 (A:=X.A) (s:=s) (e:=fun _=>true) p1.isList p2.isList hsz (by omega) (el r1 r2);rw [all_true] at k;exact k _ _ _ _ ⟨.bl _,H,I,rfl,q⟩
  ·obtain ⟨i1,r1,p1,_⟩:=I.tuple ha;obtain ⟨i2,r2,p2,_⟩:=I.tuple hb;have hsz:i1.toArray.size=i2.toArray.size:=by rw [sB,sB,<- r1.length,<- r2.length,hl]
   have k:=SeqAt.RcNeAt.tuples (A:=X.A) (s:=s) (e:=fun _=>true) p1 p2 (by omega) (el r1 r2);rw [all_true,hsz,beq_self_eq_true,Bool.and_self] at k;exact k _ _ _ _ ⟨.bl _,H,I,rfl,q⟩
end
section
variable {prog:Program} {w:World} {A:Around} {E:Value->Shared->Prop} {s:Shared}
end
section
variable {X:Cx}
end
structure Lm where
 params:Arguments
 body:Expr
 scope:Scope
 dm:List (Str×Addr)
def fk (f:Addr) (q:Str) (l:Lm) (c:Addr):HO:=.ext fun h=>∃ pm ct,h.get? f=some (W.kla_obj "<lambda>" q l.params l.body l.scope l.dm pm c ct)
def pC (H:Hp) (f:Addr):Prop:=∃ φ,H f=some (.ext φ)/\∀ h:Heap,φ h->∃ cls dict fd sl,h.get? f=some ⟨cls,dict,.func fd,sl⟩
def funAt {H:Hp} {f:Addr} {q:Str} {l:Lm} {c:Addr} (h:H f=some (fk f q l c)):pC H f:=⟨_,h,fun _ ⟨_,_,e⟩=>⟨_,_,_,_,e⟩⟩
def BW (P:Addr) (q:Str) (l:Lm):TE:=fun _ H Q=>∃ es,cT H P q es/\∀ f c H1,jL P q c H H1->H f=none->H1 f=none->Q (.ref f) (upd H1 f (fk f q l c))
def adt {X:Cx} {P:Addr} {q:Str} {params:Arguments} {body:Expr} {scope:Scope} {dm:List (Str×Addr)} {fX:Pos} (L:Ae X P params scope dm q):PE X (.Lambda params body scope fX) (BW P q ⟨params,body,scope,dm⟩):=by
 intro π s σ H Q I h;obtain ⟨es,T,h⟩:=h;refine UX I L T fun f c ct pm s1 H1 I1 St kC fN aX m4 kp=>?_;exact ⟨.ref f,_,I1.rQ (a:=f) (o:=fk f q ⟨params,body,scope,dm⟩ c) kC (SZ (wl I.sz fN)) aX (fun x c₁ e z=>by
  obtain ⟨v,o,ho,_⟩:=I.cell x c₁ e;exact lY (u8 ho) fN z.symm) (fun p hp z=>lY (u8 (I.pin p hp).1) fN z.symm) ⟨⟨pm,ct,m4⟩,⟨_,m4⟩,fun h1 h2 ⟨pm',ct',z⟩ k=>⟨pm',ct',k _ z⟩⟩,rfl,h f c H1 St (I.ay.fresh fN) kC⟩
def V4 (f c:Addr) (q:Str) (l:Lm) (W:bW):bW:=fun H Q E=>H f=some (fk f q l c)/\H c=some (lx c q)/\W H Q E
def BX (X:Cx):Addr->Prop:=fun b=>∃ z,X.env.cells.lookup z=some b
def HD (X:Cx) (k:Nat) (B:Addr->Prop) (M:St->Addr->bW->Prop):Prop:=∀ (π:List (Addr×Obj)) (s:Shared) (σ:St) (H:Hp) (f:Addr) (bg:bW),Inv X π σ H s->M σ f bg ->
 mL X.prog X.w X.K X.mg X.base k s B f bg/\wb X.stack H s B/\∀ H Q E,bg H Q E->pC H f
structure ui (X:Cx) (k:Nat) (q:Str) (l:Lm) (ix:List Nat) (W:List V->bW) (N':List Str):Prop where
 S:uv N' l.scope l.dm
 C:vY X N' ix l.dm
 bind:∀ pm cd ct,bindArgs (PySem.W.kla_fn "<lambda>" q l.params l.body l.scope l.dm pm cd ct) ⟨[],[]⟩=pure []
 body:∀ (f:Addr) (cdv:Value) (vs:List V) (A:Around) (outer:List Env) (s:Shared) (H:Hp) (Q:VK) (E:XK),bb k (A.deeper (PySem.W.envX q l.scope s.heap.objs.size f cdv l.dm))->W vs H Q E ->
   ∃ t,PE (nU X.prog X.w X.K X.mg X.base N' q l.scope f cdv l.dm A outer s H E) l.body t/\t (vs.map some) H Q
def Io (q:Str) (T:Lm->List Nat->(List V->bW)->Prop):St->Addr->bW->Prop:=fun σ f bg=>∃ l c ix W vs,T l ix W/\kG ix σ vs/\bg=V4 f c q l (W vs)
def De {X:Cx} {k:Nat} {q:Str} {T:Lm->List Nat->(List V->bW)->Prop} (kC:X.fn=fun _=>true) (hT:∀ l ix W,T l ix W->∃ N',ui X k q l ix W N'):HD X (k+1) (BX X) (Io q T):=by
 rintro π s σ H f bg I ⟨l,c,ix,W,vs,t,hc,rfl⟩;obtain ⟨N',ok⟩:=hT _ _ _ t;have nfs:∀ b,X.s₀.heap.objs.size<=b->b≠X.env.locals->b ∉ bL X.stack:=fun b hb hl z=>by
  rcases lv.mp (I.ua b z) with e | z
  ·exact hl e
  ·obtain ⟨_,o,ho,_⟩:=I.ok.fz.mem z;exact absurd (wE (u8 ho) hb) (Id _)
 refine ⟨Ru (N:=N') (vs:=vs) (cdv:=.ref c) ok.S (fun s' H' Q E ay _ hw=>?_) (fun H Q E z=>⟨c,rfl,z.2.1⟩) (fun z c' e=>⟨z,ok.C.gW z c' e⟩) (by rw [hc.1,ok.C.len]) (fun z c' e=>I.cell z c' (ok.C.gW z c' e)) (fun i z v h1 h2=>?_) (fun _ _=>ok.bind _ _ _)
  (fun A outer s' H' Q' E' r z=>ok.body f (.ref c) vs A outer s' H' Q' E' r z.2.2),fun b ⟨z,e⟩=>?_,fun H Q E z=>funAt z.1⟩
 ·obtain ⟨⟨pm,ct,e⟩,_⟩:=ay f _ hw.1;exact ⟨_,pm,ct,e,rfl⟩
 ·have hi:i < ix.length:=by
   have:=(ul.mp h1).1;rw [ok.C.len];exact this
  obtain ⟨z',e1,e2,e3⟩:=ok.C.at' i _ (ut hi);rw [h1] at e1;cases e1;have e4:=hc.2 i _ v (ut hi) h2;obtain ⟨m,hn,hl⟩:=I.loc;obtain ⟨u,r,l'⟩:=hl _ z v e2 e4 (.inr (.inl e3));rcases l' with ⟨hk',_⟩ | ⟨_,c',e5,e6⟩
  ·have:X.env.scope.names.lookup z=some .local:=hk';rw [e3] at this;cases this
  ·exact ⟨c',u,by rw [ok.C.FH z (NE h1)];exact e5,r,e6⟩
 ·obtain ⟨v,o,ho,_⟩:=I.cell z b e;exact ⟨⟨o,ho⟩,I.eU z b e,nfs b (I.ok.kK z b (by rw [kC]) e) (I.jZ z b e)⟩
def We {X:Cx} {k:Nat} {M:St->Addr->bW->Prop} (h:HD X k (BX X) M) {π:List (Addr×Obj)} {σ:St} {s:Shared} {H:Hp} {ex:List Addr} {scope:Scope} {cl:List (Str×Addr)} {N:List Str} (C:Addr) (I:Inv X π σ H s) (f2:∀ b∈ex,gS X π H b) :
  HD (cf X scope cl N s H ex C) k (BX X) (fun _=>M σ):=by
 intro π' s' σ' H' f bg J m;obtain ⟨D,Hd,Fn⟩:=h _ _ _ _ _ _ I m;have nx:∀ b,BX X b->b ∉ ex:=fun b ⟨z,e⟩ hb=>(f2 b hb).2.2.2.2.1 z b e rfl;have kp:∀ b o,BX X b->s.heap.get? b=some o->s'.heap.get? b=some o:=fun b o hb e=>J.base.keep b o e (Hd b hb).2.1 (Hd b hb).2.2 (nx b hb);refine ⟨fun A outer s2 H2 Q E hr e0 hk hw=>D A outer s2 H2 Q E hr e0 (fun b o hb e=>hk b o hb (kp b o hb e)) hw,fun b hb=>?_,Fn⟩;obtain ⟨⟨o,e⟩,n,nf⟩:=Hd b hb;exact ⟨⟨o,kp b o hb e⟩,J.base.free b o e n (nx b hb),nf⟩
def Dh (P:Program) (w:World) (K:ν) (mg:Str->Option Value) (base:Heap) (k:Nat) (jD:bW->bW):xv:=fun outer s vs H Q E =>
 ∃ f B bg,vs=[.ref f]/\mL P w K mg base k s B f bg/\wb outer H s B/\(∀ H Q E,bg H Q E->pC H f)/\jD bg H Q E
def Cw (ta:TE) (M:St->Addr->bW->Prop) (jD:bW->bW) (R:St->XK):TE:=fun σ H Q=>ta σ H fun x H1=>∃ f bg,x=.ref f/\M σ f bg/\jD bg H1 Q (R σ)
def V6 {X:Cx} {B:Addr->Prop} {M:St->Addr->bW->Prop} {jD:bW->bW} {R:St->XK} {e:Expr} {ta:TE} {p pos:Pos} {x y:Str} {g:Addr} {fd:FuncData} {k k':Nat} (hM:HD X k B M)
  (F:tw X.prog X.w X.K X.mg X.base (bC X.prog X.w) k' g fd [y] (Dh X.prog X.w X.K X.mg X.base k jD)) (hr:bb k' X.A) (hg:Gl X x) (hm:X.mg x=some (.ref g)) (hk:W.keepIn X.K (.ref g)=true) (hb:Binds X.K fd [y] []) (hx:gU X R) (he:PE X e ta)
  (hs:starEach [e] X.env=[(false,eval e X.env)]:=by rfl) (bM:(x == ("__debug__":Str))=false:=by decide):PE X (.Call (.Name x p) [e] [] pos) (Cw ta M jD R):=by
 intro π s σ H Q I h;refine FM (kJ I hg hm ?_ bM);refine ST (h₀:=X.base) (he:=hs) I.ok.mod.il hk ?_;rw [hs];show wpAny _ _ (spliced ((false,eval e X.env)::backTo pos [])) _ _ s;refine SL (aB (he π s σ H _ I h) fun u s1 ⟨v,H1,I1,r,f,bg,hv,m,dD⟩=>?_);subst hv;cases (show u=Value.ref f from r);refine Tk ⟨I1.bX,?_⟩;obtain ⟨D,Hd,Fn⟩:=hM _ _ _ _ _ _ I1 m;have hl:([.ref f]:List Value).length=[y].length:=rfl;refine WP (_b (F.run X.A X.stack s1 H1 ⟨[.ref f],[]⟩ [.ref f] [.ref f] Q (R σ) hr I1.qQ (hb s1 [.ref f] I1.bX hl) (.cons rfl .nil) ⟨f,_,_,rfl,D,Hd,Fn,dD⟩) fun r s' hq=>?_);cases r with
 | error e=>exact hx.pass π σ H1 s1 e s' I1 hq
 | ok fl =>
  cases fl with
  | ret u=>exact I1.after hq
  | next=>exact False.elim hq
  | brk=>exact False.elim hq
  | cont=>exact False.elim hq
def zF (i:Nat) (f:Addr) (bg:bW) (R:St->XK):TE:=fun σ H Q=>σ[i]?=some (some (.ref f))/\bg H Q (R σ)
def XH {X:Cx} {i k:Nat} {x:Str} {p pos:Pos} {B:Addr->Prop} {f:Addr} {bg:bW} {R:St->XK} (hN:X.N[i]?=some x) (hv:lR X.env.scope x)
  (D:mL X.prog X.w X.K X.mg X.base k X.s₀ B f bg) (hB:wb X.outer X.H₀ X.s₀ B) (hf:∀ H Q E,bg H Q E->pC H f) (hex:X.ex=[]) (hr:bb k X.A) (hx:gU X R)
  (hd:(x == ("__debug__":Str))=false:=by decide) (bo:(x == ("__classdict__":Str))=false:=by decide):PE X (.Call (.Name x p) [] [] pos) (zF i f bg R):=by
 intro π s σ H Q I h;obtain ⟨hσ,hw⟩:=h;refine FM (aB (Au hN hv hd bo π s σ H (fun v H1=>v=.ref f/\bg H1 Q (R σ)) I ⟨_,hσ,rfl,hw⟩) fun u s1 ⟨v,H1,I1,r,e,Nl⟩=>?_);subst e;cases (show u=Value.ref f from r);have kp:∀ b o,B b->X.s₀.heap.get? b=some o->s1.heap.get? b=some o/\H1 b=none:=fun b o hb e =>
  ⟨I1.base.keep b o e (hB b hb).2.1 (hB b hb).2.2 (by rw [hex];simp),I1.base.free b o e (hB b hb).2.1 (by rw [hex];simp)⟩
 obtain ⟨φ,hφ,m4⟩:=hf _ _ _ Nl;obtain ⟨cls,dict,fd,sl,m4⟩:=m4 _ (I1.ay _ _ hφ).1;refine W.callWith_of (P:=fun h=>h.get? f=some ⟨cls,dict,.func fd,sl⟩) rfl (fun h e=>⟨.frame,.inl rfl,(_k (part:=none) e).andThen .now⟩) (PyProof.Rows.evalArgs_nil3 ⟨m4,?_⟩);refine WP (_b (D X.A X.stack s1 H1 Q (R σ) hr I1.qQ kp Nl) fun r s' hq=>?_);cases r with
 | error e=>exact hx.pass π σ H1 s1 e s' I1 hq
 | ok fl =>
  cases fl with
  | ret u=>exact I1.after hq
  | next=>exact False.elim hq
  | brk=>exact False.elim hq
  | cont=>exact False.elim hq
def Ab (n:Nat) (ix:List Nat) (wi:TI) (g:TG) (tt:St->TT) (te:TE):TE:=fun σ H Q=>mr n ix wi g (tt σ) te σ H Q
def UC {X:Cx} {elt iter:Expr} {ifs:List Expr} {tg:Expr} {g:TG} {TN caps:List Str} {ix:List Nat} {cl:List (Str×Addr)} {pos:Pos} {scope:Scope} {wi:TI} {tt:St->TT} {te:TE} (hc:X.calm=true) (hi:PI X tg iter wi)
  (ht:∀ {π σ s H ex} C,Inv X π σ H s->(∀ b∈ex,gS X π H b)->nN (cf X scope cl (TN++caps) s H ex C) ifs (tt σ)) (fH:∀ s H ex C,PG (cf X scope cl (TN++caps) s H ex C) tg g) (he:∀ s H ex C,PE (cf X scope cl (TN++caps) s H ex C) elt te) (CC:iA X scope cl caps ix)
  (hk:scope.kind=.function:=by rfl) (cH:∀ y∈scope.names,y.2=.local->scope.names.lookup y.1=some .local:=by decide +kernel) (eS:∀ y∈scope.names,y.2≠.cell:=by decide +kernel)
  (hs:∀ x,foldedSetIterable iter X.env x=pure x:=by intro _;rfl):PE X (.ListComp elt [⟨tg,iter,ifs,0⟩] scope pos) (Ab TN.length ix wi g tt te):=by
 intro π s σ H Q I h;rw [eval_ListComp];refine _D (use:=none) (cl:=cl) rfl hs CC.gW hk cH ?_;refine CK (RR:=fun acc C=>compPost (model X.prog X.w) X.A X.xe none (EP X π σ Q) acc C) hc hi ht fH he CC hk eS I h ?_;intro a C s6 H6 I6 hm o q;obtain ⟨m,hn⟩:=hm;exact ⟨m,hn,fun h' ko=>⟨.ref a,H6,o.go I6 ko,rfl,q⟩⟩
namespace Dv
section
variable {X:Cx}
def nH {B:Addr->Prop} {M:St->Addr->bW->Prop} {jD:bW->bW} {R:St->XK} {e:Expr} {ta:TE} {p pos:Pos} {x y:Str} {g:Addr} {fd:FuncData} {k k':Nat} (hM:HD X k B M)
  (F:tw X.prog X.w X.K X.mg X.base (bC X.prog X.w) k' g fd [y] (Dh X.prog X.w X.K X.mg X.base k jD)) (hr:bb k' X.A) (hm:X.mg x=some (.ref g)) (hk:W.keepIn X.K (.ref g)=true) (hb:Binds X.K fd [y] []) (hx:gU X R) (he:QE X e ta) (hg:Gl X x:=by rfl)
  (hs:starEach [e] X.env=[(false,eval e X.env)]:=by rfl) (bM:(x == ("__debug__":Str))=false:=by decide):QE X (.Call (.Name x p) [e] [] pos) (Cw ta M jD R):=⟨V6 hM F hr hg hm hk hb hx he.h hs bM⟩
def Zn (i:Nat) {k:Nat} {x:Str} {p pos:Pos} {B:Addr->Prop} {f:Addr} {bg:bW} {R:St->XK} (D:mL X.prog X.w X.K X.mg X.base k X.s₀ B f bg) (hB:wb X.outer X.H₀ X.s₀ B) (hf:∀ H Q E,bg H Q E->pC H f) (hr:bb k X.A) (hx:gU X R)
  (hex:X.ex=[]:=by rfl) (hN:X.N[i]?=some x:=by rfl) (hv:lR X.env.scope x:=by first | exact Or.inl rfl | exact Or.inr (Or.inl rfl) | exact Or.inr (Or.inr rfl))
  (hd:(x == ("__debug__":Str))=false:=by decide) (bo:(x == ("__classdict__":Str))=false:=by decide):QE X (.Call (.Name x p) [] [] pos) (zF i f bg R):=⟨XH hN hv D hB hf hex hr hx hd bo⟩
def abL {elt iter tg:Expr} {g:TG} {ifs:List Expr} {TN caps:List Str} {ix:List Nat} {cl:List (Str×Addr)} {pos:Pos} {scope:Scope} {wi:TI} {tt:St->TT} {te:TE} (hc:X.calm=true) (hi:QI X tg iter wi)
  (ht:∀ {π σ s H ex} C,Inv X π σ H s->(∀ b∈ex,gS X π H b)->oI (cf X scope cl (TN++caps) s H ex C) ifs (tt σ)) (fH:∀ s H ex C,QG (cf X scope cl (TN++caps) s H ex C) tg g) (he:∀ s H ex C,QE (cf X scope cl (TN++caps) s H ex C) elt te) (CC:iA X scope cl caps ix)
  (hk:scope.kind=.function:=by rfl) (cH:∀ y∈scope.names,y.2=.local->scope.names.lookup y.1=some .local:=by decide +kernel) (eS:∀ y∈scope.names,y.2≠.cell:=by decide +kernel)
  (hs:∀ x,foldedSetIterable iter X.env x=pure x:=by intro _;rfl):QE X (.ListComp elt [⟨tg,iter,ifs,0⟩] scope pos) (Ab TN.length ix wi g tt te):=⟨UC hc hi.h (fun C I f2=>(ht C I f2).h) (fun s H ex C=>(fH s H ex C).h) (fun s H ex C=>(he s H ex C).h) CC hk cH eS hs⟩
end
end Dv
def LF:∀ {us:List Value} {ns:List Int},IntsAre us ns->Vals (ns.map V.int) us
 | _,_,.nil=>.nil
 | _,_,.cons y t h=>.cons ⟨t,rfl⟩ (LF h)
def O6 {x:Int} {v:Value} (h:mm (.inl x) v=true):∃ t,v=Value.int x t:=by
 rcases jh h with ⟨i,t,e1,e2⟩ | ⟨_,_,e1,_⟩
 ·cases e1;exact ⟨t,e2⟩
 ·cases e1
def Bt:List V->Hp->VK->Prop:=fun xs H Q=>∃ p kvs,∃ ns:List Int,xs=[.ref p]/\H p=some (.dK kvs)/\kvs.map (·.1)=ns.map Sum.inl/\ns.length < 64/\ns.Pairwise (·<=·)/\∀ l,H l=none->Q (.ref l) (upd H l (.lst (ns.map V.int)))
def wQ {X:Cx} (hc:X.calm=true):cZ X (.builtin "sorted") Bt:=by
 intro π s σ H xs us Q I r h;obtain ⟨p,kvs,ts,rfl,hq,hk,D7,hpw,q⟩:=h;obtain ⟨u,rfl,rx⟩:=vals1 r;cases rx;obtain ⟨hz,hS,vs,rv,m⟩:kvs.length<=sizeLine/\(p == sysModules)=false/\∃ vs,KV kvs vs/\s.heap.DictOf (dI X.prog X.w) p vs:=I.ay p _ hq;obtain ⟨ep,El⟩:=m.dictAt;have mZ:kvs.length=ts.length:=by simpa using P3 List.length hk
 have Of:vs.length=ts.length:=by rw [<- mZ];simpa using (P3 List.length rv.keys).symm
 refine Calls.call_function_entry kind_sorted plain_sorted entry_sorted (args_sorted1 _) ?_;unfold Builtin.«sorted»;refine li (m:=checkCount "sorted" 1 1 _) (sw ?_);refine li (W.kdu_collect (A:=X.A.in1) (W.kdl_dict (knd:=dI X.prog X.w) (kvs:=vs) (ep:=ep) hS) (I.ok.hd hc) El (by rw [Of,<- mZ];exact hz) fun h' tk acc hk' iU=>?_);have hl:acc.toList.length=ts.length:=by rw [Rs,<- Of];exact iU.1
 have hS':IntsAre acc.toList ts:=by
  have key:∀ (l:List Value) (us:List Int),l.length=us.length->(∀ (j:Nat) (v:Value) (x:Int),l[j]?=some v->us[j]?=some x->∃ t,v=Value.int x t)->IntsAre l us:=by
   intro l
   induction l with
   | nil=>intro us e _;cases us with | nil=>exact .nil | cons=>cases e
   | cons v l ih =>
    intro us e hh;cases us with
    | nil=>cases e
    | cons x us =>
     obtain ⟨t,rfl⟩:=hh 0 v x rfl rfl;exact .cons x t (ih us (by simpa using e) fun j v x h1 h2=>hh (j+1) v x h1 h2)
  refine key _ _ hl fun j v x h1 h2=>?_;obtain ⟨k,y,hx,rm⟩:=iU.2 j v (by rw [<- SC];exact h1);have e1:(vs.map (·.1))[j]?=some k:=by rw [Ev,hx];rfl
  rw [<- rv.keys,hk,Ev,h2] at e1;cases e1;exact O6 rm
 refine li (wpAny_newList ?_ (by rw [hl,<- mZ];exact hz));have uY:(h'.push (seqObj "list" acc.toList.toArray 0)).get? h'.objs.size=some (seqObj "list" acc.toList.toArray 0):=wn _ rfl;refine li (KB (wpAny_call_entry slot_list_sort ⟨_,uY,rfl⟩ entry_list_sort (list_sort_tree (ns:=ts) uY hS' (by rw [hl];exact D7) fun out ss' b1 b2 b3=>⟨_,rfl,?_⟩) (args_list_sort _)));refine sw ⟨_,rfl,?_⟩;have e1:ss'=ts:=List.Perm.eq_of_pairwise (fun a b _ _ h1 h2=>Int.le_antisymm h1 h2) b3 hpw b2;subst e1;obtain ⟨e,he⟩:=sortedHeap_at (out:=out) uY;have I1:Inv X π σ H { s with heap:=h',toks:=tk }:=I.kept (t':=tk) hk';refine ⟨.ref h'.objs.size,_,I1.laid (t':=tk) (fun b o z=>?_) (sK _) (show bR X.prog X.w _ _ _ (.lst (ss'.map V.int)) from ⟨?_,_,e,LF b1,?_⟩),rfl,q _ (I1.ay.fresh (sK _))⟩
 ·have hb:b < h'.objs.size:=u8 z;rw [sortedHeap_old (zn hb) (by have:=_t h' (seqObj "list" acc.toList.toArray 0);rw [this];exact Nat.lt_succ_of_lt hb)];exact pc _ z
 ·rw [ss,<- mZ];exact hz
 ·rw [_0];exact he
def Inv.Dn {X:Cx} {π:List (Addr×Obj)} {σ:St} {H:Hp} {s:Shared} {p:Addr} {o:Obj} {kvs:List (Key×V)} (I:Inv X π σ H s) (hp:H p=some (.cO o (.dK kvs))) (h0:∀ o u,X.H₀ p≠some (.cO o u)):Inv X π σ (upd H p (.dK kvs)) s:=by
 have nn:∀ {b:Addr},H b=none->b≠p:=fun {b} e z=>by rw [z,hp] at e;cases e
 have hpo:=(I.ay p _ hp).2;refine ⟨I.ok,I.os,I.bare,⟨I.base.keep,I.base.slot,fun b u e n hx=>by rw [ag (nn (I.base.free b u e n hx))];exact I.base.free b u e n hx,I.base.there,fun b xs e=>by
   have:=I.base.fJ b xs e;rw [ag (uF this hp (by nofun))];exact this,
  fun b u v e=>by
   have:=I.base.fj b u v e;have hb:b≠p:=fun z=>h0 u v (z ▸ e);rw [ag hb];exact this,fun b ps e=>?_⟩,I.loc,I.cell,by rw [ag (nn I.free)];exact I.free,fun x c e=>by rw [ag (nn (I.eU x c e))];exact I.eU x c e,fun q hq=>?_,fun b u e=>?_,I.len⟩
 ·obtain ⟨m,e1⟩:=I.base.fQ b ps e;exact ⟨m,by rw [ag (uF e1 hp (by nofun))];exact e1⟩
 ·obtain ⟨e1,e2,r⟩:=I.pin q hq;exact ⟨e1,by rw [ag (nn e2)];exact e2,r⟩
 ·by_cases hb:b=p
  ·subst hb;rw [au] at e;cases e;exact hpo
  ·rw [ag hb] at e;exact (I.ay b u e).gH (fun _ _ _ q=>q) (fun c q=>by rw [ag (uF q hp (by nofun))];exact q) fun c xs q=>by rw [ag (uF q hp (by nofun))];exact q
def zS (t:TE):TE:=fun σ H Q=>∃ p kvs,H p=some (.dK kvs)/\t σ H fun v H'=>∃ o,H' p=some (.cO o (.dK kvs))/\Q v (upd H' p (.dK kvs))
def acT {X:Cx} {e:Expr} {t:TE} (h:PE X e t):PE X e (zS t):=by
 intro π s σ H Q I ⟨p,kvs,hp,q⟩;refine aB (h π s σ H _ I q) fun u s' ⟨v,H',I',r,o,ho,q'⟩=>⟨v,_,I'.Dn ho fun o' u' e=>?_,r,q'⟩;have:=I.base.fj p o' u' e;rw [hp] at this;cases this
def Dv.Dn {X:Cx} {e:Expr} {t:TE} (h:QE X e t):QE X e (zS t):=⟨acT h.h⟩
def iM:R2:=fun x y H Q=>match x,y with
 | .ref a,.ref b=>∃ kvs,H a=some (.dK kvs)/\H b=some (.dK [])/\Q (.bl (!kvs.isEmpty)) H
 | _,_=>False
def J2 {X:Cx} (hu:X.A.units < cLine):aR X (compareOp .NotEq) iM:=by
 intro π s σ H x y v u Q I rx ry h;unfold iM at h;split at h
 ·rename_i a b;obtain ⟨kvs,ha,hb,q⟩:=h;cases rx;cases ry;obtain ⟨_,hS,vs,rv,m⟩:kvs.length<=sizeLine/\(a == sysModules)=false/\∃ vs,KV kvs vs/\s.heap.DictOf (dI X.prog X.w) a vs:=I.ay a _ ha;obtain ⟨_,hS',vs',rv',m'⟩:([]:List (Key×V)).length<=sizeLine/\(b == sysModules)=false/\∃ vs,KV [] vs/\s.heap.DictOf (dI X.prog X.w) b vs:=I.ay b _ hb;cases rv';refine W.keq_ne (r:=true) hS hS' m m' hu (fun e=>?_) ⟨.bl (!kvs.isEmpty),H,I,?_,q⟩
  ·obtain rfl:vs=[]:=Tm.mp e;exact .nil
  ·rw [<- acu rv];cases vs <;> rfl
 ·exact h.elim
def yO:List V->Hp->VK->Prop:=fun xs H Q=>∃ p kvs,xs=[.ref p]/\H p=some (.dK kvs)/\Q (.int kvs.length) H
def JY {X:Cx}:cZ X (.builtin "len") yO:=by
 intro π s σ H xs us Q I r h;obtain ⟨p,kvs,rfl,hq,q⟩:=h;obtain ⟨u,rfl,rx⟩:=vals1 r;cases rx;obtain ⟨hz,hS,vs,rv,m⟩:kvs.length<=sizeLine/\(p == sysModules)=false/\∃ vs,KV kvs vs/\s.heap.DictOf (dI X.prog X.w) p vs:=I.ay p _ hq;have hl:vs.length=kvs.length:=by simpa using (P3 List.length rv.keys).symm
 refine call_len_dict hS m (by have hs:sizeLine=16777216:=_Y;omega) ?_;rw [hl];exact ⟨.int kvs.length,H,I.tok _,⟨_,rfl⟩,q⟩
def Dv.jo {X:Cx} {P:Addr} {q:Str} {e:Expr} {fX:Pos} {l:Lm} (L:Ae X P l.params l.scope l.dm q) (he:e=.Lambda l.params l.body l.scope fX:=by rfl):QE X e (BW P q l):=by
 subst he;exact ⟨adt L⟩
def zE (d:Addr) (o:Obj) (u:HO) (ts:List Key):It :=
 ⟨fun i H=>H d=some (.cO o u)/\i < ts.length,fun i H x H'=>H'=H/\∃ t,ts[i]?=some t/\x=kV t,fun i H=>H d=some (.cO o u)/\ts.length<=i⟩
def Px {P:Program} {w:World} {K:ν} {tg:Expr} {d it:Addr} {o:Obj} {u:HO} {ts:List Key} {es:Array DictEntry} {ep:Nat} (hx:o.ExactDict) (eX:o.data=.dict es ep) (hn:es.size=ts.length) (hk:∀ (i:Nat) (h:i < es.size),∃ t,ts[i]?=some t/\RelV (kV t) es[i].key) :
  Turn P w K tg (zE d o u ts) [it] it (fun i h=>h.IsKeyIter it d i es.size ep) where
 mem:=by simp
 obj:=fun i h st b hb=>by
  have e:b=it:=by simpa using hb
  subst e;obtain ⟨o,e,c,d⟩:=st;exact ⟨o,e,fun v z=>by rw [d] at z;cases z⟩
 keep:=fun i h h' st k=>st.at fun o e=>k it (by simp) o e
 item:=by
  intro X hP hw hK hc i π s σ H E I hf st hg;subst hP hw hK;obtain ⟨hX,bO⟩:=hg;have ho:s.heap.get? d=some o:=(I.ay d _ hX).1;obtain ⟨f0,f1,f2,f3,f4,f5⟩:=hf it (by simp);refine w8 st ⟨o,ho,hx,eX⟩ (fun hl h' st' sb=>?_) (fun gM=>absurd bO (by omega));obtain ⟨t,h1,h2⟩:=hk i hl;have I1:Inv X π σ H { s with heap:=h' }:=I.turned (t':=s.toks) (fun b o hb e=>(sb.2 b hb).trans e) f0 f1 f3 f4 f5;obtain ⟨o',e,c,dd⟩:=id st';exact ⟨_,rfl,vd (s:={ s with heap:=h' }) e c dd (by decide) ⟨kV t,H,I1,h2,⟨rfl,t,h1,rfl⟩,st',fun b hb=>(hf b hb).1⟩⟩
 done:=by
  intro X hP hw hK hc i π s σ H E I hf st hg;subst hP hw hK;obtain ⟨hX,bO⟩:=hg;have ho:s.heap.get? d=some o:=(I.ay d _ hX).1;obtain ⟨f0,f1,f2,f3,f4,f5⟩:=hf it (by simp);refine w8 st ⟨o,ho,hx,eX⟩ (fun hl=>absurd bO (by omega)) (fun gM=>⟨I.ok.hd hc,fun h' eb=>⟨rfl,I.turned (t':=s.toks) (fun b o hb e=>eb b o hb e) f0 f1 f3 f4 f5⟩⟩)
 self:=fun _ _ _ _ _ st h=>wpAny_pyIter_keyiter st h
def Gm {P:Program} {w:World}:∀ {es:List DictEntry} {vs:List (Key×Value)} {ts:List Key},Pairs (dI P w) es vs->vs.map (·.1)=ts->es.length=ts.length/\∀ (i:Nat) (h:i < es.length),∃ t,ts[i]?=some t/\RelV (kV t) es[i].key
 | [],_,ts,.nil,e=>by
  cases ts with
  | nil=>exact ⟨rfl,fun i h=>absurd h (Nat.not_lt_zero _)⟩
  | cons=>cases e
 | e::es,(kv::vs),ts,.cons h1 h2 r,h=>by
  cases ts with
  | nil=>cases h
  | cons t ts =>
   obtain ⟨hk,hr⟩:=List.cons.inj h;obtain ⟨a,b⟩:=Gm r hr;refine ⟨P3 (· + 1) a,fun i hi=>?_⟩;cases i with
   | zero =>
    have h1':mm kv.1 e.key=true:=h1;rw [show kv.1=t from hk] at h1';refine ⟨t,rfl,?_⟩;rcases jh h1' with ⟨i,k,e1,e2⟩ | ⟨z,k,e1,e2⟩
    ·subst e1;exact ⟨k,e2⟩
    ·subst e1;exact ⟨k,e2⟩
   | succ i=>exact b i (Nat.lt_of_succ_lt_succ hi)
section
variable {X:Cx} {tg:Expr} {π:List (Addr×Obj)} {σ:St} {H:Hp} {s:Shared}
def yP (tl:TE):TI:=fun σ H R=>tl σ H fun x H1=>∃ d kvs,x=.ref d/\Rd H1 d (.dK kvs)/\∀ o,R (zE d o (.dK kvs) (kvs.map (·.1))) (upd H1 d (.cO o (.dK kvs)))
def Z5 {l:Expr} {tl:TE} (hl:PE X l tl):PI X tg l (yP tl):=by
 intro π s σ H R I h;refine aB (hl π s σ H _ I h) fun v s1 ⟨x,H1,I1,r1,q1⟩=>?_;obtain ⟨d,kvs,rfl,hr,q⟩:=q1;cases r1;obtain ⟨hz,hS,vs,rv,o,es,ep,ho,hx,eX,hke,hpr,MU⟩:=hr.ok I1.ay;have I2:=I1.freeze hr ho;obtain ⟨hn,hi⟩:=Gm hpr rv.keys.symm;refine zG hS ⟨o,ho,hx,eX⟩ ?_;refine ⟨s1.heap.objs.size,[s1.heap.objs.size],_,_,upd H1 d (.cO o (.dK kvs)),rfl,I2.kept (t':=s1.toks) fun b o e=>pc _ e,Px hx eX (by simpa using hn) (fun i h=>by have:=hi i (by simpa using h);rwa [Array.getElem_toList] at this),⟨_,wn _ rfl,rfl,rfl⟩,fun b hb=>?_,q o⟩;have e:b=s1.heap.objs.size:=by simpa using hb
 subst e;exact I2.wa (sK _) (I2.ay.fresh (sK _))
def Dv.acj {l:Expr} {tl:TE} (hl:QE X l tl):QI X tg l (yP tl):=⟨Z5 hl.h⟩
end
def Sj {d:Addr} {o:Obj} {u:HO} {ts:List Key} {tt:TT} {te:TE} {H:Hp} {Q:VK} {vs:List V} (W:Hp->Prop) (w0:W H) (wd:∀ H1,W H1->H1 d=some (.cO o u))
  (ht:∀ t∈ts,∀ H1,W H1->∀ R:Bool->Hp->Prop,(∀ H2,W H2->R false H2)->tt (some (kV t)::vs.map some) H1 R)
  (q:∀ H1 l,W H1->H1 l=none->Q (.ref l) (upd H1 l (.lst []))):qu (zE d o u ts) 1 vs (fM 0) tt te Q H:=by
 refine ⟨fun i zs k H1=>W H1/\zs=[]/\i<=ts.length/\k=ts.length - i,⟨_,w0,rfl,Da _,rfl⟩,?_⟩;rintro i zs k H1 ⟨hw,rfl,hi,rfl⟩;refine ⟨Da _,?_⟩;by_cases h:i < ts.length
 ·refine .inr ⟨⟨wd _ hw,h⟩,jO (by simp),?_⟩;rintro y H' ⟨rfl,t,h1,rfl⟩ σ0 hσ0;obtain ⟨a,rfl⟩:=vQ hσ0;refine ⟨⟨[some (kV t)],rfl,rfl⟩,?_⟩;exact ht t (NE h1) _ hw _ fun H2 w2=>by
   rw [xL (by decide)];exact ⟨ts.length - (i+1),by omega,w2,rfl,h,rfl⟩
 ·have e:i=ts.length:=by omega
  subst e;exact .inl ⟨⟨wd _ hw,sK _⟩,fun l hl=>q _ _ hw hl⟩
end L2
set_option maxHeartbeats 0
namespace L2.bS
open PySem PySem.Spec PyProof.Rows
local macro_rules | `(tactic| walk_at "s")=>`(tactic| exact ⟨rfl,rfl,rfl,by decide +kernel,rfl,by decide +kernel,by decide +kernel⟩)
abbrev e_ (N:List Str) (s:Stmt):Prop:=aE N N (az s)
abbrev _root_.L2.FT.k {K:ν} {mg:Str->Option Value} {a b:Str} {st:Stmt} {ps:List Str} (t:FT K mg a b st ps) (P:Program) (w:World) (base:Heap) (n:Nat) (q:Sp):Prop:=aA P w K mg base aM n t.f t.d ps q
abbrev _root_.L2.MT.k {K:ν} {C:Addr} {a b:Str} {st:Stmt} {ps:List Str} (t:MT K C a b st ps) (P:Program) (w:World) (mg:Str->Option Value) (base:Heap) (n:Nat) (q:Sp):Prop:=aA P w K mg base aM n t.f t.d ps q
def top (i:Nat):Stmt:=PySem.Challenge.pw_leadnames_k62_holds_that_are_none.main.body.getD i (.Pass ⟨0,0,0,0⟩)
abbrev Ik:=top 15
abbrev Gz:=top 16
abbrev GS:=top 17
abbrev zw:=top 18
abbrev J7:=top 27
abbrev Gb:=top 28
abbrev Ij:=top 29
abbrev JI:=top 30
abbrev Ky:=top 31
abbrev K6:=top 32
abbrev Kv:=top 33
abbrev HR:=top 34
abbrev HV:=top 35
abbrev FQ:=top 36
abbrev Cb:=top 49
abbrev DR:=top 50
abbrev Ag:=top 51
abbrev ze:=top 52
abbrev sS:=top 53
abbrev B2:=top 56
abbrev B7:=top 57
abbrev Bi:=top 58
abbrev AO:=top 59
abbrev Jc:=top 60
abbrev z7:=top 61
abbrev zg:=top 62
abbrev zD:=top 63
abbrev Dd:=top 64
abbrev CQ:=top 65
abbrev Bg:=top 66
abbrev Dw:=top 67
abbrev qB:=top 68
abbrev Bc:=top 71
abbrev B8:=top 72
abbrev CL:=top 73
abbrev Aq:=top 74
abbrev zd:=top 75
abbrev DF:=top 76
abbrev zo:=top 77
abbrev Bv:=top 78
abbrev JO:=top 83
abbrev ID:=top 84
abbrev Mh:=top 85
abbrev yQ:=top 86
abbrev zj:=top 87
abbrev pX:=top 88
abbrev qb:=top 89
abbrev px:=top 90
abbrev ue:=top 91
def QY:e_ ["house","folder"] Ik:=by walk_at "s"
def zA:aE ["house","folder","base"] ["house","folder"] (az Gz):=by walk_at "s"
def Ka:aE ["house","folder","stack"] ["house","folder"] (az GS):=by walk_at "s"
def nF:aE ["house","asker","folder","root","here","stack","place"] ["house","asker","folder"] (az zw):=by walk_at "s"
def Vy:e_ ["number"] J7:=by walk_at "s"
def Py:e_ ["text"] Gb:=by walk_at "s"
def Kl:e_ ["text"] Ij:=by walk_at "s"
def LS:e_ ["text"] JI:=by walk_at "s"
def Y4:e_ ["text"] Ky:=by walk_at "s"
def wI:aE ["path","parts"] ["path"] (az K6):=by walk_at "s"
def Ry:e_ ["text"] Kv:=by walk_at "s"
def IH:e_ ["text"] HR:=by walk_at "s"
def T8:e_ ["text"] HV:=by walk_at "s"
def GJ:e_ ["text"] FQ:=by walk_at "s"
def qk:aE ["house","asker","folder","root","names","stack","place"] ["house","asker","folder"] (az Cb):=by walk_at "s"
def IG:aE ["leads","first"] ["leads"] (az DR):=by walk_at "s"
def Hq:aE ["house","asker","from_root","parts","last","ended"] ["house","asker","from_root","parts","last"] (az Ag):=by walk_at "s"
def IK:aE ["house","asker","path","last","read"] ["house","asker","path","last"] (az ze):=by walk_at "s"
def acw:e_ ["house","asker","path","last"] sS:=by walk_at "s"
def LK:aE ["path","parts"] ["path"] (az B2):=by walk_at "s"
def yT:aE ["house","asker","path","asked","ended"] ["house","asker","path"] (az B7):=by walk_at "s"
def Td:e_ ["house","seat"] Bi:=by walk_at "s"
def Sf:e_ ["told"] AO:=by walk_at "s"
def Rm:e_ ["house","number"] Jc:=by walk_at "s"
def ZD:e_ ["house","asker","path"] z7:=by walk_at "s"
def Ml:aE ["house","asker","path","number"] ["house","asker","path"] (az zg):=by walk_at "s"
def Yv:e_ ["house","asker","number","right","reason"] zD:=by walk_at "s"
def Xg:e_ ["house","asker","folder"] Dd:=by walk_at "s"
def UJ:e_ ["house","seat"] CQ:=by walk_at "s"
def HU:aE ["house","asker","path","seat"] ["house","asker","path"] (az Bg):=by walk_at "s"
def ab6:e_ ["house","seat","number"] Dw:=by walk_at "s"
def FJ:aE ["house","asker","path","text","mine","rest","seat"] ["house","asker","path","text","mine","rest"] (az qB):=by walk_at "s"
def Ms:aE ["house","asker","path","rights","thing"] ["house","asker","path","rights"] (az Bc):=by walk_at "s"
def Se:e_ ["house","number"] B8:=by walk_at "s"
def Kc:aE ["house","number","held"] ["house","number"] (az CL):=by walk_at "s"
def FC:aE ["house","number","text","held"] ["house","number","text"] (az Aq):=by walk_at "s"
def aaB:e_ ["house","number"] zd:=by walk_at "s"
def PQ:e_ ["house","number"] DF:=by walk_at "s"
def XM:e_ ["house","number"] zo:=by walk_at "s"
def Pd:e_ ["house"] Bv:=by walk_at "s"
def CB:aE ["_law_cell","_law_k","_law_number"] ["_law_cell","_law_k"] (az JO):=by walk_at "s"
def PU:e_ ["_law_cell"] ID:=by walk_at "s"
def LV:aE ["_law_source_here","_law_size","_law_found"] ["_law_source_here","_law_size"] (az Mh):=by walk_at "s"
def jQ:aE ["_law_ask","_law_error","e","_law_some","_law_words","_law_found"] ["_law_ask"] (az yQ):=by walk_at "s"
def JU:aE ["_law_source_here","_law_count","_law_kept","_law_some"] ["_law_source_here","_law_count","_law_kept"] (az zj):=by walk_at "s"
def Hf:aE ["_law_house","_law_held","_law_text","_law_some"] ["_law_house","_law_held","_law_text"] (az pX):=by walk_at "s"
def vZ:aE ["_law_house","_law_kept","_law_source_here","_law_held","_law_text","_law_due"] ["_law_house","_law_kept","_law_source_here"] (az qb):=by walk_at "s"
def n6:aE ["_law_house","_law_source_here","_law_path","_law_rights","_law_bad","_law_odd","_law_nobody","_law_due"] ["_law_house","_law_source_here"] (az px):=by walk_at "s"
def iK:aE ["_law_script","_law_house","_law_kept","_law_count","_law_cell","_law_source_here","_law_way","_law_rights","_law_held","_law_text"] ["_law_script"] (az ue):=by walk_at "s"
abbrev F8:=inClass (top 12) 0
def aa2:e_ ["self","told"] F8:=by walk_at "s"
abbrev HQ:=inClass (top 13) 0
def Yk:e_ ["self","reason"] HQ:=by walk_at "s"
abbrev FX:=inClass (top 40) 0
def RT:e_ ["self","number","kind","owner","mine","rest","text"] FX:=by walk_at "s"
abbrev Ho:=inClass (top 40) 1
def Yx:e_ ["self","asker"] Ho:=by walk_at "s"
abbrev J9:=inClass (top 41) 0
def Xx:e_ ["self"] J9:=by walk_at "s"
abbrev LB:=inClass (top 41) 1
def Ma:aE ["self","kind","owner","mine","rest","text","number"] ["self","kind","owner","mine","rest","text"] (az LB):=by walk_at "s"
abbrev KJ:=inClass (top 41) 2
def Yj:e_ ["self","owner","mine","rest"] KJ:=by walk_at "s"
abbrev JM:=inClass (top 41) 3
def aaz:e_ ["self","owner","text","mine","rest"] JM:=by walk_at "s"
abbrev Mt:=inClass (top 41) 6
def VZ:e_ ["self","number"] Mt:=by walk_at "s"
abbrev Hn:=inClass (top 41) 7
def O1:e_ ["self","folder","name"] Hn:=by walk_at "s"
abbrev GL:=inClass (top 41) 10
def TV:e_ ["self","number"] GL:=by walk_at "s"
abbrev DU:=inClass (top 41) 12
def Iv:aE ["self","number","text","thing"] ["self","number","text"] (az DU):=by walk_at "s"
abbrev Jj:=inClass (top 41) 13
def vz:aE ["self","folder","name","number","thing","former","known"] ["self","folder","name","number"] (az Jj):=by walk_at "s"
abbrev Kr:=inClass (top 41) 14
def Ji:aE ["self","folder","name","number"] ["self","folder","name"] (az Kr):=by walk_at "s"
abbrev HJ:=inClass (top 45) 0
def PL:e_ ["self","number","way"] HJ:=by walk_at "s"
abbrev IM:=inClass (top 46) 0
def T9:e_ ["self","step","reason"] IM:=by walk_at "s"
abbrev yF:=inClass (top 47) 0
def acA:e_ ["self","leads"] yF:=by walk_at "s"
abbrev Bp:=inClass (top 48) 0
def P0:e_ ["self","house","asker","last"] Bp:=by walk_at "s"
abbrev Af:=inClass (top 48) 1
def FG:aE ["self","from_root","parts","start"] ["self","from_root","parts"] (az Af):=by walk_at "s"
abbrev C9:=inClass (top 48) 2
def GW:aE ["self","part"] ["self"] (az C9):=by walk_at "s"
abbrev yM:=inClass (top 48) 3
def Te:e_ ["self","reason"] yM:=by walk_at "s"
abbrev Dp:=inClass (top 48) 4
def ac8:e_ ["self","part"] Dp:=by walk_at "s"
abbrev BZ:=inClass (top 48) 5
def LU:aE ["self","stack"] ["self"] (az BZ):=by walk_at "s"
abbrev DT:=inClass (top 48) 6
def AQ:aE ["self","name","number","kind"] ["self","name"] (az DT):=by walk_at "s"
abbrev Bm:=inClass (top 48) 7
def SV:e_ ["self","number"] Bm:=by walk_at "s"
abbrev DS:=inClass (top 48) 8
def Hx:aE ["self","number","read"] ["self","number"] (az DS):=by walk_at "s"
abbrev BM:=inClass (top 48) 9
def sY:aE ["self","names","folder"] ["self"] (az BM):=by walk_at "s"
abbrev HL:=inClass (top 55) 0
def Qg:e_ ["self","folder","name"] HL:=by walk_at "s"
abbrev KC:=inClass (top 70) 0
def Sv:e_ ["self","thing","rights"] KC:=by walk_at "s"
abbrev Gr:=inClass (top 81) 0
def OT:e_ ["self","owner"] Gr:=by walk_at "s"
abbrev IE:=inClass (top 81) 1
def Po:e_ ["self","name"] IE:=by walk_at "s"
abbrev FW:=inClass (top 81) 4
def Xz:e_ ["self","asker"] FW:=by walk_at "s"
abbrev LW:=inClass (top 81) 5
def Yb:e_ ["self","asker"] LW:=by walk_at "s"
abbrev KQ:=inClass (top 81) 6
def W9:e_ ["self","number"] KQ:=by walk_at "s"
abbrev KG:=inClass (top 81) 10
def aaA:e_ ["self","number","name"] KG:=by walk_at "s"
abbrev Ln:=inClass (top 81) 12
def T4:e_ ["self","number"] Ln:=by walk_at "s"
abbrev HA:=inClass (top 81) 13
def Yy:e_ ["self","number"] HA:=by walk_at "s"
abbrev Hv:=inClass (top 81) 17
def OC:e_ ["self","asker","number","right"] Hv:=by walk_at "s"
abbrev Iz:=inClass (top 81) 23
def Qx:e_ ["self","asker"] Iz:=by walk_at "s"
abbrev Gx:=inClass (top 81) 25
def ZQ:e_ ["self","number"] Gx:=by walk_at "s"
abbrev JS:=inClass (top 81) 26
def acd:e_ ["self","name"] JS:=by walk_at "s"
abbrev L7:=inClass (top 81) 27
def Qo:e_ ["self","asker","folder"] L7:=by walk_at "s"
abbrev JV:=inClass (top 81) 28
def aaH:e_ ["self","asker","folder"] JV:=by walk_at "s"
abbrev LR:=inClass (top 81) 29
def Hb:aE ["self","tree","owner","root"] ["self","tree","owner"] (az LR):=by walk_at "s"
abbrev Dc:=inClass (top 81) 32
def J1:aE ["self","held","number"] ["self","held"] (az Dc):=by walk_at "s"
abbrev BU:=inClass (top 81) 33
def Ue:e_ ["self","number"] BU:=by walk_at "s"
set_option genInjectivity false in
set_option genSizeOf false in
structure Tx (K:ν) (mg:Str->Option Value) where
 gb:FT K mg "top_of" "top_of" Ik ["house","folder"]
 qe:FT K mg "base_of" "base_of" Gz ["house","folder"]
 eF:FT K mg "stack_of" "stack_of" GS ["house","folder"]
 qD:FT K mg "is_seen" "is_seen" zw ["house","asker","folder"]
 iE:FT K mg "is_whole" "is_whole" J7 ["number"]
 iy:FT K mg "is_name" "is_name" Gb ["text"]
 iB:FT K mg "is_rights" "is_rights" Ij ["text"]
 iO:FT K mg "is_text" "is_text" JI ["text"]
 kE:FT K mg "is_part" "is_part" Ky ["text"]
 dQ:FT K mg "parts_of" "parts_of" K6 ["path"]
 iJ:FT K mg "check_name" "check_name" Kv ["text"]
 f9:FT K mg "check_rights" "check_rights" HR ["text"]
 qH:FT K mg "check_one_right" "check_one_right" HV ["text"]
 iI:FT K mg "check_text" "check_text" FQ ["text"]
 qI:FT K mg "names_to" "names_to" Cb ["house","asker","folder"]
 qa:FT K mg "from_least" "from_least" DR ["leads"]
 lA:FT K mg "walk_parts" "walk_parts" Ag ["house","asker","from_root","parts","last"]
 pH:FT K mg "walk_path" "walk_path" ze ["house","asker","path","last"]
 {EV:Addr}
 {yi:FuncData}
 wG:nT K "walk" "walk" sS EV yi [.bool true]
 P5:mg "walk" = some (.ref EV)
 Jp:Binds K yi ["house","asker","path","last"] []
 AK:Binds K yi ["house","asker","path","last"] [.bool true]
 pP:FT K mg "check_seat" "check_seat" B2 ["path"]
 ql:FT K mg "seat_of" "seat_of" B7 ["house","asker","path"]
 qp:FT K mg "thing_at" "thing_at" Bi ["house","seat"]
 kY:FT K mg "number_found" "number_found" AO ["told"]
 pA:FT K mg "is_folder" "is_folder" Jc ["house","number"]
 qG:FT K mg "find_any" "find_any" z7 ["house","asker","path"]
 qz:FT K mg "find_file" "find_file" zg ["house","asker","path"]
 iu:FT K mg "check_may" "check_may" zD ["house","asker","number","right","reason"]
 pL:FT K mg "check_kept" "check_kept" Dd ["house","asker","folder"]
 pR:FT K mg "check_free" "check_free" CQ ["house","seat"]
 qf:FT K mg "free_seat_of" "free_seat_of" Bg ["house","asker","path"]
 pM:FT K mg "seat_thing" "seat_thing" Dw ["house","seat","number"]
 {D6:Addr}
 {uW:FuncData}
 {Mz:Tok}
 {Ex:Tok}
 pY:nT K "make_file" "make_file" qB D6 uW [.str "lgw" Mz,.str "" Ex]
 yU:mg "make_file" = some (.ref D6)
 BL:Binds K uW ["house","asker","path","text","mine","rest"] []
 G7:Binds K uW ["house","asker","path","text","mine","rest"] [.str "" Ex]
 vX:Binds K uW ["house","asker","path","text","mine","rest"] [.str "lgw" Mz,.str "" Ex]
 eJ:FT K mg "hold" "hold" Bc ["house","asker","path","rights"]
 fg:FT K mg "hold_at" "hold_at" B8 ["house","number"]
 pE:FT K mg "read_held" "read_held" CL ["house","number"]
 iq:FT K mg "write_held" "write_held" Aq ["house","number","text"]
 qC:FT K mg "thing_held" "thing_held" zd ["house","number"]
 ly:FT K mg "rights_held" "rights_held" DF ["house","number"]
 iN:FT K mg "let_go" "let_go" zo ["house","number"]
 qO:FT K mg "holds" "holds" Bv ["house"]
 qo:FT K mg "_law_mixed" "_law_mixed" JO ["_law_cell","_law_k"]
 qm:FT K mg "_law_source" "_law_source" ID ["_law_cell"]
 bT:FT K mg "_law_next" "_law_next" Mh ["_law_source_here","_law_size"]
 dH:FT K mg "_law_word_of" "_law_word_of" yQ ["_law_ask"]
 qS:FT K mg "_law_no_hold" "_law_no_hold" zj ["_law_source_here","_law_count","_law_kept"]
 {xT:Addr}
 {xZ:FuncData}
 xH:fD K "_law_refused" "_law_refused" pX xT xZ
 S5:mg "_law_refused" = some (.ref xT)
 CI:Binds K xZ ["_law_house","_law_held","_law_text"] []
 {xQ:Addr}
 {xX:FuncData}
 vA:fD K "_law_text_refused" "_law_text_refused" qb xQ xX
 Qk:mg "_law_text_refused" = some (.ref xQ)
 Dq:Binds K xX ["_law_house","_law_kept","_law_source_here"] []
 {yk:Addr}
 {ye:FuncData}
 vW:fD K "_law_hold_refused" "_law_hold_refused" px yk ye
 adH:mg "_law_hold_refused" = some (.ref yk)
 AR:Binds K ye ["_law_house","_law_source_here"] []
 {D3:Addr}
 {xS:FuncData}
 wC:fD K "law" "law" ue D3 xS
 RS:mg "law" = some (.ref D3)
 FV:Binds K xS ["_law_script"] []
 {Fh:Addr}
 acI:mg "DOTS" = some (.ref Fh)
 B6:∀ H:Hp,cJ K H Fh [.str ".",.str ".."]
 {t_FILE:Tok}
 DP:mg "FILE" = some (.str "file" t_FILE)
 {t_FIRST_TREE:Tok}
 Qp:mg "FIRST_TREE" = some (.str "main" t_FIRST_TREE)
 {t_FOLDER:Tok}
 tQ:mg "FOLDER" = some (.str "folder" t_FOLDER)
 {e8:Addr}
 Rp:mg "Failed" = some (.ref e8)
 {eQ:Addr}
 Mg:mg "Found" = some (.ref eQ)
 {bE:Addr}
 ace:mg "Hold" = some (.ref bE)
 {aL:Addr}
 aai:mg "House" = some (.ref aL)
 {t_LETTERS:Tok}
 W6:mg "LETTERS" = some (.str "abcdefghijklmnopqrstuvwxyz" t_LETTERS)
 {jy:Addr}
 Pw:mg "LeadError" = some (.ref jy)
 {t_MOST_IN_NAME:Tok}
 VM:mg "MOST_IN_NAME" = some (.int 8 t_MOST_IN_NAME)
 {t_MOST_IN_PATH:Tok}
 Hj:mg "MOST_IN_PATH" = some (.int 2000 t_MOST_IN_PATH)
 {t_MOST_IN_TEXT:Tok}
 Gp:mg "MOST_IN_TEXT" = some (.int 60 t_MOST_IN_TEXT)
 {t_MOST_LEADS:Tok}
 RG:mg "MOST_LEADS" = some (.int 40 t_MOST_LEADS)
 {ck:Addr}
 LA:mg "NoAsker" = some (.ref ck)
 {bZ:Addr}
 oh:mg "NoDeed" = some (.ref bZ)
 {bJ:Addr}
 Mc:mg "NoHold" = some (.ref bJ)
 {ja:Addr}
 OL:mg "NoName" = some (.ref ja)
 {cF:Addr}
 zM:mg "NoPath" = some (.ref cF)
 {cm:Addr}
 zQ:mg "NoRights" = some (.ref cm)
 {jc:Addr}
 O9:mg "NoRow" = some (.ref jc)
 {cB:Addr}
 FF:mg "NoText" = some (.ref cB)
 {fE:Addr}
 IX:mg "NoThing" = some (.ref fE)
 {iW:Addr}
 YS:mg "NoTree" = some (.ref iW)
 {cw:Addr}
 Lx:mg "NoWay" = some (.ref cw)
 {yl:Addr}
 K1:mg "RIGHTS" = some (.ref yl)
 xx:∀ H:Hp,cJ K H yl [.str "",.str "l",.str "g",.str "w",.str "lg",.str "lw",.str "gw",.str "lgw"]
 {fZ:Addr}
 abo:mg "Ring" = some (.ref fZ)
 {Ez:Addr}
 QZ:mg "SINGLE_RIGHTS" = some (.ref Ez)
 Bh:∀ H:Hp,cJ K H Ez [.str "l",.str "g",.str "w"]
 {lI:Addr}
 WJ:mg "Seat" = some (.ref lI)
 {bc:Addr}
 T1:mg "Thing" = some (.ref bc)
 {aV:Addr}
 abj:mg "Things" = some (.ref aV)
 OD:mg "ValueError" = none
 {bf:Addr}
 Xo:mg "Walk" = some (.ref bf)
 zf:mg "all" = none
 g_bool:mg "bool" = none
 DI:mg "int" = none
 dP:mg "isinstance" = none
 jm:mg "len" = none
 sT:mg "list" = none
 Gk:mg "min" = none
 LQ:mg "range" = none
 zu:mg "reversed" = none
 vT:mg "sorted" = none
 kN:mg "str" = none
 sv:MT K cw "__init__" "NoWay.__init__" F8 ["self","told"]
 jE:MT K bZ "__init__" "NoDeed.__init__" HQ ["self","reason"]
 sX:MT K bc "__init__" "Thing.__init__" FX ["self","number","kind","owner","mine","rest","text"]
 tR:MT K bc "rights_for" "Thing.rights_for" Ho ["self","asker"]
 sW:MT K aV "__init__" "Things.__init__" J9 ["self"]
 nE:MT K aV "add_thing" "Things.add_thing" LB ["self","kind","owner","mine","rest","text"]
 uE:MT K aV "add_folder" "Things.add_folder" KJ ["self","owner","mine","rest"]
 rN:MT K aV "add_file" "Things.add_file" JM ["self","owner","text","mine","rest"]
 eE:MT K aV "at" "Things.at" Mt ["self","number"]
 nt:MT K aV "child" "Things.child" Hn ["self","folder","name"]
 rX:MT K aV "place_of" "Things.place_of" GL ["self","number"]
 uC:MT K aV "put_text" "Things.put_text" DU ["self","number","text"]
 tV:MT K aV "put_name" "Things.put_name" Jj ["self","folder","name","number"]
 uu:MT K aV "drop_name" "Things.drop_name" Kr ["self","folder","name"]
 rP:MT K eQ "__init__" "Found.__init__" HJ ["self","number","way"]
 rJ:MT K e8 "__init__" "Failed.__init__" IM ["self","step","reason"]
 sR:MT K fZ "__init__" "Ring.__init__" yF ["self","leads"]
 sV:MT K bf "__init__" "Walk.__init__" Bp ["self","house","asker","last"]
 uK:MT K bf "begin" "Walk.begin" Af ["self","from_root","parts"]
 rV:MT K bf "go_on" "Walk.go_on" C9 ["self"]
 g8:MT K bf "fail" "Walk.fail" yM ["self","reason"]
 tN:MT K bf "take_step" "Walk.take_step" Dp ["self","part"]
 uo:MT K bf "go_up" "Walk.go_up" BZ ["self"]
 tE:MT K bf "go_by" "Walk.go_by" DT ["self","name"]
 tU:MT K bf "meet_lead" "Walk.meet_lead" Bm ["self","number"]
 tO:MT K bf "read_lead" "Walk.read_lead" DS ["self","number"]
 sy:MT K bf "true_path" "Walk.true_path" BM ["self"]
 tS:MT K lI "__init__" "Seat.__init__" HL ["self","folder","name"]
 uj:MT K bE "__init__" "Hold.__init__" KC ["self","thing","rights"]
 sZ:MT K aL "__init__" "House.__init__" Gr ["self","owner"]
 su:MT K aL "enroll" "House.enroll" IE ["self","name"]
 kL:MT K aL "root_of" "House.root_of" FW ["self","asker"]
 sF:MT K aL "standing_of" "House.standing_of" LW ["self","asker"]
 je:MT K aL "kind_of" "House.kind_of" KQ ["self","number"]
 ou:MT K aL "child" "House.child" KG ["self","number","name"]
 jl:MT K aL "text_of" "House.text_of" Ln ["self","number"]
 kU:MT K aL "place_of" "House.place_of" HA ["self","number"]
 ny:MT K aL "may" "House.may" Hv ["self","asker","number","right"]
 gm:MT K aL "check_asker" "House.check_asker" Iz ["self","asker"]
 si:MT K aL "check_thing" "House.check_thing" Gx ["self","number"]
 nJ:MT K aL "add_asker" "House.add_asker" JS ["self","name"]
 um:MT K aL "put_root" "House.put_root" L7 ["self","asker","folder"]
 tZ:MT K aL "put_standing" "House.put_standing" JV ["self","asker","folder"]
 tu:MT K aL "add_tree" "House.add_tree" LR ["self","tree","owner"]
 uc:MT K aL "add_hold" "House.add_hold" Dc ["self","held"]
 rS:MT K aL "drop_hold" "House.drop_hold" BU ["self","number"]
 zR:cX K e8
 Sm:Mk K e8 rJ.f
 vG:cX K eQ
 VI:Mk K eQ rP.f
 lP:cX K bE
 Vx:Mk K bE uj.f
 aN:cX K aL
 abN:Mk K aL sZ.f
 Lw:cX K fZ
 Ys:Mk K fZ sR.f
 nA:cX K lI
 aas:Mk K lI tS.f
 eG:cX K bc
 acP:Mk K bc sX.f
 cW:cX K aV
 PB:Mk K aV sW.f
 aH:cX K bf
 UP:Mk K bf sV.f
 adl:bw K e8 "reason"
 Qv:bw K e8 "step"
 FO:bw K eQ "number"
 WB:bw K eQ "way"
 wA:bw K bE "rights"
 wm:bw K bE "thing"
 wO:bw K aL "changes"
 Dz:bw K aL "first_root"
 C8:bw K aL "folder_under"
 qy:bw K aL "holds"
 zC:bw K aL "holds_given"
 Aw:bw K aL "root_over"
 tD:bw K aL "roots"
 AF:bw K aL "standings"
 jn:bw K aL "things"
 JL:bw K aL "tree_roots"
 R5:bw K fZ "leads"
 wo:bw K lI "folder"
 DV:bw K lI "name"
 zm:bw K bc "kind"
 Jl:bw K bc "mine"
 y3:bw K bc "names"
 Wl:bw K bc "number"
 KD:bw K bc "owner"
 xB:bw K bc "places"
 Lj:bw K bc "rest"
 zY:bw K bc "text"
 wu:bw K aV "changes"
 sj:bw K aV "made"
 Kn:bw K bf "asked"
 tW:bw K bf "asker"
 fP:bw K bf "here"
 fK:bw K bf "house"
 Hy:bw K bf "last"
 A0:bw K bf "leads_read"
 nv:bw K bf "left"
 KH:bw K bf "looked_up"
 wK:bw K bf "place"
 qw:bw K bf "reading"
 rT:bw K bf "root"
 Bb:bw K bf "step"
 my:bw K bf "told"
 lN:gI K bZ jE.f "reason"
 pN:W.typeIn K (.ref bZ)=some (.type "type")
 Ge:gI K cw sv.f "told"
 YK:W.typeIn K (.ref cw)=some (.type "type")
 {oM:Addr}
 uN:xZ.code=.ref oM
 {oY:Addr}
 LN:xX.code=.ref oY
 {pj:Addr}
 wc:ye.code=.ref pj
 aaN:W.excIn K ck [.type "ValueError",.type "Exception",.type "BaseException",.type "object"] "ValueError.__new__" = true
 aaq:W.excIn K bJ [.type "ValueError",.type "Exception",.type "BaseException",.type "object"] "ValueError.__new__" = true
 GU:W.excIn K cF [.type "ValueError",.type "Exception",.type "BaseException",.type "object"] "ValueError.__new__" = true
 Lu:W.excIn K cm [.type "ValueError",.type "Exception",.type "BaseException",.type "object"] "ValueError.__new__" = true
 Yu:W.excIn K cB [.type "ValueError",.type "Exception",.type "BaseException",.type "object"] "ValueError.__new__" = true
 VE:W.excIn K fE [.type "ValueError",.type "Exception",.type "BaseException",.type "object"] "ValueError.__new__" = true
 abi:W.instIn K (.ref jy) (.type "tuple")=some false
 Vp:W.mroIn K jy (.type "BaseException")=some true
 Vv:W.findIn K (.ref ck) "__class__" = some (some (.builtin "object.__class__"))
 Qt:W.specialIn K (.builtin "object.__class__") "__get__" = some (some (.builtin "getset_descriptor.__get__"))
 V8:W.takesIn K (.builtin "object.__class__")=some true
 Vl:W.mroIn K ck (.type "object")=some true
 ab0:W.findIn K (.ref ck) "__getattribute__" = some (some (.builtin "BaseException.__getattribute__"))
 SJ:W.findIn K (.ref ck) "__getattr__" = some none
 aci:W.mroIn K ck (.type "BaseException")=some true
 WA:W.findIn K (.ref cF) "__class__" = some (some (.builtin "object.__class__"))
 Sw:W.specialIn K (.builtin "object.__class__") "__get__" = some (some (.builtin "getset_descriptor.__get__"))
 WW:W.takesIn K (.builtin "object.__class__")=some true
 RI:W.mroIn K cF (.type "object")=some true
 acJ:W.findIn K (.ref cF) "__getattribute__" = some (some (.builtin "BaseException.__getattribute__"))
 Z6:W.findIn K (.ref cF) "__getattr__" = some none
 aa5:W.mroIn K cF (.type "BaseException")=some true
 Xq:W.findIn K (.ref cm) "__class__" = some (some (.builtin "object.__class__"))
 Yt:W.specialIn K (.builtin "object.__class__") "__get__" = some (some (.builtin "getset_descriptor.__get__"))
 Qe:W.takesIn K (.builtin "object.__class__")=some true
 Vt:W.mroIn K cm (.type "object")=some true
 Qb:W.findIn K (.ref cm) "__getattribute__" = some (some (.builtin "BaseException.__getattribute__"))
 Rv:W.findIn K (.ref cm) "__getattr__" = some none
 UK:W.mroIn K cm (.type "BaseException")=some true
 ach:W.findIn K (.ref cB) "__class__" = some (some (.builtin "object.__class__"))
 aab:W.specialIn K (.builtin "object.__class__") "__get__" = some (some (.builtin "getset_descriptor.__get__"))
 Vq:W.takesIn K (.builtin "object.__class__")=some true
 Uv:W.mroIn K cB (.type "object")=some true
 WE:W.findIn K (.ref cB) "__getattribute__" = some (some (.builtin "BaseException.__getattribute__"))
 SX:W.findIn K (.ref cB) "__getattr__" = some none
 Z2:W.mroIn K cB (.type "BaseException")=some true
 Wy:W.findIn K (.ref bJ) "__class__" = some (some (.builtin "object.__class__"))
 Pc:W.specialIn K (.builtin "object.__class__") "__get__" = some (some (.builtin "getset_descriptor.__get__"))
 acY:W.takesIn K (.builtin "object.__class__")=some true
 RX:W.mroIn K bJ (.type "object")=some true
 OJ:W.findIn K (.ref bJ) "__getattribute__" = some (some (.builtin "BaseException.__getattribute__"))
 aaW:W.findIn K (.ref bJ) "__getattr__" = some none
 Wg:W.mroIn K bJ (.type "BaseException")=some true
 adK:W.findIn K (.ref cw) "__class__" = some (some (.builtin "object.__class__"))
 SQ:W.specialIn K (.builtin "object.__class__") "__get__" = some (some (.builtin "getset_descriptor.__get__"))
 Uy:W.takesIn K (.builtin "object.__class__")=some true
 ac9:W.mroIn K cw (.type "object")=some true
 Zw:W.findIn K (.ref cw) "__getattribute__" = some (some (.builtin "BaseException.__getattribute__"))
 Qw:W.findIn K (.ref cw) "__getattr__" = some none
 adA:W.mroIn K cw (.type "BaseException")=some true
 Q3:W.findIn K (.ref bZ) "__class__" = some (some (.builtin "object.__class__"))
 WT:W.specialIn K (.builtin "object.__class__") "__get__" = some (some (.builtin "getset_descriptor.__get__"))
 Wi:W.takesIn K (.builtin "object.__class__")=some true
 Wq:W.mroIn K bZ (.type "object")=some true
 S3:W.findIn K (.ref bZ) "__getattribute__" = some (some (.builtin "BaseException.__getattribute__"))
 Wm:W.findIn K (.ref bZ) "__getattr__" = some none
 acB:W.mroIn K bZ (.type "BaseException")=some true
 q1:W.findIn K (.ref eQ) "__class__" = some (some (.builtin "object.__class__"))
 q2:W.specialIn K (.builtin "object.__class__") "__get__" = some (some (.builtin "getset_descriptor.__get__"))
 q3:W.takesIn K (.builtin "object.__class__")=some true
 q4:W.mroIn K eQ (.type "object")=some true
 q5:W.kitOne K (.ref eQ) (.ref eQ)=some true
 q6:W.findIn K (.ref e8) "__class__" = some (some (.builtin "object.__class__"))
 q7:W.mroIn K e8 (.type "object")=some true
 q8:W.kitOne K (.ref e8) (.ref eQ)=some false
 q9:W.kitOne K (.ref eQ) (.ref e8)=some false
 q12:W.kitOne K (.ref e8) (.ref e8)=some true
 TL:W.findIn K (.ref fZ) "__class__" = some (some (.builtin "object.__class__"))
 PJ:W.mroIn K fZ (.type "object")=some true
 Va:W.kitOne K (.ref fZ) (.ref eQ)=some false
 q18:W.kitOne K (.ref fZ) (.ref e8)=some false
 V3:W.subIn K (.ref ck) (.ref jy)=some true
 ZU:W.kitOne K (.ref ck) (.type "ValueError")=some true
 Pj:W.kitOne K (.ref ck) (.ref ck)=some true
 aal:W.kitOne K (.ref ck) (.ref cF)=some false
 Zc:W.kitOne K (.ref ck) (.ref ja)=some false
 aao:W.kitOne K (.ref ck) (.ref cm)=some false
 QM:W.kitOne K (.ref ck) (.ref cB)=some false
 aae:W.kitOne K (.ref ck) (.ref iW)=some false
 R1:W.kitOne K (.ref ck) (.ref fE)=some false
 ab3:W.kitOne K (.ref ck) (.ref bJ)=some false
 Z0:W.kitOne K (.ref ck) (.ref jc)=some false
 acU:W.kitOne K (.ref ck) (.ref cw)=some false
 Yd:W.kitOne K (.ref ck) (.ref bZ)=some false
 Zi:W.subIn K (.ref cF) (.ref jy)=some true
 ab8:W.kitOne K (.ref cF) (.type "ValueError")=some true
 UB:W.kitOne K (.ref cF) (.ref ck)=some false
 XZ:W.kitOne K (.ref cF) (.ref cF)=some true
 aah:W.kitOne K (.ref cF) (.ref ja)=some false
 Rz:W.kitOne K (.ref cF) (.ref cm)=some false
 Vf:W.kitOne K (.ref cF) (.ref cB)=some false
 XY:W.kitOne K (.ref cF) (.ref iW)=some false
 XD:W.kitOne K (.ref cF) (.ref fE)=some false
 abK:W.kitOne K (.ref cF) (.ref bJ)=some false
 Pn:W.kitOne K (.ref cF) (.ref jc)=some false
 R9:W.kitOne K (.ref cF) (.ref cw)=some false
 Uz:W.kitOne K (.ref cF) (.ref bZ)=some false
 ZR:W.subIn K (.ref cm) (.ref jy)=some true
 Yw:W.kitOne K (.ref cm) (.type "ValueError")=some true
 acs:W.kitOne K (.ref cm) (.ref ck)=some false
 Q6:W.kitOne K (.ref cm) (.ref cF)=some false
 Sr:W.kitOne K (.ref cm) (.ref ja)=some false
 aaw:W.kitOne K (.ref cm) (.ref cm)=some true
 aaX:W.kitOne K (.ref cm) (.ref cB)=some false
 Ve:W.kitOne K (.ref cm) (.ref iW)=some false
 YY:W.kitOne K (.ref cm) (.ref fE)=some false
 Ur:W.kitOne K (.ref cm) (.ref bJ)=some false
 Qh:W.kitOne K (.ref cm) (.ref jc)=some false
 O0:W.kitOne K (.ref cm) (.ref cw)=some false
 W2:W.kitOne K (.ref cm) (.ref bZ)=some false
 ZX:W.subIn K (.ref cB) (.ref jy)=some true
 P6:W.kitOne K (.ref cB) (.type "ValueError")=some true
 abJ:W.kitOne K (.ref cB) (.ref ck)=some false
 aa9:W.kitOne K (.ref cB) (.ref cF)=some false
 RO:W.kitOne K (.ref cB) (.ref ja)=some false
 Xy:W.kitOne K (.ref cB) (.ref cm)=some false
 ac7:W.kitOne K (.ref cB) (.ref cB)=some true
 Z3:W.kitOne K (.ref cB) (.ref iW)=some false
 adb:W.kitOne K (.ref cB) (.ref fE)=some false
 abl:W.kitOne K (.ref cB) (.ref bJ)=some false
 Ul:W.kitOne K (.ref cB) (.ref jc)=some false
 aaK:W.kitOne K (.ref cB) (.ref cw)=some false
 XX:W.kitOne K (.ref cB) (.ref bZ)=some false
 XB:W.subIn K (.ref cw) (.ref jy)=some true
 adC:W.kitOne K (.ref cw) (.type "ValueError")=some true
 To:W.kitOne K (.ref cw) (.ref ck)=some false
 Pf:W.kitOne K (.ref cw) (.ref cF)=some false
 Tf:W.kitOne K (.ref cw) (.ref ja)=some false
 acW:W.kitOne K (.ref cw) (.ref cm)=some false
 VQ:W.kitOne K (.ref cw) (.ref cB)=some false
 abt:W.kitOne K (.ref cw) (.ref iW)=some false
 acm:W.kitOne K (.ref cw) (.ref fE)=some false
 ZY:W.kitOne K (.ref cw) (.ref bJ)=some false
 Rx:W.kitOne K (.ref cw) (.ref jc)=some false
 SU:W.kitOne K (.ref cw) (.ref cw)=some true
 Zf:W.kitOne K (.ref cw) (.ref bZ)=some false
 W3:W.subIn K (.ref bZ) (.ref jy)=some true
 Zy:W.kitOne K (.ref bZ) (.type "ValueError")=some true
 Q2:W.kitOne K (.ref bZ) (.ref ck)=some false
 Pk:W.kitOne K (.ref bZ) (.ref cF)=some false
 aco:W.kitOne K (.ref bZ) (.ref ja)=some false
 Ra:W.kitOne K (.ref bZ) (.ref cm)=some false
 Wu:W.kitOne K (.ref bZ) (.ref cB)=some false
 abz:W.kitOne K (.ref bZ) (.ref iW)=some false
 adB:W.kitOne K (.ref bZ) (.ref fE)=some false
 OO:W.kitOne K (.ref bZ) (.ref bJ)=some false
 abb:W.kitOne K (.ref bZ) (.ref jc)=some false
 Tc:W.kitOne K (.ref bZ) (.ref cw)=some false
 U3:W.kitOne K (.ref bZ) (.ref bZ)=some true
 Pz:W.subIn K (.ref bJ) (.ref jy)=some true
 acO:W.kitOne K (.ref bJ) (.type "ValueError")=some true
 Qc:W.kitOne K (.ref bJ) (.ref ck)=some false
 P4:W.kitOne K (.ref bJ) (.ref cF)=some false
 XS:W.kitOne K (.ref bJ) (.ref ja)=some false
 RZ:W.kitOne K (.ref bJ) (.ref cm)=some false
 aaG:W.kitOne K (.ref bJ) (.ref cB)=some false
 Y1:W.kitOne K (.ref bJ) (.ref iW)=some false
 WS:W.kitOne K (.ref bJ) (.ref fE)=some false
 Rh:W.kitOne K (.ref bJ) (.ref bJ)=some true
 T3:W.kitOne K (.ref bJ) (.ref jc)=some false
 OQ:W.kitOne K (.ref bJ) (.ref cw)=some false
 YL:W.kitOne K (.ref bJ) (.ref bZ)=some false
 adX:W.kitOne K (.type "NoneType") (.type "ValueError")=some false
 Wx:W.kitOne K (.type "NoneType") (.ref ck)=some false
 Sa:W.kitOne K (.type "NoneType") (.ref cF)=some false
 UZ:W.kitOne K (.type "NoneType") (.ref ja)=some false
 YA:W.kitOne K (.type "NoneType") (.ref cm)=some false
 QJ:W.kitOne K (.type "NoneType") (.ref cB)=some false
 aaY:W.kitOne K (.type "NoneType") (.ref iW)=some false
 T7:W.kitOne K (.type "NoneType") (.ref fE)=some false
 Qq:W.kitOne K (.type "NoneType") (.ref bJ)=some false
 SY:W.kitOne K (.type "NoneType") (.ref jc)=some false
 adM:W.kitOne K (.type "NoneType") (.ref cw)=some false
 ac3:W.kitOne K (.type "NoneType") (.ref bZ)=some false
def pS:List Nat:=List.range' 97 26
def isNm (l:List Nat):Bool:=decide (1<=l.length) && decide (l.length<=8) && l.all (pS.contains ·)
def fA:V->Bool
 | .str z=>isNm z.cps.toList
 | _=>false
def Hm:V->Prop
 | .str z=>z.length<=1000
 | _=>True
def stI {t:TS} {D:Ends} {H:Hp} {σ:L2.St} (τ:L2.St) (h:t D τ H) (e:σ=τ:=by rfl):t D σ H:=e ▸ h
inductive X1 {α0:Type} (R:α0->Prop):Prop | mk:∀ x0,R x0->X1 R
inductive X2 {α0 α1:Type} (R:α0->α1->Prop):Prop | mk:∀ x0 x1,R x0 x1->X2 R
inductive X3 {α0 α1 α2:Type} (R:α0->α1->α2->Prop):Prop | mk:∀ x0 x1 x2,R x0 x1 x2->X3 R
inductive X4 {α0 α1 α2 α3:Type} (R:α0->α1->α2->α3->Prop):Prop | mk:∀ x0 x1 x2 x3,R x0 x1 x2 x3->X4 R
inductive X5 {α0 α1 α2 α3 α4:Type} (R:α0->α1->α2->α3->α4->Prop):Prop | mk:∀ x0 x1 x2 x3 x4,R x0 x1 x2 x3 x4->X5 R
inductive X6 {α0 α1 α2 α3 α4 α5:Type} (R:α0->α1->α2->α3->α4->α5->Prop):Prop | mk:∀ x0 x1 x2 x3 x4 x5,R x0 x1 x2 x3 x4 x5->X6 R
inductive X7 {α0 α1 α2 α3 α4 α5 α6:Type} (R:α0->α1->α2->α3->α4->α5->α6->Prop):Prop | mk:∀ x0 x1 x2 x3 x4 x5 x6,R x0 x1 x2 x3 x4 x5 x6->X7 R
inductive X8 {α0 α1 α2 α3 α4 α5 α6 α7:Type} (R:α0->α1->α2->α3->α4->α5->α6->α7->Prop):Prop | mk:∀ x0 x1 x2 x3 x4 x5 x6 x7,R x0 x1 x2 x3 x4 x5 x6 x7->X8 R
inductive X9 {α0 α1 α2 α3 α4 α5 α6 α7 α8:Type} (R:α0->α1->α2->α3->α4->α5->α6->α7->α8->Prop):Prop | mk:∀ x0 x1 x2 x3 x4 x5 x6 x7 x8,R x0 x1 x2 x3 x4 x5 x6 x7 x8->X9 R
inductive Gj {α0 α1 α2 α3 α4 α5 α6 α7 α8 α9:Type} (R:α0->α1->α2->α3->α4->α5->α6->α7->α8->α9->Prop):Prop | mk:∀ x0 x1 x2 x3 x4 x5 x6 x7 x8 x9,R x0 x1 x2 x3 x4 x5 x6 x7 x8 x9->Gj R
inductive J6 {α0 α1 α2 α3 α4 α5 α6 α7 α8 α9 α10:Type} (R:α0->α1->α2->α3->α4->α5->α6->α7->α8->α9->α10->Prop):Prop | mk:∀ x0 x1 x2 x3 x4 x5 x6 x7 x8 x9 x10,R x0 x1 x2 x3 x4 x5 x6 x7 x8 x9 x10->J6 R
inductive A2 (p0 p1:Prop):Prop | mk:p0->p1->A2 p0 p1
inductive A3 (p0 p1 p2:Prop):Prop | mk:p0->p1->p2->A3 p0 p1 p2
inductive A4 (p0 p1 p2 p3:Prop):Prop | mk:p0->p1->p2->p3->A4 p0 p1 p2 p3
inductive A5 (p0 p1 p2 p3 p4:Prop):Prop | mk:p0->p1->p2->p3->p4->A5 p0 p1 p2 p3 p4
inductive A6 (p0 p1 p2 p3 p4 p5:Prop):Prop | mk:p0->p1->p2->p3->p4->p5->A6 p0 p1 p2 p3 p4 p5
inductive A7 (p0 p1 p2 p3 p4 p5 p6:Prop):Prop | mk:p0->p1->p2->p3->p4->p5->p6->A7 p0 p1 p2 p3 p4 p5 p6
inductive A8 (p0 p1 p2 p3 p4 p5 p6 p7:Prop):Prop | mk:p0->p1->p2->p3->p4->p5->p6->p7->A8 p0 p1 p2 p3 p4 p5 p6 p7
inductive A9 (p0 p1 p2 p3 p4 p5 p6 p7 p8:Prop):Prop | mk:p0->p1->p2->p3->p4->p5->p6->p7->p8->A9 p0 p1 p2 p3 p4 p5 p6 p7 p8
inductive AB (p0 p1 p2 p3 p4 p5 p6 p7 p8 p9:Prop):Prop | mk:p0->p1->p2->p3->p4->p5->p6->p7->p8->p9->AB p0 p1 p2 p3 p4 p5 p6 p7 p8 p9
inductive zq (p0 p1 p2 p3 p4 p5 p6 p7 p8 p9 p10 p11 p12:Prop):Prop | mk:p0->p1->p2->p3->p4->p5->p6->p7->p8->p9->p10->p11->p12->zq p0 p1 p2 p3 p4 p5 p6 p7 p8 p9 p10 p11 p12
inductive Jb (p0 p1 p2 p3 p4 p5 p6 p7 p8 p9 p10 p11 p12 p13:Prop):Prop | mk:p0->p1->p2->p3->p4->p5->p6->p7->p8->p9->p10->p11->p12->p13->Jb p0 p1 p2 p3 p4 p5 p6 p7 p8 p9 p10 p11 p12 p13
def a1 (f:V->Hp->VK->XK->Prop):Sp:=fun vs H Q E=>match vs with
 | [x1]=>f x1 H Q E
 | _=>False
def a1.o {f:V->Hp->VK->XK->Prop} {vs:List V} {H:Hp} {Q:VK} {E:XK} (h:a1 f vs H Q E):∃ x1,vs=[x1]/\f x1 H Q E:=by
 unfold a1 at h;split at h
 ·exact ⟨_,rfl,h⟩
 ·exact h.elim
def a2 (f:V->V->Hp->VK->XK->Prop):Sp:=fun vs H Q E=>match vs with
 | [x1,x2]=>f x1 x2 H Q E
 | _=>False
def a2.o {f:V->V->Hp->VK->XK->Prop} {vs:List V} {H:Hp} {Q:VK} {E:XK} (h:a2 f vs H Q E):∃ x1 x2,vs=[x1,x2]/\f x1 x2 H Q E:=by
 unfold a2 at h;split at h
 ·exact ⟨_,_,rfl,h⟩
 ·exact h.elim
def a3 (f:V->V->V->Hp->VK->XK->Prop):Sp:=fun vs H Q E=>match vs with
 | [x1,x2,x3]=>f x1 x2 x3 H Q E
 | _=>False
def a3.o {f:V->V->V->Hp->VK->XK->Prop} {vs:List V} {H:Hp} {Q:VK} {E:XK} (h:a3 f vs H Q E):∃ x1 x2 x3,vs=[x1,x2,x3]/\f x1 x2 x3 H Q E:=by
 unfold a3 at h;split at h
 ·exact ⟨_,_,_,rfl,h⟩
 ·exact h.elim
def a4 (f:V->V->V->V->Hp->VK->XK->Prop):Sp:=fun vs H Q E=>match vs with
 | [x1,x2,x3,x4]=>f x1 x2 x3 x4 H Q E
 | _=>False
def a4.o {f:V->V->V->V->Hp->VK->XK->Prop} {vs:List V} {H:Hp} {Q:VK} {E:XK} (h:a4 f vs H Q E):∃ x1 x2 x3 x4,vs=[x1,x2,x3,x4]/\f x1 x2 x3 x4 H Q E:=by
 unfold a4 at h;split at h
 ·exact ⟨_,_,_,_,rfl,h⟩
 ·exact h.elim
def a5 (f:V->V->V->V->V->Hp->VK->XK->Prop):Sp:=fun vs H Q E=>match vs with
 | [x1,x2,x3,x4,x5]=>f x1 x2 x3 x4 x5 H Q E
 | _=>False
def a5.o {f:V->V->V->V->V->Hp->VK->XK->Prop} {vs:List V} {H:Hp} {Q:VK} {E:XK} (h:a5 f vs H Q E):∃ x1 x2 x3 x4 x5,vs=[x1,x2,x3,x4,x5]/\f x1 x2 x3 x4 x5 H Q E:=by
 unfold a5 at h;split at h
 ·exact ⟨_,_,_,_,_,rfl,h⟩
 ·exact h.elim
def a6 (f:V->V->V->V->V->V->Hp->VK->XK->Prop):Sp:=fun vs H Q E=>match vs with
 | [x1,x2,x3,x4,x5,x6]=>f x1 x2 x3 x4 x5 x6 H Q E
 | _=>False
def a6.o {f:V->V->V->V->V->V->Hp->VK->XK->Prop} {vs:List V} {H:Hp} {Q:VK} {E:XK} (h:a6 f vs H Q E):∃ x1 x2 x3 x4 x5 x6,vs=[x1,x2,x3,x4,x5,x6]/\f x1 x2 x3 x4 x5 x6 H Q E:=by
 unfold a6 at h;split at h
 ·exact ⟨_,_,_,_,_,_,rfl,h⟩
 ·exact h.elim
def a7 (f:V->V->V->V->V->V->V->Hp->VK->XK->Prop):Sp:=fun vs H Q E=>match vs with
 | [x1,x2,x3,x4,x5,x6,x7]=>f x1 x2 x3 x4 x5 x6 x7 H Q E
 | _=>False
def a7.o {f:V->V->V->V->V->V->V->Hp->VK->XK->Prop} {vs:List V} {H:Hp} {Q:VK} {E:XK} (h:a7 f vs H Q E):∃ x1 x2 x3 x4 x5 x6 x7,vs=[x1,x2,x3,x4,x5,x6,x7]/\f x1 x2 x3 x4 x5 x6 x7 H Q E:=by
 unfold a7 at h;split at h
 ·exact ⟨_,_,_,_,_,_,_,rfl,h⟩
 ·exact h.elim
def vR (v:V) (k:Addr->Prop):Prop:=match v with
 | .ref x=>k x
 | _=>False
def vR.o {v:V} {k:Addr->Prop} (h:vR v k):∃ x,v=.ref x/\k x:=by
 unfold vR at h;split at h
 ·exact ⟨_,rfl,h⟩
 ·exact h.elim
def vS (v:V) (k:Str->Prop):Prop:=match v with
 | .str x=>k x
 | _=>False
def vS.o {v:V} {k:Str->Prop} (h:vS v k):∃ x,v=.str x/\k x:=by
 unfold vS at h;split at h
 ·exact ⟨_,rfl,h⟩
 ·exact h.elim
def vI (v:V) (k:Int->Prop):Prop:=match v with
 | .int x=>k x
 | _=>False
def vI.o {v:V} {k:Int->Prop} (h:vI v k):∃ x,v=.int x/\k x:=by
 unfold vI at h;split at h
 ·exact ⟨_,rfl,h⟩
 ·exact h.elim
def vB (v:V) (k:Bool->Prop):Prop:=match v with
 | .bl x=>k x
 | _=>False
def vB.o {v:V} {k:Bool->Prop} (h:vB v k):∃ x,v=.bl x/\k x:=by
 unfold vB at h;split at h
 ·exact ⟨_,rfl,h⟩
 ·exact h.elim
def LD (f:Int->Hp->VK->XK->Prop):Sp:=a1 fun q1 H Q E=>vI q1 fun x1=>f x1 H Q E
@[elab_as_elim] theorem FE {f:Int->Hp->VK->XK->Prop} {vs:List V} {H:Hp} {Q:VK} {E:XK} {G:List V->Prop} (h:LD f vs H Q E) (k:∀ x1,f x1 H Q E->G [.int x1]):G vs:=by
 obtain ⟨_,rfl,h⟩:=a1.o h;obtain ⟨x1,rfl,h⟩:=vI.o h;exact k x1 h
def Kd (f:Int->Int->Hp->VK->XK->Prop):Sp:=a2 fun q1 q2 H Q E=>vI q1 fun x1=>vI q2 fun x2=>f x1 x2 H Q E
@[elab_as_elim] theorem GZ {f:Int->Int->Hp->VK->XK->Prop} {vs:List V} {H:Hp} {Q:VK} {E:XK} {G:List V->Prop} (h:Kd f vs H Q E) (k:∀ x1 x2,f x1 x2 H Q E->G [.int x1,.int x2]):G vs:=by
 obtain ⟨_,_,rfl,h⟩:=a2.o h;obtain ⟨x1,rfl,h⟩:=vI.o h;obtain ⟨x2,rfl,h⟩:=vI.o h;exact k x1 x2 h
def lL (f:Addr->Hp->VK->XK->Prop):Sp:=a1 fun q1 H Q E=>vR q1 fun x1=>f x1 H Q E
@[elab_as_elim] theorem gG {f:Addr->Hp->VK->XK->Prop} {vs:List V} {H:Hp} {Q:VK} {E:XK} {G:List V->Prop} (h:lL f vs H Q E) (k:∀ x1,f x1 H Q E->G [.ref x1]):G vs:=by
 obtain ⟨_,rfl,h⟩:=a1.o h;obtain ⟨x1,rfl,h⟩:=vR.o h;exact k x1 h
def II (f:Addr->Bool->Addr->Hp->VK->XK->Prop):Sp:=a3 fun q1 q2 q3 H Q E=>vR q1 fun x1=>vB q2 fun x2=>vR q3 fun x3=>f x1 x2 x3 H Q E
@[elab_as_elim] theorem JQ {f:Addr->Bool->Addr->Hp->VK->XK->Prop} {vs:List V} {H:Hp} {Q:VK} {E:XK} {G:List V->Prop} (h:II f vs H Q E) (k:∀ x1 x2 x3,f x1 x2 x3 H Q E->G [.ref x1,.bl x2,.ref x3]):G vs:=by
 obtain ⟨_,_,_,rfl,h⟩:=a3.o h;obtain ⟨x1,rfl,h⟩:=vR.o h;obtain ⟨x2,rfl,h⟩:=vB.o h;obtain ⟨x3,rfl,h⟩:=vR.o h;exact k x1 x2 x3 h
def kI (f:Addr->Int->Hp->VK->XK->Prop):Sp:=a2 fun q1 q2 H Q E=>vR q1 fun x1=>vI q2 fun x2=>f x1 x2 H Q E
@[elab_as_elim] theorem dj {f:Addr->Int->Hp->VK->XK->Prop} {vs:List V} {H:Hp} {Q:VK} {E:XK} {G:List V->Prop} (h:kI f vs H Q E) (k:∀ x1 x2,f x1 x2 H Q E->G [.ref x1,.int x2]):G vs:=by
 obtain ⟨_,_,rfl,h⟩:=a2.o h;obtain ⟨x1,rfl,h⟩:=vR.o h;obtain ⟨x2,rfl,h⟩:=vI.o h;exact k x1 x2 h
def rL (f:Addr->Int->Str->Hp->VK->XK->Prop):Sp:=a3 fun q1 q2 q3 H Q E=>vR q1 fun x1=>vI q2 fun x2=>vS q3 fun x3=>f x1 x2 x3 H Q E
@[elab_as_elim] theorem mO {f:Addr->Int->Str->Hp->VK->XK->Prop} {vs:List V} {H:Hp} {Q:VK} {E:XK} {G:List V->Prop} (h:rL f vs H Q E) (k:∀ x1 x2 x3,f x1 x2 x3 H Q E->G [.ref x1,.int x2,.str x3]):G vs:=by
 obtain ⟨_,_,_,rfl,h⟩:=a3.o h;obtain ⟨x1,rfl,h⟩:=vR.o h;obtain ⟨x2,rfl,h⟩:=vI.o h;obtain ⟨x3,rfl,h⟩:=vS.o h;exact k x1 x2 x3 h
def IV (f:Addr->Int->Str->Int->Hp->VK->XK->Prop):Sp:=a4 fun q1 q2 q3 q4 H Q E=>vR q1 fun x1=>vI q2 fun x2=>vS q3 fun x3=>vI q4 fun x4=>f x1 x2 x3 x4 H Q E
@[elab_as_elim] theorem Hc {f:Addr->Int->Str->Int->Hp->VK->XK->Prop} {vs:List V} {H:Hp} {Q:VK} {E:XK} {G:List V->Prop} (h:IV f vs H Q E) (k:∀ x1 x2 x3 x4,f x1 x2 x3 x4 H Q E->G [.ref x1,.int x2,.str x3,.int x4]):G vs:=by
 obtain ⟨_,_,_,_,rfl,h⟩:=a4.o h;obtain ⟨x1,rfl,h⟩:=vR.o h;obtain ⟨x2,rfl,h⟩:=vI.o h;obtain ⟨x3,rfl,h⟩:=vS.o h;obtain ⟨x4,rfl,h⟩:=vI.o h;exact k x1 x2 x3 x4 h
def sQ (f:Addr->Addr->Hp->VK->XK->Prop):Sp:=a2 fun q1 q2 H Q E=>vR q1 fun x1=>vR q2 fun x2=>f x1 x2 H Q E
@[elab_as_elim] theorem mD {f:Addr->Addr->Hp->VK->XK->Prop} {vs:List V} {H:Hp} {Q:VK} {E:XK} {G:List V->Prop} (h:sQ f vs H Q E) (k:∀ x1 x2,f x1 x2 H Q E->G [.ref x1,.ref x2]):G vs:=by
 obtain ⟨_,_,rfl,h⟩:=a2.o h;obtain ⟨x1,rfl,h⟩:=vR.o h;obtain ⟨x2,rfl,h⟩:=vR.o h;exact k x1 x2 h
def Lp (f:Addr->Addr->Int->Hp->VK->XK->Prop):Sp:=a3 fun q1 q2 q3 H Q E=>vR q1 fun x1=>vR q2 fun x2=>vI q3 fun x3=>f x1 x2 x3 H Q E
@[elab_as_elim] theorem JC {f:Addr->Addr->Int->Hp->VK->XK->Prop} {vs:List V} {H:Hp} {Q:VK} {E:XK} {G:List V->Prop} (h:Lp f vs H Q E) (k:∀ x1 x2 x3,f x1 x2 x3 H Q E->G [.ref x1,.ref x2,.int x3]):G vs:=by
 obtain ⟨_,_,_,rfl,h⟩:=a3.o h;obtain ⟨x1,rfl,h⟩:=vR.o h;obtain ⟨x2,rfl,h⟩:=vR.o h;obtain ⟨x3,rfl,h⟩:=vI.o h;exact k x1 x2 x3 h
def JA (f:Addr->Addr->Str->Bool->Hp->VK->XK->Prop):Sp:=a4 fun q1 q2 q3 q4 H Q E=>vR q1 fun x1=>vR q2 fun x2=>vS q3 fun x3=>vB q4 fun x4=>f x1 x2 x3 x4 H Q E
@[elab_as_elim] theorem JJ {f:Addr->Addr->Str->Bool->Hp->VK->XK->Prop} {vs:List V} {H:Hp} {Q:VK} {E:XK} {G:List V->Prop} (h:JA f vs H Q E) (k:∀ x1 x2 x3 x4,f x1 x2 x3 x4 H Q E->G [.ref x1,.ref x2,.str x3,.bl x4]):G vs:=by
 obtain ⟨_,_,_,_,rfl,h⟩:=a4.o h;obtain ⟨x1,rfl,h⟩:=vR.o h;obtain ⟨x2,rfl,h⟩:=vR.o h;obtain ⟨x3,rfl,h⟩:=vS.o h;obtain ⟨x4,rfl,h⟩:=vB.o h;exact k x1 x2 x3 x4 h
def kh (f:Addr->Str->Hp->VK->XK->Prop):Sp:=a2 fun q1 q2 H Q E=>vR q1 fun x1=>vS q2 fun x2=>f x1 x2 H Q E
@[elab_as_elim] theorem e9 {f:Addr->Str->Hp->VK->XK->Prop} {vs:List V} {H:Hp} {Q:VK} {E:XK} {G:List V->Prop} (h:kh f vs H Q E) (k:∀ x1 x2,f x1 x2 H Q E->G [.ref x1,.str x2]):G vs:=by
 obtain ⟨_,_,rfl,h⟩:=a2.o h;obtain ⟨x1,rfl,h⟩:=vR.o h;obtain ⟨x2,rfl,h⟩:=vS.o h;exact k x1 x2 h
def FU (f:Addr->Str->Bool->Addr->Bool->Hp->VK->XK->Prop):Sp:=a5 fun q1 q2 q3 q4 q5 H Q E=>vR q1 fun x1=>vS q2 fun x2=>vB q3 fun x3=>vR q4 fun x4=>vB q5 fun x5=>f x1 x2 x3 x4 x5 H Q E
@[elab_as_elim] theorem Mv {f:Addr->Str->Bool->Addr->Bool->Hp->VK->XK->Prop} {vs:List V} {H:Hp} {Q:VK} {E:XK} {G:List V->Prop} (h:FU f vs H Q E) (k:∀ x1 x2 x3 x4 x5,f x1 x2 x3 x4 x5 H Q E->G [.ref x1,.str x2,.bl x3,.ref x4,.bl x5]):G vs:=by
 obtain ⟨_,_,_,_,_,rfl,h⟩:=a5.o h;obtain ⟨x1,rfl,h⟩:=vR.o h;obtain ⟨x2,rfl,h⟩:=vS.o h;obtain ⟨x3,rfl,h⟩:=vB.o h;obtain ⟨x4,rfl,h⟩:=vR.o h;obtain ⟨x5,rfl,h⟩:=vB.o h;exact k x1 x2 x3 x4 x5 h
def rZ (f:Addr->Str->Int->Hp->VK->XK->Prop):Sp:=a3 fun q1 q2 q3 H Q E=>vR q1 fun x1=>vS q2 fun x2=>vI q3 fun x3=>f x1 x2 x3 H Q E
@[elab_as_elim] theorem jM {f:Addr->Str->Int->Hp->VK->XK->Prop} {vs:List V} {H:Hp} {Q:VK} {E:XK} {G:List V->Prop} (h:rZ f vs H Q E) (k:∀ x1 x2 x3,f x1 x2 x3 H Q E->G [.ref x1,.str x2,.int x3]):G vs:=by
 obtain ⟨_,_,_,rfl,h⟩:=a3.o h;obtain ⟨x1,rfl,h⟩:=vR.o h;obtain ⟨x2,rfl,h⟩:=vS.o h;obtain ⟨x3,rfl,h⟩:=vI.o h;exact k x1 x2 x3 h
def Gs (f:Addr->Str->Int->Str->Str->Hp->VK->XK->Prop):Sp:=a5 fun q1 q2 q3 q4 q5 H Q E=>vR q1 fun x1=>vS q2 fun x2=>vI q3 fun x3=>vS q4 fun x4=>vS q5 fun x5=>f x1 x2 x3 x4 x5 H Q E
@[elab_as_elim] theorem Kz {f:Addr->Str->Int->Str->Str->Hp->VK->XK->Prop} {vs:List V} {H:Hp} {Q:VK} {E:XK} {G:List V->Prop} (h:Gs f vs H Q E) (k:∀ x1 x2 x3 x4 x5,f x1 x2 x3 x4 x5 H Q E->G [.ref x1,.str x2,.int x3,.str x4,.str x5]):G vs:=by
 obtain ⟨_,_,_,_,_,rfl,h⟩:=a5.o h;obtain ⟨x1,rfl,h⟩:=vR.o h;obtain ⟨x2,rfl,h⟩:=vS.o h;obtain ⟨x3,rfl,h⟩:=vI.o h;obtain ⟨x4,rfl,h⟩:=vS.o h;obtain ⟨x5,rfl,h⟩:=vS.o h;exact k x1 x2 x3 x4 x5 h
def pI (f:Addr->Str->Str->Hp->VK->XK->Prop):Sp:=a3 fun q1 q2 q3 H Q E=>vR q1 fun x1=>vS q2 fun x2=>vS q3 fun x3=>f x1 x2 x3 H Q E
@[elab_as_elim] theorem jP {f:Addr->Str->Str->Hp->VK->XK->Prop} {vs:List V} {H:Hp} {Q:VK} {E:XK} {G:List V->Prop} (h:pI f vs H Q E) (k:∀ x1 x2 x3,f x1 x2 x3 H Q E->G [.ref x1,.str x2,.str x3]):G vs:=by
 obtain ⟨_,_,_,rfl,h⟩:=a3.o h;obtain ⟨x1,rfl,h⟩:=vR.o h;obtain ⟨x2,rfl,h⟩:=vS.o h;obtain ⟨x3,rfl,h⟩:=vS.o h;exact k x1 x2 x3 h
def CZ (f:Addr->Str->Str->Bool->Hp->VK->XK->Prop):Sp:=a4 fun q1 q2 q3 q4 H Q E=>vR q1 fun x1=>vS q2 fun x2=>vS q3 fun x3=>vB q4 fun x4=>f x1 x2 x3 x4 H Q E
@[elab_as_elim] theorem vP {f:Addr->Str->Str->Bool->Hp->VK->XK->Prop} {vs:List V} {H:Hp} {Q:VK} {E:XK} {G:List V->Prop} (h:CZ f vs H Q E) (k:∀ x1 x2 x3 x4,f x1 x2 x3 x4 H Q E->G [.ref x1,.str x2,.str x3,.bl x4]):G vs:=by
 obtain ⟨_,_,_,_,rfl,h⟩:=a4.o h;obtain ⟨x1,rfl,h⟩:=vR.o h;obtain ⟨x2,rfl,h⟩:=vS.o h;obtain ⟨x3,rfl,h⟩:=vS.o h;obtain ⟨x4,rfl,h⟩:=vB.o h;exact k x1 x2 x3 x4 h
def Gf (f:Addr->Str->Str->Str->Str->Str->Hp->VK->XK->Prop):Sp:=a6 fun q1 q2 q3 q4 q5 q6 H Q E=>vR q1 fun x1=>vS q2 fun x2=>vS q3 fun x3=>vS q4 fun x4=>vS q5 fun x5=>vS q6 fun x6=>f x1 x2 x3 x4 x5 x6 H Q E
@[elab_as_elim] theorem Ha {f:Addr->Str->Str->Str->Str->Str->Hp->VK->XK->Prop} {vs:List V} {H:Hp} {Q:VK} {E:XK} {G:List V->Prop} (h:Gf f vs H Q E) (k:∀ x1 x2 x3 x4 x5 x6,f x1 x2 x3 x4 x5 x6 H Q E->G [.ref x1,.str x2,.str x3,.str x4,.str x5,.str x6]):G vs:=by
 obtain ⟨_,_,_,_,_,_,rfl,h⟩:=a6.o h;obtain ⟨x1,rfl,h⟩:=vR.o h;obtain ⟨x2,rfl,h⟩:=vS.o h;obtain ⟨x3,rfl,h⟩:=vS.o h;obtain ⟨x4,rfl,h⟩:=vS.o h;obtain ⟨x5,rfl,h⟩:=vS.o h;obtain ⟨x6,rfl,h⟩:=vS.o h;exact k x1 x2 x3 x4 x5 x6 h
def xw (f:Addr->V->Hp->VK->XK->Prop):Sp:=a2 fun q1 x2 H Q E=>vR q1 fun x1=>f x1 x2 H Q E
@[elab_as_elim] theorem qP {f:Addr->V->Hp->VK->XK->Prop} {vs:List V} {H:Hp} {Q:VK} {E:XK} {G:List V->Prop} (h:xw f vs H Q E) (k:∀ x1 x2,f x1 x2 H Q E->G [.ref x1,x2]):G vs:=by
 obtain ⟨_,x2,rfl,h⟩:=a2.o h;obtain ⟨x1,rfl,h⟩:=vR.o h;exact k x1 x2 h
def KZ (f:Addr->V->V->Hp->VK->XK->Prop):Sp:=a3 fun q1 x2 x3 H Q E=>vR q1 fun x1=>f x1 x2 x3 H Q E
@[elab_as_elim] theorem mP {f:Addr->V->V->Hp->VK->XK->Prop} {vs:List V} {H:Hp} {Q:VK} {E:XK} {G:List V->Prop} (h:KZ f vs H Q E) (k:∀ x1 x2 x3,f x1 x2 x3 H Q E->G [.ref x1,x2,x3]):G vs:=by
 obtain ⟨_,x2,x3,rfl,h⟩:=a3.o h;obtain ⟨x1,rfl,h⟩:=vR.o h;exact k x1 x2 x3 h
def Cp (f:Addr->V->V->V->Hp->VK->XK->Prop):Sp:=a4 fun q1 x2 x3 x4 H Q E=>vR q1 fun x1=>f x1 x2 x3 x4 H Q E
@[elab_as_elim] theorem xk {f:Addr->V->V->V->Hp->VK->XK->Prop} {vs:List V} {H:Hp} {Q:VK} {E:XK} {G:List V->Prop} (h:Cp f vs H Q E) (k:∀ x1 x2 x3 x4,f x1 x2 x3 x4 H Q E->G [.ref x1,x2,x3,x4]):G vs:=by
 obtain ⟨_,x2,x3,x4,rfl,h⟩:=a4.o h;obtain ⟨x1,rfl,h⟩:=vR.o h;exact k x1 x2 x3 x4 h
def Jy (f:Addr->V->V->V->V->Hp->VK->XK->Prop):Sp:=a5 fun q1 x2 x3 x4 x5 H Q E=>vR q1 fun x1=>f x1 x2 x3 x4 x5 H Q E
@[elab_as_elim] theorem Ih {f:Addr->V->V->V->V->Hp->VK->XK->Prop} {vs:List V} {H:Hp} {Q:VK} {E:XK} {G:List V->Prop} (h:Jy f vs H Q E) (k:∀ x1 x2 x3 x4 x5,f x1 x2 x3 x4 x5 H Q E->G [.ref x1,x2,x3,x4,x5]):G vs:=by
 obtain ⟨_,x2,x3,x4,x5,rfl,h⟩:=a5.o h;obtain ⟨x1,rfl,h⟩:=vR.o h;exact k x1 x2 x3 x4 x5 h
def Js (f:Addr->V->V->V->V->V->Hp->VK->XK->Prop):Sp:=a6 fun q1 x2 x3 x4 x5 x6 H Q E=>vR q1 fun x1=>f x1 x2 x3 x4 x5 x6 H Q E
@[elab_as_elim] theorem Jw {f:Addr->V->V->V->V->V->Hp->VK->XK->Prop} {vs:List V} {H:Hp} {Q:VK} {E:XK} {G:List V->Prop} (h:Js f vs H Q E) (k:∀ x1 x2 x3 x4 x5 x6,f x1 x2 x3 x4 x5 x6 H Q E->G [.ref x1,x2,x3,x4,x5,x6]):G vs:=by
 obtain ⟨_,x2,x3,x4,x5,x6,rfl,h⟩:=a6.o h;obtain ⟨x1,rfl,h⟩:=vR.o h;exact k x1 x2 x3 x4 x5 x6 h
def JK (f:Addr->V->V->V->V->V->V->Hp->VK->XK->Prop):Sp:=a7 fun q1 x2 x3 x4 x5 x6 x7 H Q E=>vR q1 fun x1=>f x1 x2 x3 x4 x5 x6 x7 H Q E
@[elab_as_elim] theorem Gq {f:Addr->V->V->V->V->V->V->Hp->VK->XK->Prop} {vs:List V} {H:Hp} {Q:VK} {E:XK} {G:List V->Prop} (h:JK f vs H Q E) (k:∀ x1 x2 x3 x4 x5 x6 x7,f x1 x2 x3 x4 x5 x6 x7 H Q E->G [.ref x1,x2,x3,x4,x5,x6,x7]):G vs:=by
 obtain ⟨_,x2,x3,x4,x5,x6,x7,rfl,h⟩:=a7.o h;obtain ⟨x1,rfl,h⟩:=vR.o h;exact k x1 x2 x3 x4 x5 x6 x7 h
def mx (f:Str->Hp->VK->XK->Prop):Sp:=a1 fun q1 H Q E=>vS q1 fun x1=>f x1 H Q E
@[elab_as_elim] theorem gz {f:Str->Hp->VK->XK->Prop} {vs:List V} {H:Hp} {Q:VK} {E:XK} {G:List V->Prop} (h:mx f vs H Q E) (k:∀ x1,f x1 H Q E->G [.str x1]):G vs:=by
 obtain ⟨_,rfl,h⟩:=a1.o h;obtain ⟨x1,rfl,h⟩:=vS.o h;exact k x1 h
def mz (f:V->Hp->VK->XK->Prop):Sp:=a1 fun x1 H Q E=>f x1 H Q E
@[elab_as_elim] theorem gF {f:V->Hp->VK->XK->Prop} {vs:List V} {H:Hp} {Q:VK} {E:XK} {G:List V->Prop} (h:mz f vs H Q E) (k:∀ x1,f x1 H Q E->G [x1]):G vs:=by
 obtain ⟨x1,rfl,h⟩:=a1.o h;exact k x1 h
def Yc (K:ν):Sp:=mz fun x H Q _=>A3 (∃ T,clsName H x=some T) (Hm x) (∀ H',ah H H'->Q (.bl (fA x)) H')
def Kq {nm:List Nat} (h:isNm nm=true):1<=nm.length/\nm.length<=8/\nm.all (pS.contains ·)=true:=by
 unfold isNm at h;simp only [AC,_r] at h;exact ⟨h.1.1,h.1.2,h.2⟩
def Sl:Str.ofString "abcdefghijklmnopqrstuvwxyz" = Tx.S pS:=by decide +kernel
def ej (l:List Nat):Bool:=decide (l=[46]) || decide (l=[46,46]) || isNm l
def DW {l:List Nat} (h:ej l=true):47 ∉ l/\l≠[]/\l.length<=8:=by
 unfold ej at h;simp only [Bool.or_eq_true,_r] at h;rcases h with (rfl | rfl) | h
 ·exact ⟨by decide,by decide,by decide⟩
 ·exact ⟨by decide,by decide,by decide⟩
 ·obtain ⟨h1,h2,h3⟩:=Kq h;refine ⟨fun m=>?_,fun e=>by rw [e] at h1;simp at h1,h2⟩;have:=LE.mp h3 47 m;exact absurd this (by decide +kernel)
abbrev PV (ps:List (List Nat)):List V:=(ps.map Tx.S).map V.str
def told (ps:List (List Nat)) (t:List Nat):List (List Nat):=if ps≠[]/\t.getLast?=some 47 then ps++[[46]] else ps
def eO (t:List Nat):Bool:=decide (t.head?=some 47)
def UT (K:ν):Sp:=mx fun z H Q _=>X1 fun (w:List Nat)=>A3 (z=Tx.S w) (w.length<=1000) (∀ H',ah H H'->Q (.bl (ej w)) H')
def aaS (K:ν):Sp:=mx fun z H Q _=>X1 fun (t:List Nat)=>A5 (z=Tx.S t) (1<=t.length) (t.length<=2000) ((Tx.words 47 t).all ej=true) (∀ (H':Hp) (l p:Addr),ah H H'->H l=none->H' l=some (.lst (PV (told (Tx.words 47 t) t)))->H' p=some (.tup [.bl (eO t),.ref l])->Q (.ref p) H')
structure Pth (ps:List (List Nat)) (t:List Nat):Prop where
 words:Tx.words 47 t=ps
 one:1<=t.length
 most:t.length<=150
def r8 (n kd ow mi re tx nm pl:V):List (Str×V):=[("number",n),("kind",kd),("owner",ow),("mine",mi),("rest",re),("text",tx),("names",nm),("places",pl)]
def sU (ml:Addr) (c:Int):List (Str×V):=[("made",.ref ml),("changes",.int c)]
structure Th where
 kd:Str
 ow:Str
 mi:Str
 re:Str
 tx:Str
 aW:List (Str×Nat)
 cS:List (Nat×Str)
structure Hs where
 ts:List Th
 ro:List (Str×Nat)
 st:List (Str×Nat)
 tr:List (Str×Nat)
 ov:List (Nat×Nat)
 un:List (Nat×Nat)
structure Ta where
 th:Addr
 dN:Addr
 nm:Addr
 pl:Addr
structure Ad where
 a:Addr
 dx:Addr
 t:Addr
 dt:Addr
 ml:Addr
 ro:Addr
 st:Addr
 tr:Addr
 ov:Addr
 un:Addr
 ho:Addr
 hg:Nat
def pz (c:Int) (A:Ad):List (Str×V):=[("things",.ref A.t),("changes",.int c),("roots",.ref A.ro),("standings",.ref A.st),("tree_roots",.ref A.tr),("root_over",.ref A.ov),("folder_under",.ref A.un),("holds",.ref A.ho),("holds_given",.int A.hg),("first_root",.int 0)]
def Xs {f:Str} {c c':Int} {A:Ad} (h:f ≠ "changes"):(pz c A).lookup f=(pz c' A).lookup f:=by
 unfold pz;simp only [List.lookup];have:(f == ("changes":Str))=false:=EQ.mpr h;rw [this]
def sD (l:List (Str×Nat)):List (Key×V):=l.map fun e=>(.inr e.1,.int e.2)
def nD (l:List (Nat×Nat)):List (Key×V):=l.map fun e=>(.inl (e.1:Int),.int e.2)
def pD (l:List (Nat×Str)):List (List Key×V):=l.map fun e=>([.inl (e.1:Int),.inr e.2],.bl true)
structure jS (CT:Addr) (H:Hp) (a:Ta) (i:Nat) (t:Th):Prop where
 o:∃ fs,H a.th=some (.ins CT a.dN fs)/\fs.length<=40/\dh fs (r8 (.int i) (.str t.kd) (.str t.ow) (.str t.mi) (.str t.re) (.str t.tx) (.ref a.nm) (.ref a.pl))
 nm:H a.nm=some (.dK (sD t.aW))
 pl:H a.pl=some (.dT (pD t.cS))
def Ad.w (A:Ad):List Addr:=[A.a,A.t,A.ml,A.ro,A.st,A.tr,A.ov,A.un]
def Ta.l (a:Ta):List Addr:=[a.th,a.nm,a.pl]
structure aI (CH CS CT:Addr) (H:Hp) (A:Ad) (L:List Ta) (M:Hs):Prop where
 h:∃ fs c,H A.a=some (.ins CH A.dx fs)/\fs.length<=40/\dh fs (pz c A)
 t:∃ fs c,H A.t=some (.ins CS A.dt fs)/\fs.length<=40/\dh fs (sU A.ml c)
 ml:H A.ml=some (.lst (L.map fun a=>.ref a.th))
 len:L.length=M.ts.length
 th:∀ i t,M.ts[i]?=some t->∃ a,L[i]?=some a/\jS CT H a i t
 ro:H A.ro=some (.dK (sD M.ro))
 st:H A.st=some (.dK (sD M.st))
 tr:H A.tr=some (.dK (sD M.tr))
 ov:H A.ov=some (.dK (nD M.ov))
 un:H A.un=some (.dK (nD M.un))
 nd:(A.w++L.flatMap Ta.l).Nodup
def Kp (W:List Addr) (H H':Hp):Prop:=∀ b o,b ∉ W->H b=some o->H' b=some o
def Kp.trans {W:List Addr} {H H1 H2:Hp} (a:Kp W H H1) (b:Kp W H1 H2):Kp W H H2:=fun c o h e=>b c o h (a c o h e)
def Kp.of {W:List Addr} {H H':Hp} (s:ah H H'):Kp W H H':=fun b o _ e=>s b o e
def bH {H:Hp} {a b:Addr} {o u:HO} (h1:H a=some o) (h2:H b=some u) (h:o≠u):a≠b:=fun e=>h (by rw [e,h2] at h1;cases h1;rfl)
def aG {H:Hp} {a b:Addr} {o:HO} (h1:H a=some o) (h2:H b=none):a≠b:=fun e=>by rw [e,h2] at h1;cases h1
def Df {H:Hp} {x d:Addr} {o O oo:HO} (hn:H d=none) (hx:H x=some oo):upd (upd H d o) x O x=some O/\upd (upd H d o) x O d=some o/\(∀ b u,b≠x->H b=some u->upd (upd H d o) x O b=some u)/\d≠x:=by
 have n:=aG hx hn;refine ⟨au,by rw [ag (pp n),au],fun b u hb e=>?_,pp n⟩;rw [ag hb,ag (aG e hn)];exact e
section
variable {CH CS CT:Addr} {H H':Hp} {A:Ad} {L:List Ta} {M:Hs}
def jS.keep {W:List Addr} {a:Ta} {i:Nat} {t:Th} (h:jS CT H a i t) (k:Kp W H H') (hw:∀ b∈a.l,b ∉ W):jS CT H' a i t where
 o:=let ⟨fs,e,r⟩:=h.o;⟨fs,k _ _ (hw _ (by simp [Ta.l])) e,r⟩
 nm:=k _ _ (hw _ (by simp [Ta.l])) h.nm
 pl:=k _ _ (hw _ (by simp [Ta.l])) h.pl
def ir {i:Nat} {a:Ta} (h:L[i]?=some a) {b:Addr} (hb:b∈a.l):b∈L.flatMap Ta.l:=List.mem_flatMap.mpr ⟨a,NE h,hb⟩
def aI.keep {W:List Addr} (i:aI CH CS CT H A L M) (k:Kp W H H') (hw:∀ b∈A.w++L.flatMap Ta.l,b ∉ W):aI CH CS CT H' A L M where
 h:=let ⟨fs,c,e,r⟩:=i.h;⟨fs,c,k _ _ (hw _ (by simp [Ad.w])) e,r⟩
 t:=let ⟨fs,c,e,r⟩:=i.t;⟨fs,c,k _ _ (hw _ (by simp [Ad.w])) e,r⟩
 ml:=k _ _ (hw _ (by simp [Ad.w])) i.ml
 len:=i.len
 th:=fun j t e=>let ⟨a,e1,h⟩:=i.th j t e;⟨a,e1,h.keep k fun b hb=>hw b (wS _ (ir e1 hb))⟩
 ro:=k _ _ (hw _ (by simp [Ad.w])) i.ro
 st:=k _ _ (hw _ (by simp [Ad.w])) i.st
 tr:=k _ _ (hw _ (by simp [Ad.w])) i.tr
 ov:=k _ _ (hw _ (by simp [Ad.w])) i.ov
 un:=k _ _ (hw _ (by simp [Ad.w])) i.un
 nd:=i.nd
def aI.same (i:aI CH CS CT H A L M) (s:ah H H'):aI CH CS CT H' A L M:=i.keep (W:=[]) (.of s) fun _ _=>by simp
def xh:∀ {L:List Ta} {i j:Nat} {a a':Ta} {b:Addr},(L.flatMap Ta.l).Nodup->L[i]?=some a->L[j]?=some a'->b∈a.l->b∈a'.l->i=j
 | [],_,_,_,_,_,_,h,_,_,_=>by simp at h
 | c::r,0,0,_,_,_,_,_,_,_,_=>rfl
 | c::r,0,j+1,a,a',b,nd,h1,h2,m1,m2=>by
  rw [Ty,GT] at nd;simp only [List.getElem?_cons_zero,Option.some.injEq] at h1;simp only [List.getElem?_cons_succ] at h2;subst h1;exact absurd rfl (nd.2.2 b m1 b (ir h2 m2))
 | c::r,i+1,0,a,a',b,nd,h1,h2,m1,m2=>by
  rw [Ty,GT] at nd;simp only [List.getElem?_cons_zero,Option.some.injEq] at h2;simp only [List.getElem?_cons_succ] at h1;subst h2;exact absurd rfl (nd.2.2 b m2 b (ir h1 m1))
 | c::r,i+1,j+1,a,a',b,nd,h1,h2,m1,m2=>by
  rw [Ty,GT] at nd;simp only [List.getElem?_cons_succ] at h1 h2;rw [xh nd.2.1 h1 h2 m1 m2]
def aI.write {k:Nat} {a:Ta} {t':Th} (i:aI CH CS CT H A L M) (hk:L[k]?=some a) (hh:∃ fs c,H' A.a=some (.ins CH A.dx fs)/\fs.length<=40/\dh fs (pz c A)) (ht:∃ fs c,H' A.t=some (.ins CS A.dt fs)/\fs.length<=40/\dh fs (sU A.ml c))
  (aK:jS CT H' a k t') (kp:Kp [A.a,A.t,a.th,a.nm,a.pl] H H'):aI CH CS CT H' A L { M with ts:=M.ts.set k t' }:=by
 have nd:=i.nd;rw [GT] at nd;obtain ⟨n1,n2,n3⟩:=nd;have ma:∀ b∈a.l,b∈L.flatMap Ta.l:=fun b hb=>ir hk hb;have rH:∀ b∈[A.ml,A.ro,A.st,A.tr,A.ov,A.un],b ∉ [A.a,A.t,a.th,a.nm,a.pl]:=by
  intro b hb hm;have hw:b∈A.w:=by
   simp only [Ad.w,lv,mo,wP] at hb ⊢;rcases hb with h | h | h | h | h | h <;> simp [h]
  simp only [lv,mo,wP] at hm;rcases hm with rfl | rfl | rfl | rfl | rfl
  ·have:=(Do.mp n1).1;simp only [lv,mo,wP,UV] at hb this;rcases hb with h | h | h | h | h | h <;> simp [h] at this
  ·have:=(Do.mp (Do.mp n1).2).1;simp only [lv,mo,wP,UV] at hb this;rcases hb with h | h | h | h | h | h <;> simp [h] at this
  ·exact n3 _ hw _ (ma _ (by simp [Ta.l])) rfl
  ·exact n3 _ hw _ (ma _ (by simp [Ta.l])) rfl
  ·exact n3 _ hw _ (ma _ (by simp [Ta.l])) rfl
 refine ⟨hh,ht,kp _ _ (rH _ (by simp)) i.ml,by rw [i.len];simp,fun j t e=>?_,kp _ _ (rH _ (by simp)) i.ro,kp _ _ (rH _ (by simp)) i.st,kp _ _ (rH _ (by simp)) i.tr,kp _ _ (rH _ (by simp)) i.ov,kp _ _ (rH _ (by simp)) i.un,i.nd⟩;by_cases hj:j=k
 ·subst hj;have bO:j < M.ts.length:=by rw [<- i.len];exact (ul.mp hk).1
  have e':(M.ts.set j t')[j]?=some t:=e;rw [On bO] at e';cases e';exact ⟨a,hk,aK⟩
 ·have e':(M.ts.set k t')[j]?=some t:=e;rw [No (pp hj)] at e';obtain ⟨a',e1,h1⟩:=i.th j t e';refine ⟨a',e1,h1.keep kp fun b hb hm=>?_⟩;have oX:=ir e1 hb;simp only [lv,mo,wP] at hm;rcases hm with rfl | rfl | rfl | rfl | rfl
  ·exact n3 _ (by simp [Ad.w]) _ oX rfl
  ·exact n3 _ (by simp [Ad.w]) _ oX rfl
  ·exact hj (xh n2 e1 hk hb (by simp [Ta.l]))
  ·exact hj (xh n2 e1 hk hb (by simp [Ta.l]))
  ·exact hj (xh n2 e1 hk hb (by simp [Ta.l]))
end
def IU:V->Bool
 | .int _=>true
 | _=>false
def Xa:Sp:=mz fun v H Q _=>(∃ T,clsName H v=some T)/\Q (.bl (IU v)) H
def Yq:Sp:=mz fun x H Q _=>A4 (∃ T,clsName H x=some T) (Hm x) (fA x=true) (∀ H',ah H H'->Q .aq H')
def Za (C:Addr):Sp:=JK fun x n kd ow mi re tx H Q _=>X1 fun dx=>A2 (H x=some (.ins C dx [])) (∀ l1 l2 H',H l1=none->H l2=none->l1≠l2->l1≠x->l2≠x->(∀ b,b≠x->b≠l1->b≠l2->H' b=H b)->H' l1=some (.dK [])->H' l2=some (.dT []) ->
   (∀ fs,fs.length<=40->dh fs (r8 n kd ow mi re tx (.ref l1) (.ref l2))->H' x=some (.ins C dx fs)->Q .aq H'))
def acZ (C:Addr):Sp:=lL fun x H Q _=>X1 fun dx=>A2 (H x=some (.ins C dx [])) (∀ l H',H l=none->l≠x->(∀ b,b≠x->b≠l->H' b=H b)->H' l=some (.lst [])->(∀ fs,fs.length<=40->dh fs (sU l 0)->H' x=some (.ins C dx fs)->Q .aq H'))
structure mR (CS:Addr) (H:Hp) (x dt ml:Addr) (rs:List V):Prop where
 o:∃ fs c,H x=some (.ins CS dt fs)/\fs.length<=40/\dh fs (sU ml c)
 ml:H ml=some (.lst rs)
def xA (CS CT:Addr) (x dt ml:Addr) (rs:List V) (kd ow mi re tx:V) (H:Hp) (Q:VK):Prop :=
 ∀ th dN nm pl ks H',H th=none->H nm=none->H pl=none->mR CS H' x dt ml (rs++[.ref th])->H' th=some (.ins CT dN ks)->ks.length<=40->dh ks (r8 (.int rs.length) kd ow mi re tx (.ref nm) (.ref pl)) ->
  H' nm=some (.dK [])->H' pl=some (.dT [])->Kp [x,ml] H H'->Q (.int rs.length) H'
def Xl (CS CT:Addr):Sp:=Js fun x kd ow mi re tx H Q _=>X3 fun dt ml rs=>A3 (mR CS H x dt ml rs) (rs.length<=500) (xA CS CT x dt ml rs kd ow mi re tx H Q)
def abV (CS CT:Addr):Sp:=Cp fun x ow mi re H Q _=>X3 fun dt ml rs=>A3 (mR CS H x dt ml rs) (rs.length<=500) (xA CS CT x dt ml rs (.str "folder") ow mi re (.str "") H Q)
def V0 (CS CT:Addr):Sp:=Jy fun x ow tx mi re H Q _=>X3 fun dt ml rs=>A3 (mR CS H x dt ml rs) (rs.length<=500) (xA CS CT x dt ml rs (.str "file") ow mi re tx H Q)
def Ly (CH CS CT CN:Addr):Sp:=xw fun x v H Q E=>X3 fun A L M=>A5 (aI CH CS CT H A L M) (A.t=x) (∃ T,clsName H v=some T) (∀ (k:Nat) a t,v=.int k->L[k]?=some a->M.ts[k]?=some t->Q (.ref a.th) H) ((∀ k:Nat,v=.int k->¬ k < M.ts.length)->E (.ref CN) none H)
abbrev l7:=Ad->List Ta->Hs->Nat->Ta->Th->Hp->VK->Prop
def pB (CH CS CT:Addr) (sel:Ad->Addr) (f:l7):Sp:=kI fun x n H Q _=>X6 fun A L M (k:Nat) a t=>A6 (aI CH CS CT H A L M) (sel A=x) (n=(k:Int)) (L[k]?=some a) (M.ts[k]?=some t) (f A L M k a t H Q)
def acy (CH CS CT:Addr) (sel:Ad->Addr):Sp:=rL fun x n z H Q _=>X6 fun A L M (k:Nat) a t=>A6 (aI CH CS CT H A L M) (sel A=x) (n=(k:Int)) (L[k]?=some a) (M.ts[k]?=some t) (Q ((aF (sD t.aW) (.inr z)).getD .aq) H)
def S7 (CH CS CT:Addr):Sp:=rL fun x n z H Q _=>X6 fun A L M (k:Nat) a t=>A8 (aI CH CS CT H A L M) (A.a=x) (n=(k:Int)) (L[k]?=some a) (M.ts[k]?=some t) (fA (.str z)=true) (z.length<=1000) (∀ H',ah H H'->Q ((aF (sD t.aW) (.inr z)).getD .aq) H')
abbrev adU:l7:=fun _ _ _ _ _ t H Q=>t.aW.length < 64/\∀ l,H l=none->Q (.ref l) (upd H l (.lst ((Ja (t.aW.map (·.1))).map V.str)))
abbrev Kx:l7:=fun _ _ _ _ _ t H Q=>(t.cS=[]/\Q .aq H)\/∃ f z,t.cS=[(f,z)]/\∀ p,H p=some (.tup [.int (f:Nat),.str z])->Q (.ref p) H
abbrev xG:l7:=fun _ _ _ _ _ t H Q=>Q (.str t.kd) H
abbrev adR:l7:=fun _ _ _ _ _ t H Q=>Q (.str t.ow) H
abbrev Jz:l7:=fun _ _ _ _ _ t H Q=>Q (.str t.tx) H
abbrev adW:l7:=fun _ _ _ _ _ t H Q=>∀ l,H l=none->Q (.ref l) (upd H l (.tup [.str t.mi,.str t.re]))
abbrev XU:l7:=fun _ _ _ _ _ _ H Q=>Q .aq H
def GA (CH CS CT CA:Addr):Sp:=xw fun x v H Q E=>X3 fun A L M=>A5 (aI CH CS CT H A L M) (A.a=x) (∃ T,clsName H v=some T) (∀ z,v=.str z->(aF (sD M.ro) (.inr z)).isSome=true->Q .aq H) ((∀ z,v=.str z->aF (sD M.ro) (.inr z)=none)->E (.ref CA) none H)
def adn (CH CS CT:Addr):Sp:=kh fun x z H Q _=>X4 fun A L M (r:Nat)=>A4 (aI CH CS CT H A L M) (A.a=x) (aF (sD M.ro) (.inr z)=some (.int r)) (Q (.int r) H)
def cE (t:Th) (vx:Str):Str:=if vx=t.ow then t.mi else t.re
def Ye (CT:Addr):Sp:=kh fun x z H Q _=>X3 fun a i t=>A3 (jS CT H a i t) (a.th=x) (Q (.str (cE t z)) H)
def jN (v:V):Bool:=decide (v=.str "l") || decide (v=.str "g") || decide (v=.str "w")
def Y5 (CR:Addr):Sp:=mz fun v H Q E=>A3 (∃ T,clsName H v=some T) (jN v=true->Q .aq H) (jN v=false->E (.ref CR) none H)
def bx (s:Str) (z:Str):Bool:=!(Builtin.Str.occurrences z s 0 z.length 1).isEmpty
def IZ (CH CS CT CA CR CN:Addr):Sp:=Cp fun x w v r H Q E=>X3 fun A L M=>A7 (aI CH CS CT H A L M) (A.a=x) (∃ T,clsName H w=some T) (∃ T,clsName H v=some T) (∃ T,clsName H r=some T) ((∀ z,w=.str z->aF (sD M.ro) (.inr z)=none)->E (.ref CA) none H) (∀ z,w=.str z->(aF (sD M.ro) (.inr z)).isSome=true->(jN r=false->E (.ref CR) none H) /\
    ∀ s,r=.str s->jN r=true->((∀ k:Nat,v=.int k->¬ k < M.ts.length)->E (.ref CN) none H)/\∀ (k:Nat) t,v=.int k->M.ts[k]?=some t->Q (.bl (bx s (cE t z))) H)
local macro_rules | `(tactic| walk_at "rd")=>`(tactic| dsimp only [eW,Dx,DL,DB,mB,fM,C5,cI,tC,cL,BR,xC,oi,qi,lV,C4,v8,B3,Ba,yG,Ds,pZ,ee,mF,xr,wj,xm,cN,zc,BN,zt,Dy,wg,DJ,vi,AL,S8,UG,ack,abE,mS,vk,Br,AG,Co,zL,abB,O7,AH,rJoin,zx,zW,rK,CY,vH,tY,Bx,Lz,Dt,RV,Zj,Ck,CV,DZ,zI,r9,uq,zr,BB,B4,yK,AU,An,Y9,T2,Up,Uj,BW,Cw,Ab,zF,zS,yP,zJ,yR,iM,yO,Bt,GY,Ends.DM,CU,Ap,zO,zH,Dk,Ao,BC,BV,YO,uk,abA,VC,YR,J5,Ci,DK,AE,yH,gT,Cg,BE,Cr,zl,OR,Ac,aa1,Pg,Uo,aam,xg,Ar,yL,Cs,BK,RW,Gy,ij,wM,OZ,List.getElem?_cons_zero,List.getElem?_cons_succ,List.set_cons_zero,List.set_cons_succ,List.cons_append,List.nil_append])
local macro_rules | `(tactic| walk_at "w")=>`(tactic| (first | walk_at "rd" | skip))
local macro_rules | `(tactic| left)=>`(tactic| walk_at "w")
local macro_rules | `(tactic| right)=>`(tactic| (refine ai ?_;left))
local macro_rules | `(tactic| symm)=>`(tactic| decide +kernel)
local macro_rules | `(tactic| walk_at "f")=>`(tactic| (refine _o (m:=40) ?_ (by decide);(repeat (refine bV ?_));exact Da _))
local macro_rules | `(tactic| walk_at "c")=>`(tactic| (repeat (first | exact trivial | (refine ⟨fun z=>(by first | exact ⟨_,rfl⟩ | (rcases z with z | z <;> cases z)),?_⟩))))
open Dv (aa ae ao aO aP aS aZ bt bu bI bQ bP cQ de fi fB gp aq iD ig jd jo jI jH jV mQ lW oj ot nR nY oH nH qN pG uL sd uJ vU xq wD BD Bu BH BO DY Mq GH HK HP LL LH JF K7 K0 Mj KS Km B9 VB ZS YT aay U6 aaU VR Ua Zn K4 Pb abL Rg ZM Dn acj)
abbrev ac:=@Dv.v
abbrev ad:=@Dv.cut
abbrev am:=@Dv.str
abbrev ap:=@Dv.fld
abbrev bi:=@Dv.int
abbrev bn:=@Dv.call
abbrev ce:=@Dv.nil
abbrev ci:=@Dv.ix
abbrev cr:=@Dv.lst
abbrev db:=@Dv.op
abbrev dl:=@Dv.glob
abbrev dL:=@Dv.bl
abbrev em:=@Dv.cmp
abbrev f8:=@Dv.w_or
abbrev ii:=@Dv.one
abbrev im:=@Dv.make
abbrev io:=@Dv.un
abbrev jp:=@Dv.w_and
abbrev kt:=@Dv.slice
section
variable {P:Program} {w:World} {K:ν} {mg:Str->Option Value} {base:Heap}
variable (T:Tx K mg)
def zp:T.iy.k P w base 1 (Yc K):=by
 refine T.iy.F.ok Py (fun _ _ _ _ h=>gF h fun _ _=>rfl) fun _ A _ s H vs Q E hr h=>gF h fun x h=>?_;obtain ⟨⟨ty,h1⟩,lJ,q⟩:=h;refine ⟨_,((ad (aZ (fi (f8 (de (cQ (bQ jg T.dP dJ (aa (ac 0) (aa (iD (.ty "str") T.kN kH rfl) ae))))) (jd (de (vU kZ kZ bi (bQ (kX (K:=K) rfl) T.jm Ps (aa (ac 0) ae)) (dl (.int 8) T.VM ⟨_,rfl⟩)))))) (ao (aO dL)) ce)
 (ao (aO (bQ (BJ (K:=K) rfl rfl) T.zf Ct (aa (BD rfl (x:=("sign":Str)) (VB (ac 0)) (fun _ _ _ _=>by exact Bu) (fun _ _ _ _=>by exact (ig 0 (show List.Nodup (["sign"]:List Str) by decide))) (fun _ _ _ _=>by exact (em (pU (K:=K) rfl) (ac 0) (dl (.str "abcdefghijklmnopqrstuvwxyz") T.W6 ⟨_,rfl⟩))) (.of rfl (by exact trivial) (by walk_at "c") rfl (by exact trivial))) ae)))))).h,?_⟩
 refine stI [some x] ?_;refine ai ?_;walk_at "rd";simp only [h1,pQ h1];refine ⟨lq _ rfl,?_⟩;cases x with
 | str z =>
  simp only [nG,_C,Ix,_c];have hsh':z.length<=1000:=lJ;have hl:z.cps.toList.length=z.length:=by simp [Str.length]
  refine ⟨fits hsh',?_⟩;by_cases a1:1<=z.length
  ·rw [tz (show (1:Int)<=(z.length:Int) by omega)];refine bD ?_;by_cases a2:z.length<=8
   ·rw [tz (show (z.length:Int)<=8 by omega)];refine aY ?_;refine Uu (fun c=>.bl (pS.contains c)) (fits hsh') ?_ ?_
    ·intro c _ H1 _ R hR;walk_at "rd";rw [Sl,show (⟨#[c]⟩:Str)=Tx.S [c] from rfl,Tx.SD];exact hR H1 (ah.refl H1)
    ·intro H1 s1 l dC;refine ⟨_,aD.of au,z.cps.toList.map (pS.contains ·),by rw [Re];rfl,?_⟩;have e:((z.cps.toList.map (pS.contains ·)).all id)=fA (.str z):=by
      show _=isNm z.cps.toList;unfold isNm;rw [hl,tz a1,tz a2,List.all_map];rfl
     rw [e];exact q _ (s1.trans (ah.upd dC))
   ·rw [pi (show ¬ (z.length:Int)<=8 by omega)];refine bD ?_;have e:fA (.str z)=false:=by
     show isNm z.cps.toList=false;unfold isNm;rw [hl,pi a2,Bool.and_false,Ja5]
    have:=q H (ah.refl H);rw [e] at this;exact this
  ·rw [pi (show ¬ (1:Int)<=(z.length:Int) by omega)];refine aY (bD ?_);have e:fA (.str z)=false:=by
    show isNm z.cps.toList=false;unfold isNm;rw [hl,pi a1,Ja5,Ja5]
   have:=q H (ah.refl H);rw [e] at this;exact this
 | _=>exact q H (ah.refl H)
def bK {X:Cx} {b:List Stmt} {t:TS} {D:Ends} {σ:St} {H:Hp} (h:QB X b t) (q:t D σ H):∃ t,dz X b t/\t D σ H:=⟨t,h.h,q⟩
def aad:V->Bool
 | .int _=>true
 | .bl _=>true
 | _=>false
def Vs {H:Hp} {v:V} {ty:String} (h:clsName H v=some ty):w6 ty "int" = aad v:=by
 unfold clsName at h;split at h
 ·cases h;rfl
 ·cases h;rfl
 ·cases h;rfl
 ·cases h;rfl
 ·split at h
  ·cases h;rfl
  ·cases h;rfl
  ·cases h;rfl
  ·cases h
 ·cases h
def DA:T.iE.k P w base 1 Xa:=by
 refine T.iE.F.ok Vy (fun _ _ _ _ h=>gF h fun _ _=>rfl) fun _ A _ s H vs Q E hr h=>gF h fun v h=>?_;obtain ⟨⟨ty,cC⟩,q⟩:=h;refine ⟨_,((ao (aO (qN (bQ jg T.dP dJ (aa (ac 0) (aa (iD (.ty "int") T.DI Bj rfl) ae))) (ii (ZS (bQ jg T.dP dJ (aa (ac 0) (aa (iD (.ty "bool") T.g_bool Ri rfl) ae))))))))).h,?_⟩;refine stI [some v] ?_;left;simp only [cC];refine ⟨by decide,?_⟩;cases v with
 | int i=>cases cC;exact bD ⟨by decide,q⟩
 | bl b=>cases cC;exact bD ⟨by decide,q⟩
 | _ =>
  rw [Vs cC];exact aY q
def DQ:T.iJ.k P w base 2 Yq:=by
 refine T.iJ.F.ok Ry (fun _ _ _ _ h=>gF h fun _ _=>rfl) fun _ A _ s H vs Q E hr h=>gF h fun x h=>?_;obtain ⟨hc,lJ,hn,q1⟩:=h;refine ⟨_,((ao (aZ (de (cQ (bn (zp T) hr.m T.iy.m T.iy.F.kp T.iy.b .nil aC (aa (ac 0) ae)))) (ao jI) ce))).h,?_⟩;refine stI [some x] ?_;left;refine ⟨hc,lJ,fun H' s'=>?_⟩;rw [hn];exact aY (q1 H' s')
def eI:List Str:=["","l","g","w","lg","lw","gw","lgw"]
def Qu:Sp:=mx fun z H Q _=>z∈eI/\Q (.bl true) H
def UY:Sp:=mx fun z H Q _=>z∈eI/\Q .aq H
def OE {z:Str} {zs:List Str} (h:z∈zs):fO (V.str z) (zs.map V.str)=true:=by
 unfold fO;rw [List.any_map,_A];exact ⟨z,h,show (z == z)=true from beq_self_eq_true z⟩
def aaR:T.iB.k P w base 1 Qu:=by
 refine T.iB.F.ok Kl (fun _ _ _ _ h=>gz h fun _ _=>rfl) fun _ A _ s H vs Q E hr h=>gz h fun z h=>?_;obtain ⟨hz,q⟩:=h;refine ⟨_,((ao (aO (qN (bQ jg T.dP dJ (aa (ac 0) (aa (iD (.ty "str") T.kN kH rfl) ae))) (ii (em (xl (K:=K) rfl) (ac 0) (dl (.ref T.yl) T.K1 rfl))))))).h,?_⟩;refine stI [some (V.str z)] ?_;left;refine ⟨by decide,bD ⟨_,.inr (T.xx H),rfl,rfl,?_⟩⟩;rw [show [V.str "",V.str "l",V.str "g",V.str "w",V.str "lg",V.str "lw",V.str "gw",V.str "lgw"]=eI.map V.str from rfl,OE hz];exact q
def z9:T.f9.k P w base 2 UY:=by
 refine T.f9.F.ok IH (fun _ _ _ _ h=>gz h fun _ _=>rfl) fun _ A _ s H vs Q E hr h=>gz h fun z h=>?_;obtain ⟨hz,q⟩:=h;refine ⟨_,((ao (aZ (de (cQ (bn (aaR T) hr.m T.iB.m T.iB.F.kp T.iB.b .nil aC (aa (ac 0) ae)))) (ao jI) ce))).h,?_⟩;refine stI [some (V.str z)] ?_;left;exact ⟨hz,aY q⟩
def Qs (v:V):fO v [V.str "l",V.str "g",V.str "w"]=jN v:=by
 unfold fO jN;simp only [Wp,List.any_nil,Jac];have key:∀ z:Str,fR (.str z) v=decide (v=.str z):=fun z=>by
  cases v with
  | str y =>
   show (z == y)=decide (V.str y=V.str z);by_cases e:z=y
   ·subst e;simp
   ·rw [pi (by intro h;injection h with h;exact e h.symm)];exact EQ.mpr e
  | _=>rfl
 rw [key,key,key,Bool.or_assoc]
def acD:aA P w K mg base (bC P w) 1 T.qH.f T.qH.d ["text"] (Y5 T.cm):=by
 refine T.qH.F.c7 T8 (fun _ _ _ _ h=>gF h fun _ _=>rfl) fun _ A _ s H vs Q E hr h=>gF h fun v h=>?_;obtain ⟨⟨ty,cC⟩,q1,q2⟩:=h;refine ⟨_,((ao (aZ (fi (f8 (de (cQ (bQ jg T.dP dJ (aa (ac 0) (aa (iD (.ty "str") T.kN kH rfl) ae))))) (jd (bt (zT (K:=K) rfl) (ac 0) (dl (.ref T.Ez) T.QZ rfl))))) (ao (mQ lS rfl T.zQ T.Lu (aa am ae))) ce))).h,?_⟩;refine stI [some v] ?_;left;simp only [cC,pQ cC];refine ⟨lq _ rfl,?_⟩;cases v with
 | str z =>
  simp only [nG,_C,Ix,_c];refine ⟨_,.inr (T.Bh H),rfl,rfl,?_⟩;rw [Qs];cases ho:jN (.str z) with
  | true=>exact aY (q1 ho)
  | false=>exact bD ⟨fits (by simp),q2 ho⟩
 | _=>exact ⟨fits (by simp),q2 rfl⟩
def HB:T.kE.k P w base 2 (UT K):=by
 refine T.kE.F.ok Y4 (fun _ _ _ _ h=>gz h fun _ _=>rfl) fun _ A _ s H vs Q E hr h=>gz h fun z h=>?_;obtain ⟨w',rfl,hw,q⟩:=h;refine ⟨_,((ao (aO (Mq (em (xl (K:=K) rfl) (ac 0) (dl (.ref T.Fh) T.acI rfl)) (ii (bn (zp T) hr.m T.iy.m T.iy.F.kp T.iy.b .nil aC (aa (ac 0) ae))))))).h,?_⟩;refine stI [some (V.str (Tx.S w'))] ?_;walk_at "rd";refine ⟨_,.inr (T.B6 H),rfl,rfl,?_⟩;have e:fO (V.str (Tx.S w')) [V.str ".",V.str ".."]=(decide (w'=[46]) || decide (w'=[46,46])):=by
  rw [show Str.ofString "." = Tx.S [46] from by symm,show Str.ofString ".." = Tx.S [46,46] from by symm];unfold fO fR;simp only [Wp,List.any_nil,Jac];have b:∀ m:List Nat,(Tx.S m == Tx.S w')=decide (w'=m):=fun m=>by
   by_cases h:w'=m
   ·rw [h];simp
   ·have:Tx.S m≠Tx.S w':=fun e=>h (Tx.Gg e).symm;rw [pi h];exact EQ.mpr this
  rw [b,b]
 rw [e];cases hd:(decide (w'=[46]) || decide (w'=[46,46])) with
 | true =>
  refine bD ?_;have:=q H (ah.refl H);unfold ej at this;rw [hd] at this;exact this
 | false =>
  refine aY ?_;refine ⟨⟨_,rfl⟩,(by show (Tx.S w').length<=1000;rw [Tx.eB];exact hw),fun H' s'=>?_⟩;have:=q H' s';unfold ej at this;rw [hd,Bool.false_or] at this;have e2:fA (V.str (Tx.S w'))=isNm w':=by show isNm _=_;rw [Tx.kg]
  rw [e2];exact this
def nz:V->Bool
 | .str z=>!decide (z=Tx.S [])
 | _=>false
def uO:V->V
 | .str z=>.bl (ej z.cps.toList)
 | _=>.bl false
def Jo (t:List Nat):((((Tx.cut 47 t).map Tx.S).map V.str).filter nz).map id=PV (Tx.words 47 t):=by
 rw [List.map_id,List.filter_map];show ((((Tx.cut 47 t).map Tx.S)).filter _).map V.str=_
 congr 1
 rw [<- Tx.RH];refine List.filter_congr fun z _=>?_;show (!decide (z=Tx.S []))=decide (z≠Tx.S []);by_cases h:z=Tx.S [] <;> simp [h]
def HX (ps:List (List Nat)):((PV ps).filter (fun _=>true)).map uO=(ps.map ej).map V.bl:=by
 rw [List.filter_eq_self.mpr (fun _ _=>rfl),PV,Re,Re,Re];refine List.map_congr_left fun w' _=>?_;show V.bl (ej (Tx.S w').cps.toList)=V.bl (ej w');rw [Tx.kg]
def qJ:T.dQ.k P w base 3 (aaS K):=by
 refine T.dQ.F.ok wI (fun _ _ _ _ h=>gz h fun _ _=>rfl) fun _ A _ s H vs Q E hr h=>gz h fun z h=>?_;obtain ⟨t,rfl,t1,t2,jb,q⟩:=h;refine ⟨_,((ad (aZ (fi (f8 (de (cQ (bQ jg T.dP dJ (aa (ac 0) (aa (iD (.ty "str") T.kN kH rfl) ae))))) (jd (de (vU kZ kZ bi (bQ (kX (K:=K) rfl) T.jm Ps (aa (ac 0) ae)) (dl (.int 2000) T.Hj ⟨_,rfl⟩)))))) (ao jI) ce)
 (ad (GH 1 rfl wI.nd (x:=("part":Str)) (oj (K:=K) rfl (ot PySem.F.slot_str_split PySem.F.type_str_split HC (ac 0) (aa am ae))) (fun _ _ _ _=>by exact (pG (bt gq (ac 0) am))) (fun _ _ _ _=>by exact (ig 0 (show List.Nodup (["part"]:List Str) by decide))) (fun _ _ _ _=>by exact (ac 0)) (.of rfl (by exact trivial) (by walk_at "c") rfl (by exact trivial)))
 (ad (aZ (de (cQ (bQ (BJ (K:=K) rfl rfl) T.zf Ct (aa (BD rfl (x:=("part":Str)) (oj (K:=K) rfl (ac 1)) (fun _ _ _ _=>by exact Bu) (fun _ _ _ _=>by exact (ig 0 (show List.Nodup (["part"]:List Str) by decide))) (fun _ _ _ _=>by exact (bn (HB T) hr.m T.kE.m T.kE.F.kp T.kE.b .nil aC (aa (ac 0) ae))) (.of rfl (by exact trivial) (by walk_at "c") rfl (by exact trivial))) ae)))) (ao jI) ce)
 (ad (aZ (fi (jp (bt (Ic hr.kO) (ac 1) (cr ae)) (nR (cQ (ot PySem.F.slot_str_endswith PySem.F.type_str_endswith JD (ac 0) (aa am ae)))))) (ao (aS (gp AT Ch iL (ac 1) (aa am ae)))) ce)
 (ao (aO (Dv.tup (aa (ot PySem.F.slot_str_startswith PySem.F.type_str_startswith Kk (ac 0) (aa am ae)) (aa (ac 1) ae)))))))))).h,?_⟩
 refine stI [some (V.str (Tx.S t)),none] ?_;refine ai ?_;walk_at "rd";have xJ:Str.ofString "/" = Tx.S [47]:=by symm
 have e0:Str.ofString "" = Tx.S []:=by symm
 simp only [Tx.eB,xJ,e0];refine ⟨lq _ rfl,aY ⟨wl t2 (by decide),?_⟩⟩;rw [tz (show (1:Int)<=(t.length:Int) by omega),tz (show (t.length:Int)<=2000 by omega)];refine bD (aY (ai ?_));walk_at "rd";have kx:=Tx.BS 47 t;refine ⟨rfl,by rw [Tx.eB];exact wl t2 (by decide),?_,?_⟩
 ·rw [Tx.DG,Tx.lM,Tx.AN,Tx.sr,ss];exact wl (show _<=2001 by omega) (by decide)
 intro l hl;rw [Tx.Iw t 47 (by decide)];refine eC hl fun H1 s1 b1=>?_;refine ⟨⟨_,aD.of b1⟩,vw nz id (aD.of b1) (by rw [ss,ss];exact wl (show _<=2001 by omega) (by decide)) ?_ ?_ ?_⟩
 ·intro x hx H2 _ R hR;obtain ⟨z,_,rfl⟩:=Cl.mp hx;walk_at "rd";exact hR H2 (ah.refl H2)
 ·intro x hx _ H2 _ R hR;walk_at "rd";exact hR H2 (ah.refl H2)
 intro H2 s2 l2 cY;rw [Jo];have fv:H l2=none:=(s1.trans s2).free cY;refine eC cY fun H3 s3 b3=>?_;have Ei:ah H H3:=(s1.trans s2).trans s3;have m9:(Tx.words 47 t).length<=2001:=wl (Pi _ _) (by omega);refine ai ?_;walk_at "rd";refine ⟨⟨_,aD.of b3⟩,vw (fun _=>true) uO (aD.of b3) (by rw [ss,ss];exact wl m9 (by decide)) ?_ ?_ ?_⟩
 ·intro x _ H4 _ R hR;exact hR H4 (ah.refl H4)
 ·intro x hx _ H4 _ R hR;obtain ⟨z,hz,rfl⟩:=Cl.mp hx;obtain ⟨w',hw,rfl⟩:=Cl.mp hz;walk_at "rd";obtain ⟨_,_,g3⟩:=DW (LE.mp jb w' hw);refine ⟨w',rfl,by omega,fun H5 s5=>?_⟩;have:=hR H5 s5;simp only [uO,Tx.kg] at this;exact this
 intro H4 s4 l4 ky;rw [HX];refine ⟨_,aD.of au,_,rfl,?_⟩;have ea:((Tx.words 47 t).map ej).all id=true:=by rw [List.all_map];exact jb
 rw [ea];refine aY ?_;have s5:=ah.upd (o:=.lst (((Tx.words 47 t).map ej).map V.bl)) ky;generalize upd H4 l4 (.lst (((Tx.words 47 t).map ej).map V.bl))=H5 at s5 ⊢;have b5:H5 l2=some (.lst (PV (Tx.words 47 t))):=s5 _ _ (s4 _ _ b3);have Ew:ah H H5:=(Ei.trans s4).trans s5;refine c8 (fun σ' H'=>σ'=[some (V.str (Tx.S t)),some (V.ref l2)]/\ah H H'/\H' l2=some (.lst (PV (told (Tx.words 47 t) t)))) ?_ ?_
 ·walk_at "rd";refine ⟨fits (by simp),fun p hp=>?_⟩;have s6:=ah.upd (o:=.lst []) hp;have c6:upd H5 p (.lst []) p=some (.lst ((([]:List Str)).map V.str)):=au;generalize upd H5 p (.lst [])=H6 at s6 c6 ⊢;have b6:H6 l2=some (.lst (PV (Tx.words 47 t))):=s6 _ _ b5;refine ⟨(Tx.words 47 t).map Tx.S,[],b6,c6,?_⟩;by_cases yy:Tx.words 47 t=[]
  ·rw [tz (show (Tx.words 47 t).map Tx.S=[] by rw [yy];rfl)];refine aY (aY ⟨by trivial,Ew.trans s6,?_⟩);unfold told;rw [xL (fun z=>z.1 yy)];exact b6
  ·rw [pi (show ¬ (Tx.words 47 t).map Tx.S=[] by simpa using yy)];refine bD ?_;rw [Tx.aba];by_cases ym:t.getLast?=some 47
   ·rw [tz ym];refine bD ?_;simp only [b6];refine ⟨by rw [ss,ss];exact _o m9 (by decide),by trivial,eg.same (Ew.trans s6) fv eg.upd,?_⟩;unfold told;rw [At ⟨yy,ym⟩,au,show Str.ofString "." = Tx.S [46] from by symm];simp only [PV,Fr,wT,IN]
   ·rw [pi ym];refine aY ⟨by trivial,Ew.trans s6,?_⟩;unfold told;rw [xL (fun z=>ym z.2)];exact b6
 ·rintro σ' H6 ⟨rfl,s6,b6⟩;walk_at "rd";simp only [xJ,Tx.aaJ];refine ⟨fits (by simp),fun p hp=>?_⟩;exact q _ l2 p (s6.trans (ah.upd hp)) fv (Su b6 hp) au
def U7:T.sX.k P w mg base 1 (Za T.bc):=by
 refine T.sX.F.ok RT (fun _ _ _ _ h=>Gq h fun _ _ _ _ _ _ _ _=>rfl) fun _ A _ s H vs Q E hr h=>Gq h fun x n kd ow mi re tx h=>?_;obtain ⟨dx,hx,q⟩:=h;refine ⟨_,((ad (bu T.eG T.Wl (ac 0) (ac 1))
 (ad (bu T.eG T.zm (ac 0) (ac 2))
 (ad (bu T.eG T.KD (ac 0) (ac 3))
 (ad (bu T.eG T.Jl (ac 0) (ac 4))
 (ad (bu T.eG T.Lj (ac 0) (ac 5))
 (ad (bu T.eG T.zY (ac 0) (ac 6))
 (ad (bu T.eG T.y3 (ac 0) jH)
 (ao (bu T.eG T.xB (ac 0) YT)))))))))).h,?_⟩
 refine stI [some (.ref x),some n,some kd,some ow,some mi,some re,some tx] ?_;refine ai ?_;walk_at "rd";refine ⟨x,dx,_,rfl,hx,by decide,ai ?_⟩;walk_at "rd";refine ⟨x,dx,_,rfl,au,by walk_at "f",ai ?_⟩;walk_at "rd";refine ⟨x,dx,_,rfl,au,by walk_at "f",ai ?_⟩;walk_at "rd";refine ⟨x,dx,_,rfl,au,by walk_at "f",ai ?_⟩;walk_at "rd";refine ⟨x,dx,_,rfl,au,by walk_at "f",ai ?_⟩;walk_at "rd";refine ⟨x,dx,_,rfl,au,by walk_at "f",ai ?_⟩;simp only [jK];walk_at "rd";intro l1 h1;have n1:l1≠x:=fun e=>by rw [e,au] at h1;cases h1
 have h1':H l1=none:=by rw [ag n1] at h1;exact h1
 refine ⟨x,dx,_,rfl,by rw [ag (pp n1),au],by walk_at "f",fun l2 h2=>?_⟩;have n2:l2≠x:=fun e=>by rw [e,au] at h2;cases h2
 rw [ag n2] at h2;have n3:l2≠l1:=fun e=>by rw [e,au] at h2;cases h2
 rw [ag n3,ag n2] at h2;refine ⟨x,dx,_,rfl,by rw [ag (pp n2),au],by walk_at "f",?_⟩;refine q l1 l2 _ h1' h2 (pp n3) n1 n2 (fun b b1 b2 b3=>?_) ?_ ?_ _ ?_ (fun f=>?_) au
 ·rw [ag b1,ag b3,ag b1,ag b2,ag b1]
 ·rw [ag n1,ag (pp n3),ag n1,au]
 ·rw [ag n2,au]
 ·exact wl (by (repeat (refine bV ?_));exact Da _) (sK 40)
 ·rfl
def VD:T.sW.k P w mg base 1 (acZ T.aV):=by
 refine T.sW.F.ok Xx (fun _ _ _ _ h=>gG h fun _ _=>rfl) fun _ A _ s H vs Q E hr h=>gG h fun x h=>?_;obtain ⟨dx,hx,q⟩:=h;refine ⟨_,((ad (bu T.cW T.sj (ac 0) (cr ae))
 (ao (bu T.cW T.wu (ac 0) bi)))).h,?_⟩
 refine stI [some (.ref x)] ?_;refine ai ?_;walk_at "rd";refine ⟨fits (by simp),fun l hl=>?_⟩;have n1:l≠x:=fun e=>by rw [e,hx] at hl;cases hl
 refine ⟨x,dx,_,rfl,by rw [ag (pp n1)];exact hx,by decide,?_⟩;refine ⟨x,dx,_,rfl,au,by walk_at "f",?_⟩;refine q l _ hl n1 (fun b b1 b2=>?_) ?_ _ ?_ (fun f=>?_) au
 ·rw [ag b1,ag b1,ag b2]
 ·rw [ag n1,ag n1,au]
 ·exact wl (bV (bV (Da _))) (show 0+1+1<=40 by decide)
 ·rfl
def abq:T.tR.k P w mg base 1 (Ye T.bc):=by
 refine T.tR.F.ok Yx (fun _ _ _ _ h=>e9 h fun _ _ _=>rfl) fun _ A _ s H vs Q E hr h=>e9 h fun x z h=>?_;obtain ⟨a,i,t,eh,rfl,q⟩:=h;obtain ⟨fs,hx,aX,sf⟩:=eh.o;refine ⟨_,((ao (aO (HK (bt gi (ac 1) (ap T.eG T.KD (ac 0))) (ap T.eG T.Jl (ac 0)) (ap T.eG T.Lj (ac 0)))))).h,?_⟩;refine stI [some (V.ref a.th),some (V.str z)] ?_;left;refine (fI hx sf rfl ?_);dsimp only;unfold cE at q;by_cases e:z=t.ow
 ·rw [tz e];rw [At e] at q;exact bD (fI hx sf rfl q)
 ·rw [pi e];rw [xL e] at q;exact aY (fI hx sf rfl q)
def IP:T.nE.k P w mg base 3 (Xl T.aV T.bc):=by
 refine T.nE.F.ok Ma (fun _ _ _ _ h=>Jw h fun _ _ _ _ _ _ _=>rfl) fun _ A _ s H vs Q E hr h=>Jw h fun x kd ow mi re tx h=>?_;obtain ⟨dt,ml,rs,⟨⟨fs,c,hx,aX,sf⟩,iX⟩,iY,q⟩:=h;refine ⟨_,((ad (jV T.cW T.wu jW (ac 0) bi)
  (ad (aP 6 Ma.nd (bQ (kX (K:=K) rfl) T.jm Ps (aa (ap T.cW T.sj (ac 0)) ae)))
  (ad (aS (gp AT Ch iL (ap T.cW T.sj (ac 0)) (aa (im T.acP (U7 T) hr.m T.T1 T.sX.b .nil aC (aa (ac 6) (aa (ac 1) (aa (ac 2) (aa (ac 3) (aa (ac 4) (aa (ac 5) ae))))))) ae)))
  (ao (aO (ac 6))))))).h,?_⟩
 refine stI [some (.ref x),some kd,some ow,some mi,some re,some tx,none] ?_;have cM:ml≠x:=fun e=>by rw [e,hx] at iX;cases iX
 refine ai ?_;walk_at "rd";refine ⟨x,dt,fs,.int c,rfl,hx,(sf _).trans rfl,_,_,rfl,rfl,dt,fs,hx,by omega,ai ?_⟩;have dE:dh (ax "changes" (.int (c+1)) fs) (sU ml (c+1)):=fun f=>by rw [(sf.put "changes" (.int (c+1))) f];rfl
 have jt:(ax "changes" (.int (c+1)) fs).length<=41:=bV aX;have bB:upd H x (.ins T.aV dt (ax "changes" (.int (c+1)) fs)) x=some (.ins T.aV dt (ax "changes" (.int (c+1)) fs)):=au;have lD:upd H x (.ins T.aV dt (ax "changes" (.int (c+1)) fs)) ml=some (.lst rs):=by rw [ag cM];exact iX
 have i0:Kp [x] H (upd H x (.ins T.aV dt (ax "changes" (.int (c+1)) fs))):=fun b o hb e=>by rw [ag (fun z=>hb (by simp [z]))];exact e
 have oN:∀ b,b≠x->upd H x (.ins T.aV dt (ax "changes" (.int (c+1)) fs)) b=H b:=fun b hb=>ag hb;generalize upd H x (.ins T.aV dt (ax "changes" (.int (c+1)) fs))=H1 at bB lD i0 oN ⊢;walk_at "rd";refine ⟨x,dt,_,.ref ml,rfl,bB,(dE _).trans rfl,?_⟩;simp only [bU,lD];refine ai ?_;walk_at "rd";refine ⟨x,dt,_,.ref ml,rfl,bB,(dE _).trans rfl,?_⟩;simp only [lD];intro th dN aK hdth jA;refine ⟨dN,au,fun nm pl H2 cH bY hnp hn1 fv fr2 hnm2 hpl2 ks mZ sk hth2=>⟨rfl,?_⟩⟩;have E5:∀ b o,H1 b=some o->upd (upd H1 dN (HO.own th)) th (HO.ins T.bc dN []) b=some o:=fun b o e=>by
  rw [ag (aG e aK),ag (aG e hdth)];exact e
 have EK:∀ b o,H1 b=some o->H2 b=some o:=fun b o e=>by
  rw [fr2 b (aG e aK) (aG (E5 b o e) cH) (aG (E5 b o e) bY)];exact E5 b o e
 have dn:∀ d,d≠th->upd (upd H1 dN (HO.own th)) th (HO.ins T.bc dN []) d=none->H1 d=none:=fun d n e=>by
  rw [ag n] at e;by_cases z:d=dN
  ·rw [z,au] at e;cases e
  ·rw [ag z] at e;exact e
 have Og:=dn nm hn1 cH;have Na:=dn pl fv bY;have Fd:∀ d,H1 d=none->H d=none:=fun d e=>by rw [<- oN d (pp (aG bB e))];exact e
 simp only [EK _ _ lD];refine ⟨jO (by omega),?_⟩;refine q th dN nm pl ks _ (Fd _ aK) (Fd _ Og) (Fd _ Na) ⟨⟨_,c+1,by rw [ag (pp cM)];exact EK _ _ bB,?_,dE⟩,au⟩ (by rw [ag (pp (aG lD aK))];exact hth2) mZ sk
  (by rw [ag (pp (aG lD Og))];exact hnm2) (by rw [ag (pp (aG lD Na))];exact hpl2) (fun b o hb e=>?_)
 ·rw [g9 (u:=.int c) ((sf _).trans rfl)];exact aX
 ·simp only [lv,mo,wP,UV] at hb;rw [ag hb.2];exact EK _ _ (i0 b o (by simp [hb.1]) e)
def adm:T.uE.k P w mg base 4 (abV T.aV T.bc):=by
 refine T.uE.F.ok Yj (fun _ _ _ _ h=>xk h fun _ _ _ _ _=>rfl) fun _ A _ s H vs Q E hr h=>xk h fun x ow mi re h=>?_;obtain ⟨dt,ml,rs,at',iY,q⟩:=h;obtain ⟨fs,c,hx,aX,sf⟩:=at'.o;refine ⟨_,((ao (aO (bI T.cW T.nE.h (IP T) hr.m T.nE.b .nil aC (ac 0) (aa (dl (.str "folder") T.tQ ⟨_,rfl⟩) (aa (ac 1) (aa (ac 2) (aa (ac 3) (aa am ae))))))))).h,?_⟩;refine stI [some (.ref x),some ow,some mi,some re] ?_;left;exact ⟨x,dt,fs,rfl,hx,(sf _).trans rfl,dt,ml,rs,at',iY,q⟩
def kF:aA P w K mg base (bC P w) 2 T.eE.f T.eE.d ["self","number"] (Ly T.aL T.aV T.bc T.fE):=by
 refine T.eE.F.c7 VZ (fun _ _ _ _ h=>qP h fun _ _ _=>rfl) fun _ A _ s H vs Q E hr h=>qP h fun x v h=>?_;obtain ⟨AA,L,M,i,rfl,kx,q1,q2⟩:=h;obtain ⟨fs,c,hx,aX,sf⟩:=i.t;refine ⟨_,((ad (aZ (fi (f8 (de (cQ (bn (DA T) hr.m T.iE.m T.iE.F.kp T.iE.b .nil aC (aa (ac 1) ae)))) (jd (de (vU kZ pW bi (ac 1) (bQ (kX (K:=K) rfl) T.jm Ps (aa (ap T.cW T.sj (ac 0)) ae))))))) (ao (mQ lS rfl T.IX T.VE (aa am ae))) ce)
 (ao (aO (ci (bG (K:=K) rfl) (ap T.cW T.sj (ac 0)) (ac 1)))))).h,?_⟩
 refine stI [some (.ref AA.t),some v] ?_;right;refine ⟨kx,?_⟩;cases v with
 | int n =>
  simp only [IU,_C,Ix,_c];refine vE (fun h0=>?_) (fun h0=>bD ⟨fits (by simp),q2 fun j e=>?_⟩)
  ·have h0':0<=n:=of_decide_eq_true h0;refine ⟨AA.t,_,_,.ref AA.ml,rfl,hx,(sf _).trans rfl,?_⟩;simp only [bU,i.ml,ss,i.len];obtain ⟨k,rfl⟩:=_L h0';by_cases hk:k < M.ts.length
   ·rw [tz (show (k:Int) < (M.ts.length:Int) by omega)];refine aY ⟨AA.t,_,_,.ref AA.ml,rfl,hx,(sf _).trans rfl,?_⟩;simp only [bU,i.ml];have MX:k < L.length:=by rw [i.len];exact hk
    rw [oJ (xs:=L.map fun a=>V.ref a.th) (j:=k) (by rw [Ev,ut MX];rfl)];exact q1 k _ _ rfl (ut MX) (ut hk)
   ·rw [pi (show ¬ (k:Int) < (M.ts.length:Int) by omega)];refine bD ⟨fits (by simp),q2 fun j e=>?_⟩;injection e with e;have:k=j:=by omega
    rw [<- this];exact hk
  ·injection e with e;exact absurd (tz (show (0:Int)<=n by omega)) h0
 | _=>exact ⟨fits (by simp),q2 fun k e=>by cases e⟩
section
variable {T:Tx K mg} {H:Hp} {A:Ad} {L:List Ta} {M:Hs}
def mw {k:Nat} {a:Ta} {t:Th} {Q:VK} {E:XK} (i:aI T.aL T.aV T.bc H A L M) (ha:L[k]?=some a) (ht:M.ts[k]?=some t) (q:Q (.ref a.th) H):Ly T.aL T.aV T.bc T.fE [.ref A.t,.int (k:Int)] H Q E :=
 ⟨A,L,M,i,rfl,⟨_,rfl⟩,fun j a' t' e h1 h2=>by
  injection e with e;have:k=j:=by omega
  subst this;rw [ha] at h1;cases h1;exact q,fun h=>absurd (ul.mp ht).1 (h k rfl)⟩
def gj {k:Nat} {a:Ta} {t:Th} (i:aI T.aL T.aV T.bc H A L M) (ha:L[k]?=some a) (ht:M.ts[k]?=some t):jS T.bc H a k t:=by
 obtain ⟨a',e,h⟩:=i.th k t ht;rw [ha] at e;cases e;exact h
end
def KR:T.nt.k P w mg base 3 (acy T.aL T.aV T.bc Ad.t):=by
 refine T.nt.F.ok O1 (fun _ _ _ _ h=>mO h fun _ _ _ _=>rfl) fun _ A _ s H vs Q E hr h=>mO h fun x n z h=>?_;obtain ⟨AA,L,M,k,a,t,i,rfl,rfl,ha,aK,q⟩:=h;obtain ⟨fs,c,hx,aX,sf⟩:=i.h;obtain ⟨gs,c2,ht,fm,sg⟩:=i.t;have eh:=gj i ha aK;obtain ⟨ks,ho,lK,so⟩:=eh.o;refine ⟨_,((ao (aO (aay (er hr) (ap T.eG T.y3 (fB T.cW T.eE.h (kF T) hr.m T.eE.b .nil eN (ac 0) (aa (ac 1) ae))) (ac 2))))).h,?_⟩;refine stI [some (V.ref AA.t),some (V.int (k:Int)),some (V.str z)] ?_;left;refine (mI ht sg (mw i ha aK ⟨a.th,_,_,.ref a.nm,rfl,ho,(so _).trans rfl,a.nm,rfl,.inl ⟨_,.inl eh.nm⟩,_,ei.k (k:=.inr z) eh.nm,q⟩))
def Rq:T.rX.k P w mg base 3 (pB T.aL T.aV T.bc Ad.t Kx):=by
 refine T.rX.F.ok TV (fun _ _ _ _ h=>dj h fun _ _ _=>rfl) fun _ A _ s H vs Q E hr h=>dj h fun x n h=>?_;obtain ⟨AA,L,M,k,a,t,i,rfl,rfl,ha,aK,q⟩:=h;obtain ⟨fs,c,hx,aX,sf⟩:=i.h;obtain ⟨gs,c2,ht,fm,sg⟩:=i.t;have eh:=gj i ha aK;obtain ⟨ks,ho,lK,so⟩:=eh.o;refine ⟨_,((ao (aO (Dv.minD rfl T.Gk (ap T.eG T.xB (fB T.cW T.eE.h (kF T) hr.m T.eE.b .nil eN (ac 0) (aa (ac 1) ae))))))).h,?_⟩;refine stI [some (V.ref AA.t),some (V.int (k:Int))] ?_;left;refine (mI ht sg (mw i ha aK ⟨a.th,_,_,.ref a.pl,rfl,ho,(so _).trans rfl,a.pl,_,rfl,eh.pl,?_⟩));rcases q with ⟨e,q⟩ | ⟨f,z,e,q⟩
 ·rw [e];exact .inl ⟨rfl,q⟩
 ·rw [e];exact .inr ⟨_,_,rfl,q⟩
def wL:T.je.k P w mg base 3 (pB T.aL T.aV T.bc Ad.a xG):=by
 refine T.je.F.ok W9 (fun _ _ _ _ h=>dj h fun _ _ _=>rfl) fun _ A _ s H vs Q E hr h=>dj h fun x n h=>?_;obtain ⟨AA,L,M,k,a,t,i,rfl,rfl,ha,aK,q⟩:=h;obtain ⟨fs,c,hx,aX,sf⟩:=i.h;obtain ⟨gs,c2,ht,fm,sg⟩:=i.t;have eh:=gj i ha aK;obtain ⟨ks,ho,lK,so⟩:=eh.o;refine ⟨_,((ao (aO (ap T.eG T.zm (fB T.cW T.eE.h (kF T) hr.m T.eE.b .nil eN (ap T.aN T.jn (ac 0)) (aa (ac 1) ae)))))).h,?_⟩;refine stI [some (V.ref AA.a),some (V.int (k:Int))] ?_;left;exact ⟨AA.a,_,_,.ref AA.t,rfl,hx,(sf _).trans rfl,AA.t,_,_,rfl,ht,(sg _).trans rfl,mw i ha aK (fI ho so rfl q)⟩
def C3:T.kU.k P w mg base 4 (pB T.aL T.aV T.bc Ad.a Kx):=by
 refine T.kU.F.ok Yy (fun _ _ _ _ h=>dj h fun _ _ _=>rfl) fun _ A _ s H vs Q E hr h=>dj h fun x n h=>?_;obtain ⟨AA,L,M,k,a,t,i,rfl,rfl,ha,aK,q⟩:=h;obtain ⟨fs,c,hx,aX,sf⟩:=i.h;obtain ⟨gs,c2,ht,fm,sg⟩:=i.t;have eh:=gj i ha aK;obtain ⟨ks,ho,lK,so⟩:=eh.o;refine ⟨_,((ao (aO (bI T.cW T.rX.h (Rq T) hr.m T.rX.b .nil aC (ap T.aN T.jn (ac 0)) (aa (ac 1) ae))))).h,?_⟩;refine stI [some (V.ref AA.a),some (V.int (k:Int))] ?_;left;exact ⟨AA.a,_,_,.ref AA.t,rfl,hx,(sf _).trans rfl,AA.t,_,_,rfl,ht,(sg _).trans rfl,AA,L,M,k,a,t,i,rfl,rfl,ha,aK,q⟩
def Vb:T.si.k P w mg base 3 (pB T.aL T.aV T.bc Ad.a XU):=by
 refine T.si.F.ok ZQ (fun _ _ _ _ h=>dj h fun _ _ _=>rfl) fun _ A _ s H vs Q E hr h=>dj h fun x n h=>?_;obtain ⟨AA,L,M,k,a,t,i,rfl,rfl,ha,aK,q⟩:=h;obtain ⟨fs,c,hx,aX,sf⟩:=i.h;obtain ⟨gs,c2,ht,fm,sg⟩:=i.t;have eh:=gj i ha aK;obtain ⟨ks,ho,lK,so⟩:=eh.o;refine ⟨_,((ao (aS (fB T.cW T.eE.h (kF T) hr.m T.eE.b .nil eN (ap T.aN T.jn (ac 0)) (aa (ac 1) ae))))).h,?_⟩;refine stI [some (V.ref AA.a),some (V.int (k:Int))] ?_;left;exact ⟨AA.a,_,_,.ref AA.t,rfl,hx,(sf _).trans rfl,AA.t,_,_,rfl,ht,(sg _).trans rfl,mw i ha aK q⟩
section
variable {CH CS CT:Addr} {H:Hp} {A:Ad} {L:List Ta} {M:Hs}
def aI.uA (i:aI CH CS CT H A L M) {k:Nat} {a:Ta} (ha:L[k]?=some a):∀ b∈A.w,∀ c∈a.l,b≠c:=fun b hb c hc=>by
 have nd:=i.nd;rw [GT] at nd;exact nd.2.2 b hb c (ir ha hc)
def aI.aT (i:aI CH CS CT H A L M):A.a≠A.t:=by
 have nd:=i.nd;rw [GT] at nd;have:=(Do.mp nd.1).1;exact fun e=>this (by rw [e];simp)
def GD:∀ {L:List Ta} {k:Nat} {a:Ta},(L.flatMap Ta.l).Nodup->L[k]?=some a->a.l.Nodup
 | c::r,0,a,nd,h=>by
  rw [Ty,GT] at nd;simp only [List.getElem?_cons_zero,Option.some.injEq] at h;subst h;exact nd.1
 | c::r,k+1,a,nd,h=>by
  rw [Ty,GT] at nd;simp only [List.getElem?_cons_succ] at h;exact GD nd.2.1 h
def aI.own (i:aI CH CS CT H A L M) {k:Nat} {a:Ta} (ha:L[k]?=some a):a.th≠a.nm/\a.th≠a.pl/\a.nm≠a.pl:=by
 have nd:=i.nd;rw [GT] at nd;have:=GD nd.2.1 ha;simp only [Ta.l,Do,lv,mo,wP,UV,_R,_Q,and_true] at this;exact ⟨this.1.1,this.1.2,this.2⟩
end
def ac5 (CH CS CT:Addr):Sp:=rL fun x n z H Q _=>X6 fun A L M (k:Nat) a t=>A7 (aI CH CS CT H A L M) (A.t=x) (n=(k:Int)) (L[k]?=some a) (M.ts[k]?=some t) (aF (sD t.aW) (.inr z)=none) (Q .aq H)
def Wa:T.uu.k P w mg base 4 (ac5 T.aL T.aV T.bc):=by
 refine T.uu.F.ok Ji (fun _ _ _ _ h=>mO h fun _ _ _ _=>rfl) fun _ A _ s H vs Q E hr h=>mO h fun x n z h=>?_;obtain ⟨AA,L,M,k,a,t,i,rfl,rfl,ha,aK,hv,q⟩:=h;obtain ⟨gs,c2,ht,fm,sg⟩:=i.t;refine ⟨_,((ad (aP 3 Ji.nd (bI T.cW T.nt.h (KR T) hr.m T.nt.b .nil aC (ac 0) (aa (ac 1) (aa (ac 2) ae))))
 (ao (aZ (bt GG (ac 3) aq) (ad jI
 (ad jI
 (ao jI))) ce)))).h,?_⟩
 refine stI [some (V.ref AA.t),some (V.int (k:Int)),some (V.str z),none] ?_;right;refine (mI ht sg ⟨AA,L,M,k,a,t,i,rfl,rfl,ha,aK,?_⟩);rw [hv];refine ⟨by trivial,?_⟩;exact aY q
def Sy (CH CS CT:Addr):Sp:=IV fun x fn z kn H Q _=>X9 fun A L M (f:Nat) (k:Nat) af tf ak tk=>zq (aI CH CS CT H A L M) (A.t=x) (fn=(f:Int)) (kn=(k:Int)) (L[f]?=some af) (M.ts[f]?=some tf) (L[k]?=some ak) (M.ts[k]?=some tk) (f≠k) (aF (sD tf.aW) (.inr z)=none) (tf.aW.length<=500) (tk.cS=[]) (∀ H',aI CH CS CT H' A L { M with ts:=(M.ts.set f { tf with aW:=tf.aW++[(z,k)] }).set k { tk with cS:=[(f,z)] } }->Kp [A.t,af.nm,ak.pl] H H'->Q .aq H')
def AZ {l:List (Str×Nat)} {z:Str} {k:Nat} (h:aF (sD l) (.inr z)=none):putK (sD l) (.inr z) (.int (k:Int))=sD (l++[(z,k)]):=by
 have e:((sD l).any fun kv=>decide (kv.1=(Sum.inr z:Key)))=false:=by rw [xp,h];rfl
 unfold putK;rw [e];simp [sD]
def aar:T.tV.k P w mg base 5 (Sy T.aL T.aV T.bc):=by
 refine T.tV.F.ok vz (fun _ _ _ _ h=>Hc h fun _ _ _ _ _=>rfl) fun _ A _ s H vs Q E hr h=>Hc h fun x fn z kn h=>?_;obtain ⟨AA,L,M,f,k,af,tf,ak,tk,i,rfl,rfl,rfl,iZ,cU,gK,fe,hfk,hv,yp,bY,q⟩:=h;obtain ⟨fs,c,hx,aX,sf⟩:=i.h;obtain ⟨gs,c2,ht,fm,sg⟩:=i.t;have Nr:=gj i gK fe;obtain ⟨ks,ho,lK,so⟩:=Nr.o;refine ⟨_,((ad (aP 4 vz.nd (fB T.cW T.eE.h (kF T) hr.m T.eE.b .nil eN (ac 0) (aa (ac 3) ae)))
 (ad (jV T.cW T.wu jW (ac 0) bi)
 (ad (aS (bI T.cW T.uu.h (Wa T) hr.m T.uu.b .nil aC (ac 0) (aa (ac 1) (aa (ac 2) ae))))
 (ad (aZ (bt gq (ap T.eG T.zm (ac 4)) (dl (.str "file") T.DP ⟨_,rfl⟩)) (ao (HP _q rfl (oj (K:=K) rfl (xq (Wt rfl) T.sT GP (aa (ap T.eG T.xB (ac 4)) ae))) (U6 (K:=K) (n:=2) rfl rfl (LL (ig 5 vz.nd) (LL (ig 6 vz.nd) aaU))) (ao jI))) ce)
 (ad (nY (er hr) (ap T.eG T.y3 (fB T.cW T.eE.h (kF T) hr.m T.eE.b .nil eN (ac 0) (aa (ac 1) ae))) (ac 2) (ac 3))
 (ao (nY (er hr) (ap T.eG T.xB (ac 4)) (Dv.tup (aa (ac 1) (aa (ac 2) ae))) dL)))))))).h,?_⟩
 refine stI [some (V.ref AA.t),some (V.int (f:Int)),some (V.str z),some (V.int (k:Int)),none,none,none] ?_;right;refine (mI ht sg (mw i gK fe ?_));right;refine ⟨AA.t,_,_,.int c2,rfl,ht,(sg _).trans rfl,_,_,rfl,rfl,_,_,ht,by omega,ai ?_⟩;have tn:∀ b∈ak.l,AA.t≠b:=i.uA gK _ (by simp [Ad.w]);have i1:aI T.aL T.aV T.bc (upd H AA.t (.ins T.aV AA.dt (ax "changes" (.int (c2+1)) gs))) AA L M:=by
  have w:=i.write (H':=upd H AA.t (.ins T.aV AA.dt (ax "changes" (.int (c2+1)) gs))) (t':=tk) gK ⟨fs,c,by rw [ag i.aT];exact hx,aX,sf⟩ ⟨_,c2+1,au,by rw [g9 (u:=.int c2) ((sg _).trans rfl)];exact fm,fun f=>by rw [(sg.put "changes" (.int (c2+1))) f];rfl⟩
   (Nr.keep (W:=[AA.t]) (fun b o hb e=>by rw [ag (fun z=>hb (by simp [z]))];exact e) fun b hb=>by simp [pp (tn b hb)]) (fun b o hb e=>by simp only [lv,mo,wP,UV] at hb;rw [ag hb.2.1];exact e)
  have e:M.ts.set k tk=M.ts:=by
   apply List.ext_getElem?;intro j;by_cases hj:k=j
   ·subst hj;rw [On (ul.mp fe).1,fe]
   ·rw [No hj]
  rw [e] at w;exact w
 have i0:Kp [AA.t] H (upd H AA.t (.ins T.aV AA.dt (ax "changes" (.int (c2+1)) gs))):=fun b o hb e=>by rw [ag (fun z=>hb (by simp [z]))];exact e
 generalize upd H AA.t (.ins T.aV AA.dt (ax "changes" (.int (c2+1)) gs))=H1 at i1 i0 ⊢;obtain ⟨gs1,c3,iP,Oz,Ec⟩:=i1.t;have NA:=gj i1 gK fe;have ithf1:=gj i1 iZ cU;obtain ⟨ks1,MB,hol1,MZ⟩:=NA.o;obtain ⟨iQ,dF,jt,dE⟩:=ithf1.o;left;refine (mI iP Ec ⟨AA,L,M,f,af,tf,i1,rfl,rfl,iZ,cU,hv,?_⟩);refine c8 (fun σ' H'=>ah H1 H'/\∃ t5 t6,σ'=[some (V.ref AA.t),some (V.int (f:Int)),some (V.str z),some (V.int (k:Int)),some (.ref ak.th),t5,t6]) ?_ ?_
 ·left;refine (fI MB MZ rfl ?_);refine vE (fun _=>?_) (fun _=>⟨ah.refl _,_,_,rfl⟩);refine (fI MB MZ rfl ?_);have Et:H1 ak.pl=some (.dT []):=by have:=NA.pl;rw [bY] at this;exact this
  refine ⟨ak.pl,_,rfl,Et,?_⟩;intro l ks hk _ hl;have Ft:ks=[]:=Tm.mp hk;subst Ft;refine ⟨⟨_,aD.of au⟩,JB (xs:=[]) (fun _ σ' H'=>H'=upd H1 l (.lst [])/\σ'=[some (V.ref AA.t),some (V.int (f:Int)),some (V.str z),some (V.int (k:Int)),some (.ref ak.th),none,none]) ⟨rfl,rfl⟩ (fun _ σ' H' _ h=>by rw [h.1];exact aD.of au) (fun j x σ' H' hx _=>by simp at hx) (fun σ' H' h=>?_)⟩;obtain ⟨rfl,rfl⟩:=h;exact ⟨ah.upd hl,_,_,rfl⟩
 ·rintro σ' H2 ⟨s2,t5,t6,rfl⟩;have i2:=i1.same s2;obtain ⟨gs2,c4,iT,hgl2,NV⟩:=i2.t;obtain ⟨xP,d2,cj,hxl2,sx2⟩:=i2.h;have EI:=gj i2 iZ cU;obtain ⟨jx,Nt,iS,cq⟩:=EI.o;have Nf:=i2.own iZ;have ML:=i2.own gK;have Ol:=i2.uA iZ;have N2:=i2.uA gK;right;refine (mI iT NV (mw i2 iZ cU ⟨af.th,_,_,.ref af.nm,rfl,Nt,(cq _).trans rfl,af.nm,_,rfl,gR.k (k:=.inr z) EI.nm (jO (by unfold sD;rw [ss];omega)),?_⟩));rw [AZ hv];have i3:aI T.aL T.aV T.bc (upd H2 af.nm (.dK (sD (tf.aW++[(z,k)])))) AA L { M with ts:=M.ts.set f { tf with aW:=tf.aW++[(z,k)] } }:=by
   refine i2.write iZ ⟨xP,d2,by rw [ag (Ol _ (by simp [Ad.w]) _ (by simp [Ta.l]))];exact cj,hxl2,sx2⟩ ⟨gs2,c4,by rw [ag (Ol _ (by simp [Ad.w]) _ (by simp [Ta.l]))];exact iT,hgl2,NV⟩ ⟨⟨jx,by rw [ag Nf.1];exact Nt,iS,cq⟩,au,by rw [ag (pp Nf.2.2)];exact EI.pl⟩ (fun b o hb e=>?_);simp only [lv,mo,wP,UV] at hb;rw [ag hb.2.2.2.1];exact e
  have N1:Kp [AA.t,af.nm] H (upd H2 af.nm (.dK (sD (tf.aW++[(z,k)])))):=fun b o hb e=>by
   simp only [lv,mo,wP,UV] at hb;rw [ag hb.2];exact s2 _ _ (i0 b o (by simp [hb.1]) e)
  generalize upd H2 af.nm (.dK (sD (tf.aW++[(z,k)])))=H3 at i3 N1 ⊢;have MY:(M.ts.set f { tf with aW:=tf.aW++[(z,k)] })[k]?=some tk:=by rw [No hfk];exact fe
  have ithk3:=gj i3 gK MY;obtain ⟨ks3,ho3,hol3,so3⟩:=ithk3.o;left;refine ⟨ak.th,_,_,.ref ak.pl,rfl,ho3,(so3 _).trans rfl,fits (by simp),fun p hp=>?_⟩;refine eC hp fun H4 s4 b4=>?_;have i4:=i3.same s4;have Fs:=gj i4 gK MY;obtain ⟨ks4,ho4,hol4,so4⟩:=Fs.o;obtain ⟨gs4,c5,ht4,hgl4,sg4⟩:=i4.t;obtain ⟨hs4,d4,gv,hxl4,sx4⟩:=i4.h;have hpl4:H4 ak.pl=some (.dT []):=by have:=Fs.pl;rw [bY] at this;exact this
  refine ⟨ak.pl,_,rfl,gR.t (k:=[.inl (f:Int),.inr z]) hpl4 b4 (by decide),?_⟩;refine q _ (i4.write gK ⟨hs4,d4,by rw [ag (N2 _ (by simp [Ad.w]) _ (by simp [Ta.l]))];exact gv,hxl4,sx4⟩ ⟨gs4,c5,by rw [ag (N2 _ (by simp [Ad.w]) _ (by simp [Ta.l]))];exact ht4,hgl4,sg4⟩ ⟨⟨ks4,by rw [ag ML.2.1];exact ho4,hol4,so4⟩,by rw [ag ML.2.2];exact Fs.nm,au⟩ (fun b o hb e=>?_)) (fun b o hb e=>?_)
  ·simp only [lv,mo,wP,UV] at hb;rw [ag hb.2.2.2.2];exact e
  ·simp only [lv,mo,wP,UV] at hb;rw [ag hb.2.2];exact s4 _ _ (N1 b o (by simp [hb.1,hb.2.1]) e)
def Jm (CH:Addr) (fld:Str):Sp:=rZ fun x z n H Q _=>X5 fun dx fs c d kvs=>A7 (H x=some (.ins CH dx fs)) (fs.length<=40) (fs.lookup ("changes":Str)=some (.int c)) (fs.lookup fld=some (.ref d)) (H d=some (.dK kvs)) (kvs.length<=40) (Q .aq (upd (upd H x (.ins CH dx (ax "changes" (.int (c+1)) fs))) d (.dK (putK kvs (.inr z) (.int n)))))
def YF (CH:Addr):Sp:=kh fun x z H Q _=>X7 fun dx fs c ro st kr ks=>Jb (H x=some (.ins CH dx fs)) (fs.length<=40) (fs.lookup ("changes":Str)=some (.int c)) (fs.lookup ("roots":Str)=some (.ref ro)) (fs.lookup ("standings":Str)=some (.ref st)) (fs.lookup ("first_root":Str)=some (.int 0)) (fs.lookup ("put_root":Str)=none) (fs.lookup ("put_standing":Str)=none) (H ro=some (.dK kr)) (kr.length<=40) (H st=some (.dK ks)) (ks.length<=40) (ro≠st) (∀ fs' c' H',H' x=some (.ins CH dx fs')->fs'.length<=40->dh fs' (ax "changes" (.int c') fs)->H' ro=some (.dK (putK kr (.inr z) (.int 0)))->H' st=some (.dK (putK ks (.inr z) (.int 0)))->(∀ b,b≠x->b≠ro->b≠st->H' b=H b)->Q .aq H')
def OM:T.um.k P w mg base 1 (Jm T.aL "roots"):=by
 refine T.um.F.ok Qo (fun _ _ _ _ h=>jM h fun _ _ _ _=>rfl) fun _ A _ s H vs Q E hr h=>jM h fun x z n h=>?_;obtain ⟨dx,fs,c,d,kvs,hx,aX,hc,hd,hD,mZ,q⟩:=h;refine ⟨_,((ad (jV T.aN T.wO jW (ac 0) bi)
 (ao (nY (er hr) (ap T.aN T.tD (ac 0)) (ac 1) (ac 2))))).h,?_⟩
 refine stI [some (V.ref x),some (V.str z),some (V.int n)] ?_;have cM:d≠x:=fun e=>by rw [e,hx] at hD;cases hD
 right;refine ⟨x,dx,fs,.int c,rfl,hx,hc,_,_,rfl,rfl,dx,fs,hx,by omega,?_⟩;left;refine ⟨x,dx,_,.ref d,rfl,au,by rw [eL,xL (by decide)];exact hd,d,_,rfl,gR.k (k:=.inr z) (by rw [ag cM];exact hD) (jO (by omega)),q⟩
def XC:T.tZ.k P w mg base 1 (Jm T.aL "standings"):=by
 refine T.tZ.F.ok aaH (fun _ _ _ _ h=>jM h fun _ _ _ _=>rfl) fun _ A _ s H vs Q E hr h=>jM h fun x z n h=>?_;obtain ⟨dx,fs,c,d,kvs,hx,aX,hc,hd,hD,mZ,q⟩:=h;refine ⟨_,((ad (jV T.aN T.wO jW (ac 0) bi)
 (ao (nY (er hr) (ap T.aN T.AF (ac 0)) (ac 1) (ac 2))))).h,?_⟩
 refine stI [some (V.ref x),some (V.str z),some (V.int n)] ?_;have cM:d≠x:=fun e=>by rw [e,hx] at hD;cases hD
 right;refine ⟨x,dx,fs,.int c,rfl,hx,hc,_,_,rfl,rfl,dx,fs,hx,by omega,?_⟩;left;refine ⟨x,dx,_,.ref d,rfl,au,by rw [eL,xL (by decide)];exact hd,d,_,rfl,gR.k (k:=.inr z) (by rw [ag cM];exact hD) (jO (by omega)),q⟩
def GN:T.nJ.k P w mg base 2 (YF T.aL):=by
 refine T.nJ.F.ok acd (fun _ _ _ _ h=>e9 h fun _ _ _=>rfl) fun _ A _ s H vs Q E hr h=>e9 h fun x z h=>?_;obtain ⟨dx,fs,c,ro,st,kr,ks,hx,aX,hc,jC,aJ,hX,gO,gL,D1,hkr,EX,Ft,Nw,q⟩:=h;refine ⟨_,((ad (aS (bI T.aN T.um.h (OM T) hr.m T.um.b .nil aC (ac 0) (aa (ac 1) (aa (ap T.aN T.Dz (ac 0)) ae))))
 (ao (aS (bI T.aN T.tZ.h (XC T) hr.m T.tZ.b .nil aC (ac 0) (aa (ac 1) (aa (ap T.aN T.Dz (ac 0)) ae))))))).h,?_⟩
 refine stI [some (V.ref x),some (V.str z)] ?_;have n1:ro≠x:=fun e=>by rw [e,hx] at D1;cases D1
 have n2:st≠x:=fun e=>by rw [e,hx] at EX;cases EX
 right;refine ⟨x,dx,fs,rfl,hx,gO,x,dx,fs,.int 0,rfl,hx,hX,?_⟩;refine ⟨dx,fs,c,ro,kr,hx,by omega,hc,jC,D1,hkr,?_⟩;have bB:upd (upd H x (.ins T.aL dx (ax "changes" (.int (c+1)) fs))) ro (.dK (putK kr (.inr z) (.int 0))) x=some (.ins T.aL dx (ax "changes" (.int (c+1)) fs)):=by rw [ag (pp n1),au]
 have jB:upd (upd H x (.ins T.aL dx (ax "changes" (.int (c+1)) fs))) ro (.dK (putK kr (.inr z) (.int 0))) ro=some (.dK (putK kr (.inr z) (.int 0))):=au;have Nj:upd (upd H x (.ins T.aL dx (ax "changes" (.int (c+1)) fs))) ro (.dK (putK kr (.inr z) (.int 0))) st=some (.dK ks):=by rw [ag (pp Nw),ag n2];exact EX
 have oN:∀ b,b≠x->b≠ro->upd (upd H x (.ins T.aL dx (ax "changes" (.int (c+1)) fs))) ro (.dK (putK kr (.inr z) (.int 0))) b=H b:=fun b b1 b2=>by rw [ag b2,ag b1]
 generalize upd (upd H x (.ins T.aL dx (ax "changes" (.int (c+1)) fs))) ro (.dK (putK kr (.inr z) (.int 0)))=H1 at bB jB Nj oN ⊢;have lk:∀ f:Str,f ≠ "changes" -> (ax "changes" (.int (c+1)) fs).lookup f=fs.lookup f:=fun f hf=>by rw [eL,xL hf]
 left;refine ⟨x,dx,_,rfl,bB,(lk _ (by decide)).trans gL,x,dx,_,.int 0,rfl,bB,(lk _ (by decide)).trans hX,?_⟩;refine ⟨dx,_,c+1,st,ks,bB,by rw [g9 hc];exact aX,by rw [eL,At rfl],(lk _ (by decide)).trans aJ,Nj,Ft,?_⟩;refine q _ (c+1+1) _ (by rw [ag (pp n2),au]) (by rw [g9 (u:=.int (c+1)) (by rw [eL,At rfl]),g9 hc];exact aX) (fun f=>?_) (by rw [ag Nw,ag n1];exact jB) au (fun b b1 b2 b3=>by rw [ag b3,ag b1];exact oN b b1 b2);rw [eL,eL,eL];by_cases e:f = "changes"
 ·rw [At e,At e]
 ·rw [xL e,xL e,xL e]
def Yp (CH CS CT:Addr):Sp:=pI fun x m own H Q _=>A2 (m = "main") (X7 fun dx fs c t dt ml tr=>A9 (H x=some (.ins CH dx fs)) (fs.length<=40) (fs.lookup ("things":Str)=some (.ref t)) (fs.lookup ("changes":Str)=some (.int c)) (fs.lookup ("tree_roots":Str)=some (.ref tr)) (fs.lookup ("add_folder":Str)=none) (mR CS H t dt ml []) (H tr=some (.dK [])) (∀ th dN nm pl fs' ks c' H',H th=none->H nm=none->H pl=none->H' x=some (.ins CH dx fs')->fs'.length<=fs.length->dh fs' (ax "changes" (.int c') fs)->mR CS H' t dt ml [.ref th]->H' th=some (.ins CT dN ks)->ks.length<=40 ->
    dh ks (r8 (.int 0) (.str "folder") (.str own) (.str "lgw") (.str "lg") (.str "") (.ref nm) (.ref pl))->H' nm=some (.dK [])->H' pl=some (.dT [])->H' tr=some (.dK [(.inr "main",.int 0)])->Kp [x,t,ml,tr] H H'->Q (.int 0) H'))
def XO:T.tu.k P w mg base 5 (Yp T.aL T.aV T.bc):=by
 refine T.tu.F.ok Hb (fun _ _ _ _ h=>jP h fun _ _ _ _=>rfl) fun _ A _ s H vs Q E hr h=>jP h fun x m own h=>?_;obtain ⟨rfl,dx,fs,c,t,dt,ml,tr,hx,aX,aK,hc,iR,iZ,EF,km,q⟩:=h;obtain ⟨gs,d,ht,fm,sg⟩:=EF.o;have iX:=EF.ml;refine ⟨_,((ad (aP 3 Hb.nd (bI T.cW T.uE.h (adm T) hr.m T.uE.b .nil aC (ap T.aN T.jn (ac 0)) (aa (ac 2) (aa am (aa am ae)))))
 (ad (jV T.aN T.wO jW (ac 0) bi)
 (ad (nY (er hr) (ap T.aN T.JL (ac 0)) (ac 1) (ac 3))
 (ao (aO (ac 3))))))).h,?_⟩
 refine stI [some (V.ref x),some (V.str "main"),some (V.str own),none] ?_;have n1:t≠x\/True:=.inr trivial;right;refine ⟨x,dx,fs,.ref t,rfl,hx,aK,t,dt,gs,rfl,ht,(sg _).trans rfl,?_⟩;refine ⟨dt,ml,[],EF,by simp,?_⟩;intro th dN nm pl ks H1 fth fnm fpl at1 hth1 hkl1 sk1 hnm1 Et i0;obtain ⟨gs',d',iP,Oz,Ec⟩:=at1.o;have lD:=at1.ml;have dB:x≠t:=fun e=>by
  rw [e,ht] at hx;injection hx with hx;injection hx with _ _ fN;rw [<- fN] at aK;have:=(sg "things").symm.trans aK;cases this
 have Np:x≠ml:=fun e=>by rw [e,iX] at hx;cases hx
 have N6:tr≠t:=fun e=>by rw [e,ht] at km;cases km
 have Nv:tr≠ml:=fun e=>by rw [e,iX] at km;cases km
 have Oj:tr≠x:=fun e=>by rw [e,hx] at km;cases km
 have bB:H1 x=some (.ins T.aL dx fs):=i0 _ _ (by simp [dB,Np]) hx;have hTr1:H1 tr=some (.dK []):=i0 _ _ (by simp [N6,Nv]) km;right;refine ⟨x,dx,fs,.int c,rfl,bB,hc,_,_,rfl,rfl,dx,fs,bB,by omega,ai ?_⟩;left;refine ⟨x,dx,_,.ref tr,rfl,au,by rw [eL,xL (by decide)];exact iR,tr,_,rfl,gR.k (k:=.inr "main") (by rw [ag Oj];exact hTr1) (by decide),?_⟩;left;have old:∀ b o,H1 b=some o->b≠x->b≠tr->upd (upd H1 x (.ins T.aL dx (ax "changes" (.int (c+1)) fs))) tr (.dK (putK [] (.inr "main") (.int 0))) b=some o:=fun b o e b1 b2=>by rw [ag b2,ag b1];exact e
 have MC:th≠x/\th≠tr:=⟨pp (aG hx fth),pp (aG km fth)⟩;have N9:nm≠x/\nm≠tr:=⟨pp (aG hx fnm),pp (aG km fnm)⟩;have Ot:pl≠x/\pl≠tr:=⟨pp (aG hx fpl),pp (aG km fpl)⟩;refine q th dN nm pl _ ks (c+1) _ fth fnm fpl (by rw [ag (pp Oj),au]) (Nat.le_of_eq (g9 hc)) (dh.refl _) ⟨⟨gs',d',old _ _ iP (pp dB) (pp N6),Oz,Ec⟩,old _ _ lD (pp Np) (pp Nv)⟩ (old _ _ hth1 MC.1 MC.2) hkl1 sk1 (old _ _ hnm1 N9.1 N9.2) (old _ _ Et Ot.1 Ot.2) au ?_;intro b o hb e;simp only [lv,mo,wP,UV] at hb;exact old _ _ (i0 b o (by simp [hb.2.1,hb.2.2.1]) e) hb.1 hb.2.2.2
def qj:aA P w K mg base (bC P w) 1 T.gm.f T.gm.d ["self","asker"] (GA T.aL T.aV T.bc T.ck):=by
 refine T.gm.F.c7 Qx (fun _ _ _ _ h=>qP h fun _ _ _=>rfl) fun _ A _ s H vs Q E hr h=>qP h fun x v h=>?_;obtain ⟨AA,L,M,i,rfl,⟨ty,cC⟩,q1,q2⟩:=h;obtain ⟨fs,c,hx,aX,sf⟩:=i.h;refine ⟨_,((ao (aZ (fi (f8 (de (cQ (bQ jg T.dP dJ (aa (ac 1) (aa (iD (.ty "str") T.kN kH rfl) ae))))) (jd (BH (er hr) (ac 1) (ap T.aN T.tD (ac 0)))))) (ao (mQ lS rfl T.LA T.aaN (aa am ae))) ce))).h,?_⟩;refine stI [some (V.ref AA.a),some v] ?_;left;simp only [cC,pQ cC];refine ⟨lq _ rfl,?_⟩;cases v with
 | str z =>
  simp only [nG,_C,Ix,_c];refine ⟨AA.a,_,_,.ref AA.ro,rfl,hx,(sf _).trans rfl,AA.ro,_,rfl,ei.k (k:=.inr z) i.ro,?_⟩;cases hz:aF (sD M.ro) (.inr z) with
  | none=>exact bD ⟨fits (by simp),q2 fun z' e=>by cases e;exact hz⟩
  | some u=>exact aY (q1 z rfl (by rw [hz];rfl))
 | _=>exact ⟨fits (by simp),q2 fun z' e=>by cases e⟩
section
variable {T:Tx K mg} {H:Hp} {A:Ad} {L:List Ta} {M:Hs}
def kR {z:Str} {Q:VK} {E:XK} (i:aI T.aL T.aV T.bc H A L M) (hz:(aF (sD M.ro) (.inr z)).isSome=true) (q:Q .aq H):GA T.aL T.aV T.bc T.ck [.ref A.a,.str z] H Q E :=
 ⟨A,L,M,i,rfl,⟨_,rfl⟩,fun _ _ _=>q,fun h=>by rw [h z rfl] at hz;cases hz⟩
end
def DH:T.kL.k P w mg base 2 (adn T.aL T.aV T.bc):=by
 refine T.kL.F.ok Xz (fun _ _ _ _ h=>e9 h fun _ _ _=>rfl) fun _ A _ s H vs Q E hr h=>e9 h fun x z h=>?_;obtain ⟨AA,L,M,r,i,rfl,hz,q⟩:=h;obtain ⟨fs,c,hx,aX,sf⟩:=i.h;refine ⟨_,((ad (aS (fB T.aN T.gm.h (qj T) hr.m T.gm.b .nil eN (ac 0) (aa (ac 1) ae)))
 (ao (aO (lW (er hr) (ap T.aN T.tD (ac 0)) (ac 1)))))).h,?_⟩
 refine stI [some (V.ref AA.a),some (V.str z)] ?_;right;refine (mI hx sf (kR i (by rw [hz];rfl) ?_));refine ⟨AA.a,_,_,.ref AA.ro,rfl,hx,(sf _).trans rfl,AA.ro,.int r,rfl,?_,q⟩;have:=ei.k (k:=.inr z) i.ro;rw [hz] at this;exact this
def acq (CH CS CT:Addr):Sp:=kh fun x z H Q _=>X4 fun A L M (r:Nat)=>A5 (aI CH CS CT H A L M) (A.a=x) ((aF (sD M.ro) (.inr z)).isSome=true) (aF (sD M.st) (.inr z)=some (.int r)) (Q (.int r) H)
def adI:T.sF.k P w mg base 2 (acq T.aL T.aV T.bc):=by
 refine T.sF.F.ok Yb (fun _ _ _ _ h=>e9 h fun _ _ _=>rfl) fun _ A _ s H vs Q E hr h=>e9 h fun x z h=>?_;obtain ⟨AA,L,M,r,i,rfl,hzr,hz,q⟩:=h;obtain ⟨fs,c,hx,aX,sf⟩:=i.h;refine ⟨_,((ad (aS (fB T.aN T.gm.h (qj T) hr.m T.gm.b .nil eN (ac 0) (aa (ac 1) ae)))
 (ao (aO (lW (er hr) (ap T.aN T.AF (ac 0)) (ac 1)))))).h,?_⟩
 refine stI [some (V.ref AA.a),some (V.str z)] ?_;right;refine (mI hx sf (kR i hzr ?_));refine ⟨AA.a,_,_,.ref AA.st,rfl,hx,(sf _).trans rfl,AA.st,.int r,rfl,?_,q⟩;have:=ei.k (k:=.inr z) i.st;rw [hz] at this;exact this
def GO:T.ou.k P w mg base 4 (S7 T.aL T.aV T.bc):=by
 refine T.ou.F.ok aaA (fun _ _ _ _ h=>mO h fun _ _ _ _=>rfl) fun _ A _ s H vs Q E hr h=>mO h fun x n z h=>?_;obtain ⟨AA,L,M,k,a,t,i,rfl,rfl,ha,aK,hn,hl,q⟩:=h;refine ⟨_,((ad (aS (bn (DQ T) hr.m T.iJ.m T.iJ.F.kp T.iJ.b .nil aC (aa (ac 2) ae)))
 (ao (aO (bI T.cW T.nt.h (KR T) hr.m T.nt.b .nil aC (ap T.aN T.jn (ac 0)) (aa (ac 1) (aa (ac 2) ae))))))).h,?_⟩
 refine stI [some (V.ref AA.a),some (V.int (k:Int)),some (V.str z)] ?_;right;refine ⟨⟨_,rfl⟩,hl,hn,fun H1 s1=>?_⟩;have i1:=i.same s1;obtain ⟨fs,c,hx,aX,sf⟩:=i1.h;obtain ⟨gs,c2,ht,fm,sg⟩:=i1.t;exact ⟨AA.a,_,_,.ref AA.t,rfl,hx,(sf _).trans rfl,AA.t,_,_,rfl,ht,(sg _).trans rfl,AA,L,M,k,a,t,i1,rfl,rfl,ha,aK,q H1 s1⟩
def Hg:aA P w K mg base (bC P w) 3 T.ny.f T.ny.d ["self","asker","number","right"] (IZ T.aL T.aV T.bc T.ck T.cm T.fE):=by
 refine T.ny.F.c7 OC (fun _ _ _ _ h=>xk h fun _ _ _ _ _=>rfl) fun _ A _ s H vs Q E hr h=>xk h fun x wv v r h=>?_;obtain ⟨AA,L,M,i,rfl,hcw,hcv,hcr,q1,q2⟩:=h;obtain ⟨fs,c,hx,aX,sf⟩:=i.h;obtain ⟨gs,c2,ht,fm,sg⟩:=i.t;refine ⟨_,((ad (aS (fB T.aN T.gm.h (qj T) hr.m T.gm.b .nil cA (ac 0) (aa (ac 1) ae)))
 (ad (aS (bP (acD T) hr.m T.qH.m T.qH.F.kp T.qH.b .nil cA (aa (ac 3) ae)))
 (ao (aO (em (pU (K:=K) rfl) (ac 3) (bI T.eG T.tR.h (abq T) hr.m T.tR.b .nil aC (fB T.cW T.eE.h (kF T) hr.m T.eE.b .nil cA (ap T.aN T.jn (ac 0)) (aa (ac 2) ae)) (aa (ac 1) ae)))))))).h,?_⟩
 refine stI [some (V.ref AA.a),some wv,some v,some r] ?_;right;refine (mI hx sf ⟨AA,L,M,i,rfl,hcw,fun z ez hz=>?_,q1⟩);obtain ⟨q3,q4⟩:=q2 z ez hz;subst ez;right;refine ⟨hcr,fun h1=>?_,q3⟩;obtain ⟨st,rfl⟩:∃ st,r=.str st:=by
  unfold jN at h1;simp only [Bool.or_eq_true,_r] at h1;rcases h1 with (h1 | h1) | h1 <;> exact ⟨_,h1⟩
 obtain ⟨q5,q6⟩:=q4 st rfl h1;refine ⟨AA.a,_,_,.ref AA.t,rfl,hx,(sf _).trans rfl,AA.t,_,_,rfl,ht,(sg _).trans rfl,AA,L,M,i,rfl,hcv,fun k a t ev ha aK=>?_,q5⟩;have eh:=gj i ha aK;obtain ⟨ks,ho,lK,so⟩:=eh.o;exact (mI ho so ⟨a,k,t,eh,rfl,q6 k t ev aK⟩)
def M0 (z:Str):Hs:={ ts:=[{ kd := "folder",ow:=z,mi := "lgw",re := "lg",tx := "",aW:=[],cS:=[] }],ro:=[(z,0)],st:=[(z,0)],tr:=[("main",0)],ov:=[],un:=[] }
structure VH (H H':Hp) (A:Ad) (L:List Ta):Prop where
 g:A.hg=0
 c:H' A.ho=some (.dK [])
 n:A.ho ∉ A.w++L.flatMap Ta.l
 f:H A.ho=none
def Xf (CH CS CT:Addr):Sp:=kh fun x z H Q _=>A4 (∃ dx,H x=some (.ins CH dx [])) (z.length<=1000) (fA (.str z)=true) (∀ A L H',A.a=x->VH H H' A L->aI CH CS CT H' A L (M0 z)->(∀ b∈A.w++L.flatMap Ta.l,b≠x->H b=none)->Kp [x] H H'->Q .aq H')
structure ji (C dx x:Addr) (H H':Hp) (F:List (Str×V)) (W:List (Addr×HO)):Prop where
 k:Kp [x] H H'
 h:H' x=some (.ins C dx F)
 w:∀ e∈W,H' e.1=some e.2/\H e.1=none/\e.1≠x
 n:(W.map (·.1)).Nodup
section
variable {C dx x:Addr} {H H':Hp} {F:List (Str×V)} {W:List (Addr×HO)}
def ji.fresh (v:ji C dx x H H' F W) {p:Addr} (hp:H' p=none):H p=none/\p≠x:=by
 have hx:p≠x:=pp (aG v.h hp);refine ⟨?_,hx⟩;cases e:H p with
 | none=>rfl
 | some o=>rw [v.k p o (by simp [hx]) e] at hp;cases hp
def ji.set (v:ji C dx x H H' F W) (f:Str) (u:V):ji C dx x H (upd H' x (.ins C dx (ax f u F))) (ax f u F) W :=
 ⟨fun b o hb e=>by rw [ag (fun z=>hb (by simp [z]))];exact v.k b o hb e,au,fun e he=>let ⟨a,b,c⟩:=v.w e he;⟨by rw [ag c];exact a,b,c⟩,v.n⟩
def ji.y (v:ji C dx x H H' F W) {p:Addr} {o:HO} (hp:H' p=none):upd H' p o x=some (.ins C dx F):=by rw [ag (aG v.h hp)];exact v.h
def ji.new (v:ji C dx x H H' F W) {p:Addr} (o:HO) (f:Str) (hp:H' p=none):ji C dx x H (upd (upd H' p o) x (.ins C dx (ax f (.ref p) F))) (ax f (.ref p) F) ((p,o)::W):=by
 obtain ⟨f0,nx⟩:=v.fresh hp;have old:∀ b u,b≠x->H' b=some u->upd (upd H' p o) x (.ins C dx (ax f (.ref p) F)) b=some u:=fun b u hb e=>by rw [ag hb,ag (aG e hp)];exact e
 refine ⟨fun b u hb e=>old b u (fun z=>hb (by simp [z])) (v.k b u hb e),au,fun e he=>?_,Do.mpr ⟨fun hm=>?_,v.n⟩⟩
 ·rcases lv.mp he with rfl | he
  ·exact ⟨by rw [ag nx,au],f0,nx⟩
  ·obtain ⟨a,b,c⟩:=v.w e he;exact ⟨old _ _ c a,b,c⟩
 ·obtain ⟨e,he,z⟩:=Cl.mp hm;have:=(v.w e he).1;rw [show e.1=p from z,hp] at this;cases this
end
def PR:T.sZ.k P w mg base 6 (Xf T.aL T.aV T.bc):=by
 refine T.sZ.F.ok OT (fun _ _ _ _ h=>e9 h fun _ _ _=>rfl) fun _ A _ s H vs Q E hr h=>e9 h fun x z h=>?_;obtain ⟨⟨dx,hx0⟩,lJ,hn,q⟩:=h;refine ⟨_,((ad (aS (bn (DQ T) hr.m T.iJ.m T.iJ.F.kp T.iJ.b .nil aC (aa (ac 1) ae)))
 (ad (bu T.aN T.jn (ac 0) (VR T.PB (VD T) hr.m T.abj T.sW.b .nil aC))
 (ad (bu T.aN T.wO (ac 0) bi)
 (ad (bu T.aN T.tD (ac 0) jH)
 (ad (bu T.aN T.AF (ac 0) jH)
 (ad (bu T.aN T.JL (ac 0) jH)
 (ad (bu T.aN T.Aw (ac 0) jH)
 (ad (bu T.aN T.C8 (ac 0) jH)
 (ad (bu T.aN T.qy (ac 0) jH)
 (ad (bu T.aN T.zC (ac 0) bi)
 (ad (bu T.aN T.Dz (ac 0) (bI T.aN T.tu.h (XO T) hr.m T.tu.b .nil aC (ac 0) (aa (dl (.str "main") T.Qp ⟨_,rfl⟩) (aa (ac 1) ae))))
 (ao (aS (bI T.aN T.nJ.h (GN T) hr.m T.nJ.b .nil aC (ac 0) (aa (ac 1) ae)))))))))))))))).h,?_⟩
 refine stI [some (V.ref x),some (V.str z)] ?_;right;refine ⟨⟨_,rfl⟩,lJ,hn,fun H1 s1=>?_⟩;have bB:=s1 _ _ hx0;right;intro t dt ht yo jA;refine ⟨dt,au,fun ml H2 iX nml fr2 hml2 gs fm sg iT=>⟨rfl,?_⟩⟩;have dB:x≠t:=aG bB ht;have nxd:x≠dt:=aG bB yo;have hml':H1 ml=none:=by
  rw [ag nml] at iX;by_cases e:ml=dt
  ·rw [e,au] at iX;cases iX
  ·rw [ag e] at iX;exact iX
 have s2:ah H1 H2:=fun b o e=>by
  rw [fr2 b (aG e ht) (aG e hml'),ag (aG e ht),ag (aG e yo)];exact e
 refine ⟨x,dx,_,rfl,s2 _ _ bB,by decide,ai ?_⟩;have V:ji T.aL dx x H (upd H2 x (.ins T.aL dx (ax "things" (.ref t) []))) (ax "things" (.ref t) []) [(t,.ins T.aV dt gs),(ml,.lst [])]:=⟨fun b o hb e=>by rw [ag (fun z=>hb (by simp [z]))];exact s2 _ _ (s1 _ _ e),au,fun e he=>?_,by simp [pp nml]⟩
 case refine_1 =>
  have fr:∀ {d},H1 d=none->H d=none:=fun {d} h=>by
   cases e:H d with
   | none=>rfl
   | some o=>rw [s1 _ _ e] at h;cases h
  simp only [lv,mo,wP] at he;rcases he with rfl | rfl
  ·exact ⟨by rw [ag (pp dB)];exact iT,fr ht,pp dB⟩
  ·exact ⟨by rw [ag (pp (aG bB hml'))];exact hml2,fr hml',pp (aG bB hml')⟩
 clear fr2;generalize upd H2 x _=H3 at V ⊢;left;refine ⟨x,dx,_,rfl,V.h,by walk_at "f",ai ?_⟩
 replace V:=V.set "changes" (.int 0)
 generalize upd H3 x _=H4 at V ⊢;left;intro ro jC;refine ⟨x,dx,_,rfl,V.y jC,by walk_at "f",ai ?_⟩
 replace V:=V.new (.dK []) "roots" jC
 generalize upd (upd H4 ro _) x _=H5 at V ⊢;left;intro st aJ;refine ⟨x,dx,_,rfl,V.y aJ,by walk_at "f",ai ?_⟩
 replace V:=V.new (.dK []) "standings" aJ
 generalize upd (upd H5 st _) x _=H6 at V ⊢;left;intro tr iR;refine ⟨x,dx,_,rfl,V.y iR,by walk_at "f",ai ?_⟩
 replace V:=V.new (.dK []) "tree_roots" iR
 generalize upd (upd H6 tr _) x _=H7 at V ⊢;left;intro ov hov;refine ⟨x,dx,_,rfl,V.y hov,by walk_at "f",ai ?_⟩
 replace V:=V.new (.dK []) "root_over" hov
 generalize upd (upd H7 ov _) x _=H8 at V ⊢;left;intro un hun;refine ⟨x,dx,_,rfl,V.y hun,by walk_at "f",ai ?_⟩
 replace V:=V.new (.dK []) "folder_under" hun
 generalize upd (upd H8 un _) x _=H9 at V ⊢;left;intro ho hho;refine ⟨x,dx,_,rfl,V.y hho,by walk_at "f",ai ?_⟩
 replace V:=V.new (.dK []) "holds" hho
 generalize upd (upd H9 ho _) x _=kj at V ⊢;left;refine ⟨x,dx,_,rfl,V.h,by walk_at "f",ai ?_⟩
 replace V:=V.set "holds_given" (.int 0)
 generalize upd kj x _=H11 at V ⊢;left;have m7:=V.h;have k11:=V.k;have hw:=V.w;have fv:=V.n;simp only [List.forall_mem_cons] at hw;simp only [wT,IN,Do,lv,mo,wP,UV,_R,_Q,and_true] at fv;obtain ⟨⟨mW,fr_ho,rC⟩,⟨mY,fr_un,Eg⟩,⟨mX,fr_ov,D9⟩,⟨rp,NI,M7⟩,⟨ie,Oa,Ej⟩,⟨ib,N8,D4⟩,⟨fo,ft,n1⟩,⟨fq,MQ,n2⟩,_⟩:=hw;obtain ⟨⟨houn,hoov,MF,host,Oq,_⟩,⟨unov,untr,unst,unro,_⟩,⟨ovtr,ovst,ovro,_⟩,⟨trst,trro,_⟩,⟨stro,_⟩,_⟩:=fv;have NQ:=pp stro;have Fx:=pp trro;have Fj:=pp trst;have MW:=pp ovro;have Nq:=pp ovst;have M5:=pp ovtr;have MO:=pp unro;have NJ:=pp unst;have NF:=pp untr;have eovun:=pp unov;have fresh:∀ {d:Addr},d≠x->H11 d=none->H d=none:=fun {d} _ h=>(V.fresh h).1;refine ⟨x,dx,_,rfl,m7,rfl,?_⟩;refine ⟨rfl,dx,_,0,t,dt,ml,tr,m7,by (repeat (refine bV ?_));exact Da _,rfl,rfl,rfl,rfl,⟨⟨gs,0,fo,fm,sg⟩,fq⟩,rp,?_⟩;intro th dN nm pl fs' ks c' H12 fth fnm fpl hxA hflA Ed atA hthA hklA skA hnmA hplA htrA rq;obtain ⟨gs',d',htA,hglA,sgA⟩:=atA.o;have hmlA:=atA.ml;have lkA:=fun (f:Str) (hf:f ≠ "changes")=>(Ed f).trans ((eL _ _ _ _).trans (xL hf));have qro:H12 ro=some (.dK []):=rq _ _ (by simp [D4,bH ib fo (by nofun),bH ib fq (by nofun),Fx]) ib;have qst:H12 st=some (.dK []):=rq _ _ (by simp [Ej,bH ie fo (by nofun),bH ie fq (by nofun),Fj]) ie;have qun:H12 un=some (.dK []):=rq _ _ (by simp [Eg,bH mY fo (by nofun),bH mY fq (by nofun),pp NF]) mY;have qov:H12 ov=some (.dK []):=rq _ _ (by simp [D9,bH mX fo (by nofun),bH mX fq (by nofun),pp M5]) mX;have uS:=fun (f:Str) (h1:f ≠ "first_root") (h2:f ≠ "changes")=>((eL "first_root" f (.int 0) fs').trans (xL h1)).trans (lkA f h2);refine ⟨x,dx,fs',rfl,hxA,_o hflA (by walk_at "f"),?_⟩;refine ⟨x,dx,_,rfl,au,(uS _ (by decide) (by decide)).trans rfl,?_⟩;refine ⟨dx,_,c',ro,st,[],[],au,wl (bV (wl hflA (show _<=9 by (repeat (refine bV ?_));exact Da _))) (by decide),by rw [eL,xL (by decide),Ed,eL,At rfl],(uS _ (by decide) (by decide)).trans rfl,(uS _ (by decide) (by decide)).trans rfl,by rw [eL,At rfl],(uS _ (by decide) (by decide)).trans rfl,(uS _ (by decide) (by decide)).trans rfl,by rw [ag D4];exact qro,by decide,by rw [ag Ej];exact qst,by decide,NQ,?_⟩;intro jz c3 H13 hx13 ia eY hro3 hst3 yx;have old:∀ b o,b≠x->b≠ro->b≠st->H12 b=some o->H13 b=some o:=fun b o b1 b2 b3 e=>by rw [yx b b1 b2 b3,ag b1];exact e
 have qho:H12 ho=some (.dK []):=rq _ _ (by simp [rC,bH mW fo (by nofun),bH mW fq (by nofun),MF]) mW;have eR:ho ∉ [x,t,ml,ro,st,tr,ov,un,th,nm,pl]:=by
  simp only [lv,mo,wP,UV];exact ⟨rC,bH mW fo (by nofun),bH mW fq (by nofun),Oq,host,MF,hoov,houn,aG mW fth,aG mW fnm,aG mW fpl⟩
 refine q ⟨x,dx,t,dt,ml,ro,st,tr,ov,un,ho,0⟩ [⟨th,dN,nm,pl⟩] H13 rfl ⟨rfl,old _ _ rC Oq host qho,eR,fr_ho⟩ ⟨⟨jz,c3,hx13,ia,fun f=>?_⟩,⟨gs',d',old _ _ (n1) (bH fo ib (by nofun)) (bH fo ie (by nofun)) htA,hglA,sgA⟩,old _ _ (n2) (bH fq ib (by nofun)) (bH fq ie (by nofun)) hmlA,rfl,fun j tt e=>?_,hro3,hst3,old _ _ (M7) (pp Fx) (pp Fj) htrA,old _ _ (D9) (pp MW) (pp Nq) qov,old _ _ (Eg) (pp MO) (pp NJ) qun,?_⟩ ?_ ?_
 ·rw [eY f];refine ((Ed.put "first_root" (.int 0)).put "changes" (.int c3) f).trans rfl
 ·have hj:j=0:=by
   have:=(ul.mp e).1;have h1:(M0 z).ts.length=1:=rfl;omega
  subst hj;cases e;exact ⟨_,rfl,⟨⟨ks,old _ _ (pp (aG m7 fth)) (pp (aG ib fth)) (pp (aG ie fth)) hthA,hklA,skA⟩,old _ _ (pp (aG m7 fnm)) (pp (aG ib fnm)) (pp (aG ie fnm)) hnmA,old _ _ (pp (aG m7 fpl)) (pp (aG ib fpl)) (pp (aG ie fpl)) hplA⟩⟩
 ·show List.Nodup [x,t,ml,ro,st,tr,ov,un,th,nm,pl];simp only [Do,lv,mo,wP,UV,_R,_Q,and_true];exact ⟨⟨pp n1,pp n2,pp D4,pp Ej,pp M7,pp D9,pp Eg,aG m7 fth,aG m7 fnm,aG m7 fpl⟩,⟨bH fo fq (by nofun),bH fo ib (by nofun),bH fo ie (by nofun),bH fo rp (by nofun),bH fo mX (by nofun),bH fo mY (by nofun),aG fo fth,aG fo fnm,aG fo fpl⟩,⟨bH fq ib (by nofun),bH fq ie (by nofun),bH fq rp (by nofun),bH fq mX (by nofun),bH fq mY (by nofun),aG fq fth,aG fq fnm,aG fq fpl⟩,⟨NQ,Fx,MW,MO,aG ib fth,aG ib fnm,aG ib fpl⟩,⟨Fj,Nq,NJ,aG ie fth,aG ie fnm,aG ie fpl⟩,⟨M5,NF,aG rp fth,aG rp fnm,aG rp fpl⟩,⟨eovun,aG mX fth,aG mX fnm,aG mX fpl⟩,⟨aG mY fth,aG mY fnm,aG mY fpl⟩,⟨bH hthA hnmA (by nofun),bH hthA hplA (by nofun)⟩,bH hnmA hplA (by nofun)⟩
 ·intro b hb oK;have hb':b∈[x,t,ml,ro,st,tr,ov,un,th,nm,pl]:=hb;simp only [lv,mo,wP] at hb';rcases hb' with rfl | rfl | rfl | rfl | rfl | rfl | rfl | rfl | rfl | rfl | rfl
  ·exact absurd rfl oK
  ·exact ft
  ·exact MQ
  ·exact N8
  ·exact Oa
  ·exact NI
  ·exact fr_ov
  ·exact fr_un
  ·exact fresh oK fth
  ·exact fresh oK fnm
  ·exact fresh oK fpl
 ·intro b o hb e;have oK:b≠x:=fun z=>hb (by simp [z]);refine old b o oK (aG e N8) (aG e Oa) (rq b o ?_ (k11 b o hb e));simp only [lv,mo,wP,UV];exact ⟨oK,aG e ft,aG e MQ,aG e NI⟩
def Zb (CH CS CT:Addr):Sp:=kh fun x z H Q _=>X3 fun A L M=>A9 (aI CH CS CT H A L M) (A.a=x) (z.length<=1000) (fA (.str z)=true) (M.ro.length<=30) (M.st.length<=30) (aF (sD M.ro) (.inr z)=none) (aF (sD M.st) (.inr z)=none) (∀ H',aI CH CS CT H' A L { M with ro:=M.ro++[(z,0)],st:=M.st++[(z,0)] }->Kp [A.a,A.ro,A.st] H H'->Q .aq H')
def acv:T.su.k P w mg base 3 (Zb T.aL T.aV T.bc):=by
 refine T.su.F.ok Po (fun _ _ _ _ h=>e9 h fun _ _ _=>rfl) fun _ A _ s H vs Q E hr h=>e9 h fun x z h=>?_;obtain ⟨AA,L,M,i,rfl,lJ,hn,iY,hsl,M4,hs0,q⟩:=h;refine ⟨_,((ad (aS (bn (DQ T) hr.m T.iJ.m T.iJ.F.kp T.iJ.b .nil aC (aa (ac 1) ae)))
 (ad (aZ (BO (er hr) (ac 1) (ap T.aN T.tD (ac 0))) (ao jI) ce)
 (ao (aS (bI T.aN T.nJ.h (GN T) hr.m T.nJ.b .nil aC (ac 0) (aa (ac 1) ae))))))).h,?_⟩
 refine stI [some (V.ref AA.a),some (V.str z)] ?_;right;refine ⟨⟨_,rfl⟩,lJ,hn,fun H1 s1=>?_⟩;have i1:=i.same s1;obtain ⟨fs,c,hx,aX,sf⟩:=i1.h;have nd:=i1.nd;rw [GT] at nd;have Eu:=nd.1;simp only [Ad.w,Do,lv,mo,wP,UV] at Eu;right;refine ⟨AA.a,_,_,.ref AA.ro,rfl,hx,(sf _).trans rfl,AA.ro,_,rfl,ei.k (k:=.inr z) i1.ro,?_⟩;rw [M4];refine aY ?_;left;refine (mI hx sf ⟨AA.dx,fs,c,AA.ro,AA.st,_,_,hx,aX,(sf _).trans rfl,(sf _).trans rfl,(sf _).trans rfl,(sf _).trans rfl,(sf _).trans rfl,(sf _).trans rfl,i1.ro,by unfold sD;rw [ss];omega,i1.st,by unfold sD;rw [ss];omega,Eu.2.2.2.1.1,?_⟩);intro fs' c' H' hx' hfl' sf' hro' hst' fr';have e1:putK (sD M.ro) (.inr z) (.int 0)=sD (M.ro++[(z,0)]):=AZ M4;have e2:putK (sD M.st) (.inr z) (.int 0)=sD (M.st++[(z,0)]):=AZ hs0;rw [e1] at hro';rw [e2] at hst';have kp:Kp [AA.a,AA.ro,AA.st] H1 H':=fun b o hb e=>by
  simp only [lv,mo,wP,UV] at hb;rw [fr' b hb.1 hb.2.1 hb.2.2];exact e
 have u4:∀ b∈[AA.t,AA.ml,AA.tr,AA.ov,AA.un],b ∉ [AA.a,AA.ro,AA.st]:=by
  intro b hb hm;simp only [lv,mo,wP] at hb hm;obtain ⟨⟨a1,a2,a3,a4,a5,a6,a7⟩,⟨b1,b2,b3,b4,b5,b6⟩,⟨c1,c2,c3,c4,c5⟩,⟨d1,d2,d3,d4⟩,⟨f1,f2,f3⟩,_⟩:=Eu;rcases hb with rfl | rfl | rfl | rfl | rfl <;> rcases hm with h | h | h <;> first
   | exact a1 h.symm | exact a2 h.symm | exact a5 h.symm | exact a6 h.symm | exact a7 h.symm
   | exact b2 h | exact b3 h | exact c1' h | exact c1 h | exact c2 h | exact c3 h
   | exact d2 h.symm | exact d3 h.symm | exact d4 h.symm | exact f1 h.symm | exact f2 h.symm | exact f3 h.symm | exact b1 h | exact b4 h
 refine q H' ⟨⟨fs',c',hx',hfl',fun f=>?_⟩,?_,kp _ _ (u4 _ (by simp)) i1.ml,i1.len,fun j t e=>?_,hro',hst',kp _ _ (u4 _ (by simp)) i1.tr,kp _ _ (u4 _ (by simp)) i1.ov,kp _ _ (u4 _ (by simp)) i1.un,i1.nd⟩ (fun b o hb e=>kp b o hb (s1 b o e))
 ·rw [sf' f,eL,sf f];by_cases e:f = "changes"
  ·rw [At e,e];rfl
  ·rw [xL e];exact Xs e
 ·obtain ⟨gs,d,e,r⟩:=i1.t;exact ⟨gs,d,kp _ _ (u4 _ (by simp)) e,r⟩
 ·obtain ⟨a,e1,h1⟩:=i1.th j t e;refine ⟨a,e1,h1.keep kp fun b hb hm=>?_⟩;have:=i1.uA e1;simp only [lv,mo,wP] at hm;rcases hm with rfl | rfl | rfl
  ·exact this _ (by simp [Ad.w]) _ hb rfl
  ·exact this _ (by simp [Ad.w]) _ hb rfl
  ·exact this _ (by simp [Ad.w]) _ hb rfl
def kQ (M:Hs):Nat->Nat->Nat->Prop
 | 0,k,b=>aF (nD M.un) (.inl (k:Int))=none/\b=k
 | n+1,k,b=>∃ k':Nat,aF (nD M.un) (.inl (k:Int))=some (.int (k':Int))/\kQ M n k' b
def kc (M:Hs):Nat->Nat->List Nat->Prop
 | 0,k,l=>aF (nD M.ov) (.inl (k:Int))=none/\l=[]
 | n+1,k,l=>∃ (k':Nat) (r:List Nat),aF (nD M.ov) (.inl (k:Int))=some (.int (k':Int))/\kc M n k' r/\l=k'::r
def ed (M:Hs) (k b:Nat) (r:List Nat):Prop:=(∃ n,kQ M n k b)/\∃ n,kc M n b r/\n<=100
def kc.len {M:Hs}:∀ {n k:Nat} {l:List Nat},kc M n k l->l.length=n
 | 0,_,_,h=>by rw [h.2];rfl
 | n+1,_,_,h=>by obtain ⟨k',r,_,h2,rfl⟩:=h;simp [h2.len]
abbrev nV (l:List Nat):List V:=l.map fun n:Nat=>V.int (n:Int)
def dk (b:Nat) (r:List Nat):Nat:=(b::r).getLast (by simp)
def Y8 (CH CS CT:Addr):Sp:=kI fun x n H Q _=>X7 fun A L M (k:Nat) (b:Nat) a t=>A7 (aI CH CS CT H A L M) (A.a=x) (n=(k:Int)) (L[k]?=some a) (M.ts[k]?=some t) (∃ m,kQ M m k b) (Q (.int (b:Int)) H)
def Z1 (CH CS CT:Addr):Sp:=kI fun x n H Q _=>X8 fun A L M (k:Nat) (b:Nat) r a t=>A7 (aI CH CS CT H A L M) (A.a=x) (n=(k:Int)) (L[k]?=some a) (M.ts[k]?=some t) (ed M k b r) (∀ l H',ah H H'->H l=none->H' l=some (.lst (nV (b::r)))->Q (.ref l) H')
def abQ (CH CS CT:Addr):Sp:=kI fun x n H Q _=>X8 fun A L M (k:Nat) (b:Nat) r a t=>A7 (aI CH CS CT H A L M) (A.a=x) (n=(k:Int)) (L[k]?=some a) (M.ts[k]?=some t) (ed M k b r) (∀ H',ah H H'->Q (.int (dk b r:Nat)) H')
def SO:T.qe.k P w base 4 (Y8 T.aL T.aV T.bc):=by
 refine T.qe.F.ok zA (fun _ _ _ _ h=>dj h fun _ _ _=>rfl) fun _ A _ s H vs Q E hr h=>dj h fun x n h=>?_;obtain ⟨AA,L,M,k,b,a,t,i,rfl,rfl,ha,aK,⟨m,hb⟩,q⟩:=h;obtain ⟨fs,c,hx,aX,sf⟩:=i.h;refine ⟨_,((ad (aS (bI T.aN T.si.h (Vb T) hr.m T.si.b .nil aC (ac 0) (aa (ac 1) ae)))
 (ad (aP 2 zA.nd (ac 1))
 (ad (uL _q (BO (er hr) (ac 2) (ap T.aN T.C8 (ac 0))) (ao (aP 2 zA.nd (lW (er hr) (ap T.aN T.C8 (ac 0)) (ac 2)))))
 (ao (aO (ac 2))))))).h,?_⟩
 refine stI [some (V.ref AA.a),some (V.int (k:Int)),none] ?_;right;refine (mI hx sf ⟨AA,L,M,k,a,t,i,rfl,rfl,ha,aK,?_⟩);right;refine ai ⟨fun m σ' H'=>∃ j:Nat,σ'=[some (V.ref AA.a),some (V.int (k:Int)),some (V.int (j:Int))]/\H'=H/\kQ M m j b,⟨m,k,rfl,rfl,hb⟩,?_⟩;rintro m σ' H' ⟨j,rfl,rfl,hj⟩;left;refine ⟨AA.a,_,_,.ref AA.un,rfl,hx,(sf _).trans rfl,AA.un,_,rfl,ei.k (k:=.inl (j:Int)) i.un,?_⟩;cases m with
 | zero =>
  obtain ⟨h0,rfl⟩:=hj;rw [h0];exact aY q
 | succ m =>
  obtain ⟨k',h0,h1⟩:=hj;rw [h0];refine bD ⟨fun σ' H''=>∃ j:Nat,σ'=[some (V.ref AA.a),some (V.int (k:Int)),some (V.int (j:Int))]/\H''=H'/\kQ M m j b,fun σ' H' z=>⟨m,KM m,z⟩,?_⟩;left;refine ⟨AA.a,_,_,.ref AA.un,rfl,hx,(sf _).trans rfl,AA.un,.int (k':Int),rfl,?_,k',rfl,by trivial,h1⟩;have:=ei.k (k:=.inl (j:Int)) i.un;rw [h0] at this;exact this
def nM {a b:List Nat}:nV (a++b)=nV a++nV b:=Fr
def pJ:T.eF.k P w base 5 (Z1 T.aL T.aV T.bc):=by
 refine T.eF.F.ok Ka (fun _ _ _ _ h=>dj h fun _ _ _=>rfl) fun _ A _ s H vs Q E hr h=>dj h fun x n h=>?_;obtain ⟨AA,L,M,k,b,r,a,t,i,rfl,rfl,ha,aK,⟨hb,⟨m,hu,hm⟩⟩,q⟩:=h;have hlen:=hu.len;refine ⟨_,((ad (aP 2 Ka.nd (cr (aa (bn (SO T) hr.m T.qe.m T.qe.F.kp T.qe.b .nil aC (aa (ac 0) (aa (ac 1) ae))) ae)))
 (ad (uL _q (BO (er hr) (ci (bG (K:=K) rfl) (ac 2) (io l6 bi)) (ap T.aN T.Aw (ac 0))) (ao (aS (gp AT Ch iL (ac 2) (aa (lW (er hr) (ap T.aN T.Aw (ac 0)) (ci (bG (K:=K) rfl) (ac 2) (io l6 bi))) ae)))))
 (ao (aO (ac 2)))))).h,?_⟩
 refine stI [some (V.ref AA.a),some (V.int (k:Int)),none] ?_;right;refine ⟨AA,L,M,k,b,a,t,i,rfl,rfl,ha,aK,hb,fits (by simp),fun l hl=>?_⟩;refine eC hl fun H1 s1 b1=>?_;refine ai ⟨fun m σ' H'=>ah H H'/\∃ (pre:List Nat) (j:Nat) (r':List Nat),σ'=[some (V.ref AA.a),some (V.int (k:Int)),some (V.ref l)]/\H' l=some (.lst (nV pre++[V.int (j:Int)]))/\kc M m j r'/\pre++j::r'=b::r,⟨m,s1,[],b,r,rfl,b1,hu,rfl⟩,?_⟩;rintro m σ' H' ⟨s',pre,j,r',rfl,hl',hj,hp⟩;have i1:=i.same s';obtain ⟨fs,c,hx,aX,sf⟩:=i1.h;left;simp only [bU,hl',qg];refine ⟨AA.a,_,_,.ref AA.ov,rfl,hx,(sf _).trans rfl,AA.ov,_,rfl,ei.k (k:=.inl (j:Int)) i1.ov,?_⟩;cases m with
 | zero =>
  obtain ⟨h0,rfl⟩:=hj;rw [h0];refine aY (q l H' s' hl ?_);rw [hl',<- hp,nM];rfl
 | succ m =>
  obtain ⟨k',r2,h0,h1,rfl⟩:=hj;rw [h0];refine bD ⟨fun σ' H'=>ah H H'/\∃ (pre:List Nat) (j:Nat) (r':List Nat),σ'=[some (V.ref AA.a),some (V.int (k:Int)),some (V.ref l)]/\H' l=some (.lst (nV pre++[V.int (j:Int)]))/\kc M m j r'/\pre++j::r'=b::r,fun σ' H' z=>⟨m,KM m,z⟩,?_⟩;left;refine ⟨AA.a,_,_,.ref AA.ov,rfl,hx,(sf _).trans rfl,AA.ov,.int (k':Int),rfl,?_,?_⟩
  ·have:=ei.k (k:=.inl (j:Int)) i1.ov;rw [h0] at this;exact this
  have bY:(pre++[j]).length<=102:=by
   have:=P3 List.length hp;simp at this ⊢;omega
  refine ⟨jO (by simp at bY ⊢;omega),s'.gk hl,pre++[j],k',r2,by trivial,?_,h1,?_⟩
  ·rw [au,nM];rfl
  ·rw [<- hp];simp
def JX {b:Nat} {r:List Nat}:∃ pre,b::r=pre++[dk b r]:=⟨(b::r).dropLast,by unfold dk;exact (List.dropLast_concat_getLast (by simp)).symm⟩
def xn:T.gb.k P w base 6 (abQ T.aL T.aV T.bc):=by
 refine T.gb.F.ok QY (fun _ _ _ _ h=>dj h fun _ _ _=>rfl) fun _ A _ s H vs Q E hr h=>dj h fun x n h=>?_;obtain ⟨AA,L,M,k,b,r,a,t,i,rfl,rfl,ha,aK,hs,q⟩:=h;refine ⟨_,((ao (aO (ci (bG (K:=K) rfl) (bn (pJ T) hr.m T.eF.m T.eF.F.kp T.eF.b .nil aC (aa (ac 0) (aa (ac 1) ae))) (io l6 bi))))).h,?_⟩;refine stI [some (V.ref AA.a),some (V.int (k:Int))] ?_;left;refine ⟨AA,L,M,k,b,r,a,t,i,rfl,rfl,ha,aK,hs,fun l H' s' _ hl=>?_⟩;dsimp only;obtain ⟨pre,hp⟩:=JX (b:=b) (r:=r);rw [hp,nM] at hl;simp only [bU,hl,wT,IN,qg];exact q _ s'
def f6 (r:Nat) (l:List Nat):Bool:=l.any (· == r)
def tG {r:Nat}:∀ {l:List Nat},fO (V.int (r:Int)) (nV l)=f6 r l
 | []=>rfl
 | x::l=>by
  have ih:=tG (r:=r) (l:=l);unfold fO at ih ⊢;unfold f6 at ih ⊢;simp only [nV,wT,Wp] at ih ⊢;rw [ih]
  congr 1
  unfold fR;by_cases e:x=r
  ·subst e;simp
  ·rw [EQ.mpr e]
   first | exact EQ.mpr (by omega) | (simp;omega)
def kW (M:Hs) (L:List Ta) (root:Nat):Nat->Nat->Bool->Prop
 | n,k,v=>∃ b r a t,L[k]?=some a/\M.ts[k]?=some t/\ed M k b r /\
  if k=dk b r then
   if f6 root (b::r)=true then v=true
   else ∃ ab tb,L[b]?=some ab/\M.ts[b]?=some tb/\((tb.cS=[]/\v=false)\/∃ f z,tb.cS=[(f,z)]/\match n with | 0=>False | n+1=>kW M L root n f v)
  else v=false
def O8 (CH CS CT:Addr):Sp:=rZ fun x z n H Q _=>X6 fun A L M (k:Nat) (root:Nat) v=>A6 (aI CH CS CT H A L M) (A.a=x) (n=(k:Int)) (aF (sD M.ro) (.inr z)=some (.int (root:Int))) (∃ m,kW M L root m k v) (∀ H',ah H H'->Q (.bl v) H')
def Wr:T.qD.k P w base 6 (O8 T.aL T.aV T.bc):=by
 refine T.qD.F.ok nF (fun _ _ _ _ h=>jM h fun _ _ _ _=>rfl) fun _ A _ s H vs Q E hr h=>jM h fun x z n h=>?_;obtain ⟨AA,L,M,k,root,v,i,rfl,rfl,hz,⟨m,hm⟩,q⟩:=h;obtain ⟨fs,c,hx,aX,sf⟩:=i.h;refine bK (b:=aQ zw) ((ad (aP 3 nF.nd (bI T.aN T.kL.h (DH T) hr.m T.kL.b .nil aC (ac 0) (aa (ac 1) ae)))
 (ad (aP 4 nF.nd (ac 2))
 (ad (aP 5 nF.nd (bn (pJ T) hr.m T.eF.m T.eF.F.kp T.eF.b .nil aC (aa (ac 0) (aa (ac 4) ae))))
 (ad (uL _q (bt gi (ac 4) (ci (bG (K:=K) rfl) (ac 5) (io l6 bi))) (ad (aZ (bt (pU (K:=K) rfl) (ac 3) (ac 5)) (ao (aO dL)) ce)
 (ad (aP 6 nF.nd (bI T.aN T.kU.h (C3 T) hr.m T.kU.b .nil aC (ac 0) (aa (ci (bG (K:=K) rfl) (ac 5) bi) ae)))
 (ad (aZ (bt vL (ac 6) aq) (ao (aO dL)) ce)
 (ad (aP 4 nF.nd (ci (bG (K:=K) rfl) (ac 6) bi))
 (ao (aP 5 nF.nd (bn (pJ T) hr.m T.eF.m T.eF.F.kp T.eF.b .nil aC (aa (ac 0) (aa (ac 4) ae))))))))))
 (ao (aO dL))))))) ?_
 refine stI [some (V.ref AA.a),some (V.str z),some (V.int (k:Int)),none,none,none,none] ?_;right;refine (mI hx sf ⟨AA,L,M,root,i,rfl,hz,?_⟩);right;right;obtain ⟨b,r,a,t,ha,ht,aJ,et⟩:=(by unfold kW at hm;exact hm:∃ b r a t,L[k]?=some a/\M.ts[k]?=some t/\ed M k b r/\_);refine ⟨AA,L,M,k,b,r,a,t,i,rfl,rfl,ha,ht,aJ,fun l H1 s1 hV hl=>?_⟩;refine ai ⟨fun m σ' H'=>ah H H'/\∃ (j:Nat) (l:Addr) (b:Nat) (r:List Nat) (pv:Option V),σ'=[some (V.ref AA.a),some (V.str z),some (V.int (k:Int)),some (V.int (root:Int)),some (V.int (j:Int)),some (V.ref l),pv]/\H' l=some (.lst (nV (b::r)))/\ed M j b r /\
  (if j=dk b r then
   if f6 root (b::r)=true then v=true
   else ∃ ab tb,L[b]?=some ab/\M.ts[b]?=some tb/\((tb.cS=[]/\v=false)\/∃ f z,tb.cS=[(f,z)]/\match m with | 0=>False | n+1=>kW M L root n f v)
  else v=false),⟨m,s1,k,l,b,r,none,rfl,hl,aJ,et⟩,?_⟩
 clear et ha ht aJ hl hV s1 hm;rintro m σ' H' ⟨s',j,l,b,r,pv,rfl,hl,aJ,et⟩;have i':=i.same s';obtain ⟨pre,hp⟩:=JX (b:=b) (r:=r);have cY:=hl;rw [hp,nM] at cY;left;simp only [bU,cY,wT,IN,qg];by_cases hj:j=dk b r
 ·rw [At hj] at et;rw [tz (by rw [hj])];refine bD ⟨_,fun _ _ h=>h,?_⟩;right;simp only [bU,hl];refine ⟨rfl,by simp [di],?_⟩;rw [tG];cases hmem:f6 root (b::r) with
  | true =>
   rw [At hmem] at et;subst et;exact bD (q _ s')
  | false =>
   rw [xL (by rw [hmem];nofun)] at et;obtain ⟨ab,tb,fG,lC,bY⟩:=et;refine aY ?_;refine ai ?_;obtain ⟨fs,c,hx,aX,sf⟩:=i'.h;left;simp only [bU,hl,nV,wT,iG];refine (mI hx sf ⟨AA,L,M,b,ab,tb,i',rfl,rfl,fG,lC,?_⟩);rcases bY with ⟨bY,rfl⟩ | ⟨f,zz,bY,hn⟩
   ·refine .inl ⟨bY,?_⟩;right;exact ⟨by trivial,bD (q _ s')⟩
   ·refine .inr ⟨f,zz,bY,fun p hp=>?_⟩;right;refine ⟨by trivial,?_⟩;rw [pi (by nofun)];refine aY ?_;right;simp only [bU,hp,iG];cases m with
    | zero=>exact hn.elim
    | succ m =>
     obtain ⟨b2,r2,a2,t2,D5,iT,xR,Fy⟩:=(by unfold kW at hn;exact hn:∃ b r a t,L[f]?=some a/\M.ts[f]?=some t/\ed M f b r/\_);refine ⟨AA,L,M,f,b2,r2,a2,t2,i',rfl,rfl,D5,iT,xR,fun l2 H2 s2 hV cY=>?_⟩;exact ⟨m,KM m,s'.trans s2,f,l2,b2,r2,some (V.ref p),rfl,cY,xR,Fy⟩
 ·rw [xL hj] at et;rw [pi (by omega)];subst et;refine aY ?_;left;exact q _ s'
abbrev ad0 (M:Hs):List Str:=Ja (M.tr.map (·.1))
section
variable {CH CS CT:Addr} {H H':Hp} {A:Ad} {L:List Ta} {M:Hs}
end
def vO (C:Addr) (f1 f2:Str):Sp:=KZ fun x v1 v2 H Q _=>X1 fun dx=>A2 (H x=some (.ins C dx [])) (Q .aq (upd H x (.ins C dx (ax f2 v2 (ax f1 v1 [])))))
def Ug:T.rP.k P w mg base 1 (vO T.eQ "number" "way"):=by
 refine T.rP.F.ok PL (fun _ _ _ _ h=>mP h fun _ _ _ _=>rfl) fun _ A _ s H vs Q E hr h=>mP h fun x v1 v2 h=>?_;obtain ⟨dx,hx,q⟩:=h;refine ⟨_,((ad (bu T.vG T.FO (ac 0) (ac 1))
 (ao (bu T.vG T.WB (ac 0) (ac 2))))).h,?_⟩
 refine stI [some (V.ref x),some v1,some v2] ?_;right;refine ⟨x,dx,_,rfl,hx,by decide,?_⟩;refine ⟨x,dx,_,rfl,au,by walk_at "f",?_⟩;rw [jK];exact q
def QL:T.tS.k P w mg base 1 (vO T.lI "folder" "name"):=by
 refine T.tS.F.ok Qg (fun _ _ _ _ h=>mP h fun _ _ _ _=>rfl) fun _ A _ s H vs Q E hr h=>mP h fun x v1 v2 h=>?_;obtain ⟨dx,hx,q⟩:=h;refine ⟨_,((ad (bu T.nA T.wo (ac 0) (ac 1))
 (ao (bu T.nA T.DV (ac 0) (ac 2))))).h,?_⟩
 refine stI [some (V.ref x),some v1,some v2] ?_;right;refine ⟨x,dx,_,rfl,hx,by decide,?_⟩;refine ⟨x,dx,_,rfl,au,by walk_at "f",?_⟩;rw [jK];exact q
def Q1:T.rJ.k P w mg base 1 (vO T.e8 "step" "reason"):=by
 refine T.rJ.F.ok T9 (fun _ _ _ _ h=>mP h fun _ _ _ _=>rfl) fun _ A _ s H vs Q E hr h=>mP h fun x v1 v2 h=>?_;obtain ⟨dx,hx,q⟩:=h;refine ⟨_,((ad (bu T.zR T.Qv (ac 0) (ac 1))
 (ao (bu T.zR T.adl (ac 0) (ac 2))))).h,?_⟩
 refine stI [some (V.ref x),some v1,some v2] ?_;right;refine ⟨x,dx,_,rfl,hx,by decide,?_⟩;refine ⟨x,dx,_,rfl,au,by walk_at "f",?_⟩;rw [jK];exact q
def tm (h:Addr) (z:Str) (last:Bool) (root here:Int) (place:V) (step:Int) (av lf rd:Addr) (lr lu:Int) (told:V):List (Str×V):=[("house",.ref h),("asker",.str z),("last",.bl last),("root",.int root),("here",.int here),("place",place),("step",.int step),("asked",.ref av),("left",.ref lf),("reading",.ref rd),("leads_read",.int lr),("looked_up",.int lu),("told",told)]
structure Ws where
 here:Nat
 place:Option (Nat×Str)
 step:Nat
 asked:List Nat
 left:List (Sum Nat Str)
 bA:List Nat
 read:Nat
 look:Nat
def dX:Sum Nat Str->V
 | .inl n=>.int (n:Int)
 | .inr z=>.str z
def jF (H0 H:Hp):Option (Nat×Str)->V->Prop
 | none,v=>v=.aq
 | some (k,nm),v=>∃ p,v=.ref p/\H0 p=none/\H p=some (.tup [.int (k:Int),.str nm])
structure Cn where
 CH:Addr
 CS:Addr
 CT:Addr
 CW:Addr
 CF:Addr
 CG:Addr
 CR:Addr
 CN:Addr
 CD:Addr
 CE:Addr
abbrev Tx.cn (T:Tx K mg):Cn:=⟨T.aL,T.aV,T.bc,T.bf,T.e8,T.eQ,T.fZ,T.cw,T.bZ,T.lI⟩
structure Wd where
 L:List Ta
 M:Hs
 z:Str
 last:Bool
 root:Nat
structure Wc extends Wd where
 H0:Hp
 A:Ad
 x:Addr
 dx:Addr
 av:Addr
 rd:Addr
structure aU (N:Cn) (c:Wc) (S:Ws) (H:Hp) (lf:Addr) (told:V):Prop where
 i:aI N.CH N.CS N.CT c.H0 c.A c.L c.M
 s:ah c.H0 H
 x0:c.H0 c.x=none
 a0:c.H0 c.av=none
 l0:c.H0 lf=none
 r0:c.H0 c.rd=none
 o:∃ fs pv,H c.x=some (.ins N.CW c.dx fs)/\fs.length<=40/\jF c.H0 H S.place pv/\dh fs (tm c.A.a c.z c.last c.root S.here pv S.step c.av lf c.rd S.read S.look told)
 oa:H c.av=some (.lst (nV S.asked))
 ol:H lf=some (.lst (S.left.map dX))
 od:H c.rd=some (.lst (nV S.bA))
 n1:c.av≠lf
 n2:c.av≠c.rd
 n3:lf≠c.rd
 hz:aF (sD c.M.ro) (.inr c.z)=some (.int (c.root:Int))
section
variable {N:Cn} {c:Wc} {S:Ws} {H0 H H':Hp} {lf:Addr} {told:V}
def jF.same {p:Option (Nat×Str)} {v:V} (h:jF H0 H p v) (s:ah H H'):jF H0 H' p v:=by
 match p,h with
 | none,h=>exact h
 | some (k,nm),⟨q,e,e0,e1⟩=>exact ⟨q,e,e0,s _ _ e1⟩
def aU.same (v:aU N c S H lf told) (s:ah H H'):aU N c S H' lf told :=
 ⟨v.i,v.s.trans s,v.x0,v.a0,v.l0,v.r0,let ⟨fs,pv,e,l,p,f⟩:=v.o;⟨fs,pv,s _ _ e,l,p.same s,f⟩,s _ _ v.oa,s _ _ v.ol,s _ _ v.od,v.n1,v.n2,v.n3,v.hz⟩
def aU.m (v:aU N c S H lf told):aI N.CH N.CS N.CT H c.A c.L c.M:=v.i.same v.s
def aU.xa (v:aU N c S H lf told):c.x≠c.av/\c.x≠lf/\c.x≠c.rd:=by
 obtain ⟨fs,pv,e,_⟩:=v.o;exact ⟨bH e v.oa (by nofun),bH e v.ol (by nofun),bH e v.od (by nofun)⟩
def jF.put {p:Option (Nat×Str)} {v:V} {fs:List (Str×V)} {x dx CW:Addr} (h:jF H0 H p v) (hx:∃ gs,H x=some (.ins CW dx gs)):jF H0 (upd H x (.ins CW dx fs)) p v:=by
 match p,h with
 | none,h=>exact h
 | some (k,nm),⟨q,e,e0,e1⟩ =>
  obtain ⟨gs,hx⟩:=hx;exact ⟨q,e,e0,by rw [ag (pp (bH hx e1 (by nofun)))];exact e1⟩
def aU.put (f:Str) (u:V) (S':Ws) (told':V) (v:aU N c S H lf told) (w:V) (hw:∀ pv,List.lookup f (tm c.A.a c.z c.last c.root S.here pv S.step c.av lf c.rd S.read S.look told)=some w:=by exact fun _=>rfl)
  (hp:S'.place=S.place:=by rfl) (ha:S'.asked=S.asked:=by rfl) (hl:S'.left=S.left:=by rfl) (hr:S'.bA=S.bA:=by rfl)
  (e:∀ pv g,List.lookup g (ax f u (tm c.A.a c.z c.last c.root S.here pv S.step c.av lf c.rd S.read S.look told))=List.lookup g (tm c.A.a c.z c.last c.root S'.here pv S'.step c.av lf c.rd S'.read S'.look told'):=by exact fun _ _=>rfl) :
  ∃ fs,H c.x=some (.ins N.CW c.dx fs)/\fs.length < 1000/\List.lookup f fs=some w/\aU N c S' (upd H c.x (.ins N.CW c.dx (ax f u fs))) lf told':=by
 obtain ⟨fs,pv,e1,l,p,sf⟩:=v.o;have hf:List.lookup f fs=some w:=(sf f).trans (hw pv);exact ⟨fs,e1,by omega,hf,⟨v.i,v.s.gk v.x0,v.x0,v.a0,v.l0,v.r0,⟨_,pv,au,by rw [g9 hf];exact l,by rw [hp];exact p.put ⟨fs,e1⟩,fun g=>((sf.put f u) g).trans (e pv g)⟩,by rw [ag (pp v.xa.1),ha];exact v.oa,by rw [ag (pp v.xa.2.1),hl];exact v.ol,by rw [ag (pp v.xa.2.2),hr];exact v.od,v.n1,v.n2,v.n3,v.hz⟩⟩
def jF.off {p:Option (Nat×Str)} {v:V} {y:Addr} {o o':HO} (h:jF H0 H p v) (hy:H y=some o) (ht:∀ xs,o≠.tup xs):jF H0 (upd H y o') p v:=by
 match p,h with
 | none,h=>exact h
 | some (k,nm),⟨q,e,e0,e1⟩ =>
  refine ⟨q,e,e0,?_⟩;rw [ag (fun z=>?_)]
  ·exact e1
  ·rw [z,hy] at e1;exact ht _ (Fa e1)
def aU.off {y:Addr} {o o':HO} (v:aU N c S H lf told) (y0:c.H0 y=none) (hy:H y=some o) (nx:c.x≠y) (na:c.av≠y) (nl:lf≠y) (nr:c.rd≠y) (ht:∀ xs,o≠.tup xs):aU N c S (upd H y o') lf told:=by
 obtain ⟨gs,pv,e,l,p,f⟩:=v.o;exact ⟨v.i,v.s.gk y0,v.x0,v.a0,v.l0,v.r0,⟨gs,pv,by rw [ag nx];exact e,l,p.off hy ht,f⟩,by rw [ag na];exact v.oa,by rw [ag nl];exact v.ol,by rw [ag nr];exact v.od,v.n1,v.n2,v.n3,v.hz⟩
def aU.ab2 (v:aU N c S H lf told) (ks:List Nat):aU N c { S with asked:=ks } (upd H c.av (.lst (nV ks))) lf told:=by
 obtain ⟨gs,pv,e,l,p,f⟩:=v.o;exact ⟨v.i,v.s.gk v.a0,v.x0,v.a0,v.l0,v.r0,⟨gs,pv,by rw [ag v.xa.1];exact e,l,p.off v.oa (by nofun),f⟩,au,by rw [ag (pp v.n1)];exact v.ol,by rw [ag (pp v.n2)];exact v.od,v.n1,v.n2,v.n3,v.hz⟩
def aU.tX (v:aU N c S H lf told) (ts:List (Sum Nat Str)):aU N c { S with left:=ts } (upd H lf (.lst (ts.map dX))) lf told:=by
 obtain ⟨gs,pv,e,l,p,f⟩:=v.o;exact ⟨v.i,v.s.gk v.l0,v.x0,v.a0,v.l0,v.r0,⟨gs,pv,by rw [ag v.xa.2.1];exact e,l,p.off v.ol (by nofun),f⟩,by rw [ag v.n1];exact v.oa,au,by rw [ag (pp v.n3)];exact v.od,v.n1,v.n2,v.n3,v.hz⟩
def aU.Ib (v:aU N c S H lf told) (ks:List Nat):aU N c { S with bA:=ks } (upd H c.rd (.lst (nV ks))) lf told:=by
 obtain ⟨gs,pv,e,l,p,f⟩:=v.o;exact ⟨v.i,v.s.gk v.r0,v.x0,v.a0,v.l0,v.r0,⟨gs,pv,by rw [ag v.xa.2.2];exact e,l,p.off v.od (by nofun),f⟩,by rw [ag v.n2];exact v.oa,by rw [ag v.n3];exact v.ol,au,v.n1,v.n2,v.n3,v.hz⟩
def aU.acr (v:aU N c S H lf told) (k:Nat):aU N c { S with asked:=S.asked++[k] } (upd H c.av (.lst (nV S.asked++[.int (k:Int)]))) lf told:=by
 have:=v.ab2 (S.asked++[k]);rw [nM] at this;exact this
def aU.Zh (v:aU N c S H lf told) (k:Nat):aU N c { S with bA:=S.bA++[k] } (upd H c.rd (.lst (nV S.bA++[.int (k:Int)]))) lf told:=by
 have:=v.Ib (S.bA++[k]);rw [nM] at this;exact this
def aU.Yl (v:aU N c S H lf told) (k:Nat):aU N c { S with left:=S.left++[.inl k] } (upd H lf (.lst (S.left.map dX++[.int (k:Int)]))) lf told:=by
 have:=v.tX (S.left++[.inl k]);rw [Fr] at this;exact this
def aU.Ss (v:aU N c S H lf told) (ts:List (Sum Nat Str)):aU N c { S with left:=S.left++ts } (upd H lf (.lst (S.left.map dX++ts.map dX))) lf told:=by
 have:=v.tX (S.left++ts);rw [Fr] at this;exact this
def aU.fresh {y:Addr} (v:aU N c S H lf told) (hy:H y=none):c.H0 y=none:=by
 cases e:c.H0 y with
 | none=>rfl
 | some o=>rw [v.s y o e] at hy;cases hy
def aU.Xi {l:Addr} {ts:List (Sum Nat Str)} (v:aU N c S H lf told) (l0:c.H0 l=none) (hl:H l=some (.lst (ts.map dX))) (n1:c.av≠l) (n3:l≠c.rd):∃ fs,H c.x=some (.ins N.CW c.dx fs)/\fs.length < 1000/\aU N c { S with left:=ts } (upd H c.x (.ins N.CW c.dx (ax "left" (.ref l) fs))) l told:=by
 obtain ⟨fs,pv,e,le,p,f⟩:=v.o;have nx:c.x≠l:=bH e hl (by nofun);exact ⟨fs,e,by omega,⟨v.i,v.s.gk v.x0,v.x0,v.a0,l0,v.r0,⟨_,pv,au,by rw [g9 (u:=.ref lf) ((f _).trans rfl)];exact le,p.put ⟨fs,e⟩,fun g=>((f.put "left" (.ref l)) g).trans rfl⟩,by rw [ag (pp v.xa.1)];exact v.oa,by rw [ag (pp nx)];exact hl,by rw [ag (pp v.xa.2.2)];exact v.od,n1,v.n2,n3,v.hz⟩⟩
def aU.fld (v:aU N c S H lf told):∃ fs pv,H c.x=some (.ins N.CW c.dx fs)/\fs.length < 1000/\dh fs (tm c.A.a c.z c.last c.root S.here pv S.step c.av lf c.rd S.read S.look told):=by
 obtain ⟨fs,pv,e,l,p,f⟩:=v.o;exact ⟨fs,pv,e,by omega,f⟩
def aU.placed {p:Addr} {k:Nat} {nm:Str} (v:aU N c S H lf told) (p0:c.H0 p=none) (hp:H p=some (.tup [.int (k:Int),.str nm])):∃ fs,H c.x=some (.ins N.CW c.dx fs)/\fs.length < 1000/\aU N c { S with place:=some (k,nm) } (upd H c.x (.ins N.CW c.dx (ax "place" (.ref p) fs))) lf told:=by
 obtain ⟨fs,pv,e,l,_,f⟩:=v.o;exact ⟨fs,e,by omega,⟨v.i,v.s.gk v.x0,v.x0,v.a0,v.l0,v.r0,⟨_,.ref p,au,by rw [g9 (u:=pv) ((f _).trans rfl)];exact l,⟨p,rfl,p0,by rw [ag (pp (bH e hp (by nofun)))];exact hp⟩,fun g=>((f.put "place" (.ref p)) g).trans rfl⟩,by rw [ag (pp v.xa.1)];exact v.oa,by rw [ag (pp v.xa.2.1)];exact v.ol,by rw [ag (pp v.xa.2.2)];exact v.od,v.n1,v.n2,v.n3,v.hz⟩⟩
end
def Sg (N:Cn):Sp:=JA fun x h z last H Q _=>X6 fun A L M dx H0 (root:Nat)=>A7 (aI N.CH N.CS N.CT H0 A L M) (A.a=h) (H x=some (.ins N.CW dx [])) (ah H0 H) (H0 x=none) (aF (sD M.ro) (.inr z)=some (.int (root:Int))) (∀ av lf rd H',aU N ⟨⟨L,M,z,last,root⟩,H0,A,x,dx,av,rd⟩ ⟨root,none,0,[],[],[],0,0⟩ H' lf .aq->Q .aq H')
def OW:T.sV.k P w mg base 3 (Sg T.cn):=by
 refine T.sV.F.ok P0 (fun _ _ _ _ h=>JJ h fun _ _ _ _ _=>rfl) fun _ A _ s H vs Q E hr h=>JJ h fun x hh z last h=>?_;obtain ⟨AA,L,M,dx,H0,root,i,rfl,hx,s0,x0,hz,q⟩:=h;refine bK (b:=aQ Bp) ((ad (bu T.aH T.fK (ac 0) (ac 1))
 (ad (bu T.aH T.tW (ac 0) (ac 2))
 (ad (bu T.aH T.Hy (ac 0) (ac 3))
 (ad (bu T.aH T.rT (ac 0) (bI T.aN T.kL.h (DH T) hr.m T.kL.b .nil aC (ac 1) (aa (ac 2) ae)))
 (ad (bu T.aH T.fP (ac 0) (ap T.aH T.rT (ac 0)))
 (ad (bu T.aH T.wK (ac 0) aq)
 (ad (bu T.aH T.Bb (ac 0) bi)
 (ad (bu T.aH T.Kn (ac 0) (cr ae))
 (ad (bu T.aH T.nv (ac 0) (cr ae))
 (ad (bu T.aH T.qw (ac 0) (cr ae))
 (ad (bu T.aH T.A0 (ac 0) bi)
 (ad (bu T.aH T.KH (ac 0) bi)
 (ao (bu T.aH T.my (ac 0) aq))))))))))))))) ?_
 refine stI [some (V.ref x),some (V.ref AA.a),some (V.str z),some (V.bl last)] ?_;right;refine ⟨x,dx,_,rfl,hx,by decide,ai ?_⟩;left;refine ⟨x,dx,_,rfl,au,by walk_at "f",ai ?_⟩;left;refine ⟨x,dx,_,rfl,au,by walk_at "f",ai ?_⟩;simp only [jK];left;have s1:=s0.gk (o:=.ins T.bf dx (ax "last" (.bl last) (ax "asker" (.str z) (ax "house" (.ref AA.a) [])))) x0;have b1:upd H x (.ins T.bf dx (ax "last" (.bl last) (ax "asker" (.str z) (ax "house" (.ref AA.a) [])))) x=some (.ins T.bf dx (ax "last" (.bl last) (ax "asker" (.str z) (ax "house" (.ref AA.a) [])))):=au;generalize upd H x (.ins T.bf dx (ax "last" (.bl last) (ax "asker" (.str z) (ax "house" (.ref AA.a) []))))=H1 at s1 b1 ⊢;have i1:=i.same s1;obtain ⟨fs,c,bB,aX,sf⟩:=i1.h;refine (mI bB sf ⟨AA,L,M,root,i1,rfl,hz,?_⟩);refine ⟨x,dx,_,rfl,b1,by walk_at "f",ai ?_⟩;left;refine ⟨x,dx,_,_,rfl,au,rfl,x,dx,_,rfl,au,by walk_at "f",ai ?_⟩;left;refine ⟨x,dx,_,rfl,au,by walk_at "f",ai ?_⟩;left;refine ⟨x,dx,_,rfl,au,by walk_at "f",ai ?_⟩;simp only [jK];left;have MS:dh (ax "step" (.int 0) (ax "place" .aq (ax "here" (.int (root:Int)) (ax "root" (.int (root:Int)) (ax "last" (.bl last) (ax "asker" (.str z) (ax "house" (.ref AA.a) []))))))) [("house",.ref AA.a),("asker",.str z),("last",.bl last),("root",.int (root:Int)),("here",.int (root:Int)),("place",.aq),("step",.int 0)]:=fun f=>rfl;have NO:(ax "step" (.int 0) (ax "place" .aq (ax "here" (.int (root:Int)) (ax "root" (.int (root:Int)) (ax "last" (.bl last) (ax "asker" (.str z) (ax "house" (.ref AA.a) []))))))).length<=10:=by (repeat (refine bV ?_));exact Da _
 generalize (ax "step" (.int 0) (ax "place" .aq (ax "here" (.int (root:Int)) (ax "root" (.int (root:Int)) (ax "last" (.bl last) (ax "asker" (.str z) (ax "house" (.ref AA.a) [])))))))=F7 at MS NO ⊢;have s2:=s1.gk (o:=.ins T.bf dx F7) x0;have b2:upd H1 x (.ins T.bf dx F7) x=some (.ins T.bf dx F7):=au;generalize upd H1 x (.ins T.bf dx F7)=H2 at s2 b2 ⊢;have bL:∀ {J:Hp} {d:Addr},ah H0 J->J d=none->H0 d=none:=fun {J d} k hn=>by
  cases e:H0 d with
  | none=>rfl
  | some o=>rw [k d o e] at hn;cases hn
 refine ⟨fits (by simp),fun av rE=>?_⟩;refine ⟨x,dx,_,rfl,by rw [ag (aG b2 rE)];exact b2,by omega,ai ?_⟩;obtain ⟨b3,o3,old3,n3⟩:=Df (o:=.lst []) (O:=.ins T.bf dx (ax "asked" (.ref av) F7)) rE b2;have s3:=(s2.trans (ah.upd (o:=.lst []) rE)).gk (o:=.ins T.bf dx (ax "asked" (.ref av) F7)) x0;have av0:=bL s2 rE;generalize upd (upd H2 av (.lst [])) x (.ins T.bf dx (ax "asked" (.ref av) F7))=H3 at b3 o3 old3 s3 ⊢;left;refine ⟨fits (by simp),fun lf hlf=>?_⟩;have l1:(ax "asked" (.ref av) F7).length<=11:=bV NO;refine ⟨x,dx,_,rfl,by rw [ag (aG b3 hlf)];exact b3,by omega,ai ?_⟩;obtain ⟨b4,o4,Nn,n4⟩:=Df (o:=.lst []) (O:=.ins T.bf dx (ax "left" (.ref lf) (ax "asked" (.ref av) F7))) hlf b3;have s4:=(s3.trans (ah.upd (o:=.lst []) hlf)).gk (o:=.ins T.bf dx (ax "left" (.ref lf) (ax "asked" (.ref av) F7))) x0;have lf0:=bL s3 hlf;have Ff:av≠lf:=aG o3 hlf;have EC:=Nn av _ n3 o3;generalize upd (upd H3 lf (.lst [])) x (.ins T.bf dx (ax "left" (.ref lf) (ax "asked" (.ref av) F7)))=H4 at b4 o4 Nn s4 EC ⊢;left;refine ⟨fits (by simp),fun rd gJ=>?_⟩;have l2:(ax "left" (.ref lf) (ax "asked" (.ref av) F7)).length<=12:=bV l1;refine ⟨x,dx,_,rfl,by rw [ag (aG b4 gJ)];exact b4,by omega,ai ?_⟩;obtain ⟨b5,o5,EA,n5⟩:=Df (o:=.lst []) (O:=.ins T.bf dx (ax "reading" (.ref rd) (ax "left" (.ref lf) (ax "asked" (.ref av) F7)))) gJ b4;have s5:=(s4.trans (ah.upd (o:=.lst []) gJ)).gk (o:=.ins T.bf dx (ax "reading" (.ref rd) (ax "left" (.ref lf) (ax "asked" (.ref av) F7)))) x0;have Nc:=EA av _ n3 EC;have NM:=EA lf _ n4 o4;have rd0:=bL s4 gJ;have nar:av≠rd:=aG EC gJ;have Fl:lf≠rd:=aG o4 gJ;generalize upd (upd H4 rd (.lst [])) x (.ins T.bf dx (ax "reading" (.ref rd) (ax "left" (.ref lf) (ax "asked" (.ref av) F7))))=H5 at b5 o5 EA s5 Nc NM ⊢;have l3:(ax "reading" (.ref rd) (ax "left" (.ref lf) (ax "asked" (.ref av) F7))).length<=13:=bV l2;left;refine ⟨x,dx,_,rfl,b5,by omega,ai ?_⟩;have l4:(ax "leads_read" (.int 0) (ax "reading" (.ref rd) (ax "left" (.ref lf) (ax "asked" (.ref av) F7)))).length<=14:=bV l3;left;refine ⟨x,dx,_,rfl,au,by omega,?_⟩;have l5:(ax "looked_up" (.int 0) (ax "leads_read" (.int 0) (ax "reading" (.ref rd) (ax "left" (.ref lf) (ax "asked" (.ref av) F7))))).length<=15:=bV l4;refine ⟨x,dx,_,rfl,au,by omega,?_⟩;simp only [jK];refine q av lf rd _ ⟨i,s5.gk x0,x0,av0,lf0,rd0,⟨_,.aq,au,wl (bV l5) (by decide),rfl,fun f=>?_⟩,by rw [ag n3];exact Nc,by rw [ag n4];exact NM,by rw [ag n5];exact o5,Ff,nar,Fl,hz⟩;exact ((((((MS.put "asked" (.ref av)).put "left" (.ref lf)).put "reading" (.ref rd)).put "leads_read" (.int 0)).put "looked_up" (.int 0)).put "told" .aq f).trans rfl
abbrev zN (k:Nat) (r:Str):List (Str×V):=ax "reason" (.str r) (ax "step" (.int (k:Int)) [])
inductive Tl
 | fail (y:Str)
 | ring (ns:List Nat)
def sN (N:Cn) (H0 H:Hp) (step:Nat) (fd:Addr):Tl->Prop
 | .fail y=>H0 fd=none/\∃ bF,H fd=some (.ins N.CF bF (zN step y))
 | .ring ns=>H0 fd=none/\∃ bF rl,H fd=some (.ins N.CR bF (ax "leads" (.ref rl) []))/\H rl=some (.lst (nV ns))
structure tF (N:Cn) (c:Wc) (S:Ws) (lf:Addr) (o:Option Tl) (R:Hp->Prop):Prop where
 n:o=none->∀ H',aU N c S H' lf .aq->R H'
 y:∀ t,o=some t->∀ fd H',aU N c S H' lf (.ref fd)->sN N c.H0 H' S.step fd t->R H'
def aaa (N:Cn):Sp:=kh fun x r H Q _=>X3 fun c S lf=>A3 (c.x=x) (aU N c S H lf .aq) (tF N c S lf (some (.fail r)) (Q .aq))
def aU.tells {N:Cn} {c:Wc} {S:Ws} {H H4:Hp} {lf fd bF C:Addr} {F:List (Str×V)} {t:Tl} (v:aU N c S H lf .aq) (cu:H fd=none) (s4:ah H H4) (b4:H4 fd=some (.ins C bF [])) :
  ∃ fs,upd H4 fd (.ins C bF F) c.x=some (.ins N.CW c.dx fs)/\fs.length < 1000/\aU N c S (upd (upd H4 fd (.ins C bF F)) c.x (.ins N.CW c.dx (ax "told" (.ref fd) fs))) lf (.ref fd)/\c.H0 fd=none/\c.x≠fd:=by
 obtain ⟨fs,pv,hx,aX,sf⟩:=v.fld;have f0:=v.fresh cu;have nx:c.x≠fd:=aG hx cu;have v5:=(v.same s4).off (o':=.ins C bF F) f0 b4 nx (aG v.oa cu) (aG v.ol cu) (aG v.od cu) (by nofun);obtain ⟨yt,pe,hZ,_,v6⟩:=v5.put "told" (.ref fd) S (.ref fd) .aq;exact ⟨yt,pe,hZ,v6,f0,nx⟩
def sH:T.g8.k P w mg base 3 (aaa T.cn):=by
 refine T.g8.F.ok Te (fun _ _ _ _ h=>e9 h fun _ _ _=>rfl) fun _ A _ s H vs Q E hr h=>e9 h fun x r h=>?_;obtain ⟨c,S,lf,rfl,v,q⟩:=h;refine bK (b:=aQ yM) ((ao (bu T.aH T.my (ac 0) (im T.Sm (Q1 T) hr.m T.Rp T.rJ.b .nil aC (aa (ap T.aH T.Bb (ac 0)) (aa (ac 1) ae)))))) ?_;refine stI [some (V.ref c.x),some (V.str r)] ?_;obtain ⟨fs,pv,hx,aX,sf⟩:=v.fld;left;refine (fI hx sf rfl (fun fd bF cu hdfd nfd=>?_));have s4:=(ah.upd (o:=.own fd) hdfd).trans (ah.upd (p:=fd) (o:=.ins T.e8 bF []) (by rw [ag (pp nfd)];exact cu));have b4:upd (upd H bF (.own fd)) fd (.ins T.e8 bF []) fd=some (.ins T.e8 bF []):=au;generalize upd (upd H bF (.own fd)) fd (.ins T.e8 bF [])=H4 at s4 b4 ⊢;refine ⟨bF,b4,rfl,?_⟩;obtain ⟨yt,pe,hZ,v6,f0,nx⟩:=v.tells (t:=.fail r) (F:=zN S.step r) cu s4 b4;exact ⟨c.x,_,_,rfl,pe,hZ,q.y _ rfl fd _ v6 ⟨f0,bF,by rw [ag (pp nx)];exact au⟩⟩
def lh:List Nat->Nat
 | []=>0
 | [a]=>a
 | a::b::r=>min a (lh (b::r))
def yI:∀ {ns:List Nat},ns≠[]->lh ns∈ns
 | [],h=>absurd rfl h
 | [a],_=>by simp [lh]
 | a::b::r,_=>by
  have:=yI (ns:=b::r) (by simp);unfold lh;rcases Nat.le_total a (lh (b::r)) with h | h
  ·rw [Nat.min_eq_left h];simp
  ·rw [Nat.min_eq_right h];exact Db _ this
def Mn:∀ {ns:List Nat} {k:Nat},k∈ns->lh ns<=k
 | [a],k,h=>by rw [wf.mp h];exact sK _
 | a::b::r,k,h=>by
  unfold lh;rcases lv.mp h with rfl | h
  ·exact Nat.min_le_left _ _
  ·exact wl (Nat.min_le_right _ _) (Mn h)
def lO (ns:List Nat):List Nat:=ns.drop (ns.idxOf (lh ns))++ns.take (ns.idxOf (lh ns))
def JH (ns:List Nat):nV ns=(ns.map (fun k:Nat=>(k:Int))).map V.int:=by
 unfold nV;rw [Re];rfl
def CJ (k:Nat):∀ ns:List Nat,(ns.map (fun k:Nat=>(k:Int))).idxOf (k:Int)=ns.idxOf k
 | []=>rfl
 | a::r=>by
  have h:((a:Int) == (k:Int))=(a == k):=by
   rw [ZB,WF,WF];omega
  rw [wT,List.idxOf_cons,List.idxOf_cons,CJ k r,h]
def mem_cast {k:Nat} {ns:List Nat} (h:k∈ns):(k:Int)∈ns.map (fun k:Nat=>(k:Int)):=Cl.mpr ⟨k,h,rfl⟩
def VJ:Sp:=lL fun l H Q _=>X1 fun (ns:List Nat)=>A4 (H l=some (.lst (nV ns))) (ns≠[]) (ns.length<=500) (∀ l' H',ah H H'->H l'=none->H' l'=some (.lst (nV (lO ns)))->Q (.ref l') H')
def abC:T.qa.k P w base 1 VJ:=by
 refine T.qa.F.ok IG (fun _ _ _ _ h=>gG h fun _ _=>rfl) fun _ A _ s H vs Q E hr h=>gG h fun l h=>?_;obtain ⟨ns,hl,cM,hlen,q⟩:=h;refine bK (b:=aQ DR) ((ad (aP 1 IG.nd (gp _K PySem.F.type_list_index (Gi (K:=K) rfl) (ac 0) (aa (bQ (acg (K:=K) rfl rfl) T.Gk UE (aa (ac 0) ae)) ae)))
 (ao (aO (db fU (kt (uH (K:=K) rfl) (ac 0) (sd (ac 1)) uJ) (kt (uH (K:=K) rfl) (ac 0) uJ (sd (ac 1)))))))) ?_
 refine stI [some (V.ref l),none] ?_;right;simp only [hl];have hS:aD K H l ((ns.map (fun k:Nat=>(k:Int))).map V.int):=aD.of (by rw [hl,JH]);refine ⟨_,_,hS,mem_cast (yI cM),fun k hk=>?_,_,hS,mem_cast (yI cM),nV ns,aD.of hl,fun p hp=>?_⟩
 ·obtain ⟨k',hk',rfl⟩:=Cl.mp hk;have:=Mn hk';omega
 rw [CJ,HM];refine eC hp fun H1 s1 b1=>?_;refine ⟨nV ns,aD.of (s1 _ _ hl),fun p2 gL=>?_⟩;rw [YQ];refine eC gL fun H2 s2 b2=>?_;simp only [s2 _ _ b1,b2];refine ⟨fits (by simp [nV];omega),fun p3 hU=>?_⟩;refine q p3 _ ((s1.trans s2).trans (ah.upd hU)) ?_ ?_
 ·cases e:H p3 with
  | none=>rfl
  | some o=>rw [(s1.trans s2) _ _ e] at hU;cases hU
 ·rw [au];unfold lO nV;rw [Fr,List.map_drop,List.map_take]
def VN (C:Addr):Sp:=sQ fun x l H Q _=>X2 fun dx ns=>A3 (H x=some (.ins C dx [])) (H l=some (.lst (nV ns))) (∀ rl,H rl=none->Q .aq (upd (upd H rl (.lst (nV ns))) x (.ins C dx (ax "leads" (.ref rl) []))))
def WX:T.sR.k P w mg base 1 (VN T.fZ):=by
 refine T.sR.F.ok acA (fun _ _ _ _ h=>mD h fun _ _ _=>rfl) fun _ A _ s H vs Q E hr h=>mD h fun x l h=>?_;obtain ⟨dx,ns,hx,hl,q⟩:=h;refine bK (b:=aQ yF) ((ao (bu T.Lw T.R5 (ac 0) (xq (ac2 (K:=K) rfl) T.sT GP (aa (ac 1) ae))))) ?_;refine stI [some (V.ref x),some (V.ref l)] ?_;left;simp only [bU,hl];exact fun rl iY=>⟨x,dx,_,rfl,by rw [ag (aG hx iY)];exact hx,by decide,q rl iY⟩
def cP (ps:List Str):List (Sum Nat Str):=(ps.map Sum.inr).reverse
def F4 (ps:List Str):(cP ps).map dX=(ps.map V.str).reverse:=by
 unfold cP;rw [List.map_reverse,Re];rfl
def ZW (N:Cn):Sp:=II fun x fr lp H Q _=>Gj fun c S lf (st:Nat) (b:Nat) (ps:List Str) (r:List Nat) (a:Ta) (t:Th) (sn:Bool)=>AB (c.x=x) (aU N c S H lf .aq) (H lp=some (.lst (ps.map V.str))) (fr=true/\st=c.root\/fr=false/\aF (sD c.M.st) (.inr c.z)=some (.int (st:Int))) (c.L[st]?=some a) (c.M.ts[st]?=some t) (ed c.M st b r) (∃ m,kW c.M c.L c.root m (dk b r) sn) (sn=true->∀ lf' H',aU N c { S with here:=dk b r,left:=cP ps } H' lf' .aq->Q .aq H') (sn=false->tF N c { S with here:=dk b r } lf (some (.fail "outside")) (Q .aq))
def QR:T.uK.k P w mg base 7 (ZW T.cn):=by
 refine T.uK.F.ok FG (fun _ _ _ _ h=>JQ h fun _ _ _ _=>rfl) fun _ A _ s H vs Q E hr h=>JQ h fun x fr lp h=>?_;obtain ⟨c,S,lf,st,b,ps,r,a,t,sn,rfl,v,ph,aJ,ha,ht,EB,EY,q1,q2⟩:=h;obtain ⟨fs,pv,hx,aX,sf⟩:=v.fld;refine bK (b:=aQ Af) ((ad (aP 3 FG.nd (HK (cQ (ac 1)) (ap T.aH T.rT (ac 0)) (bI T.aN T.sF.h (adI T) hr.m T.sF.b .nil aC (ap T.aH T.fK (ac 0)) (aa (ap T.aH T.tW (ac 0)) ae))))
 (ad (bu T.aH T.fP (ac 0) (bn (xn T) hr.m T.gb.m T.gb.F.kp T.gb.b .nil aC (aa (ap T.aH T.fK (ac 0)) (aa (ac 3) ae))))
 (ao (aZ (cQ (bn (Wr T) hr.m T.qD.m T.qD.F.kp T.qD.b .nil aC (aa (ap T.aH T.fK (ac 0)) (aa (ap T.aH T.tW (ac 0)) (aa (ap T.aH T.fP (ac 0)) ae))))) (ao (bu T.aH T.nv (ac 0) (Dv.listRev (K:=K) rfl rfl T.sT T.zu (ac 2)))) (ao (aS (bI T.aH T.g8.h (sH T) hr.m T.g8.b .nil aC (ac 0) (aa am ae))))))))) ?_
 refine stI [some (V.ref c.x),some (V.bl fr),some (V.ref lp),none] ?_;refine c8 (fun σ' H'=>σ'=[some (V.ref c.x),some (V.bl fr),some (V.ref lp),some (V.int (st:Int))]/\H'=H) ?_ ?_
 ·left;rcases aJ with ⟨rfl,rfl⟩ | ⟨rfl,aJ⟩
  ·exact bD (fI hx sf rfl ⟨rfl,by trivial⟩)
  ·obtain ⟨fN,hc,hh,rn,hJ⟩:=v.m.h;exact aY (fI hx sf rfl (mI hh hJ (fI hx sf rfl ⟨c.A,c.L,c.M,st,v.m,rfl,by rw [v.hz];rfl,aJ,rfl,by first | rfl | trivial⟩)))
 rintro σ' H' ⟨rfl,rfl⟩;right;refine (fI hx sf rfl ⟨c.A,c.L,c.M,st,b,r,a,t,v.m,rfl,rfl,ha,ht,EB,fun H1 s1=>?_⟩);have v1:=v.same s1;obtain ⟨iQ,bB,jt,_,v2⟩:=v1.put "here" (.int ((dk b r:Nat):Int)) { S with here:=dk b r } .aq _;refine ⟨c.x,_,_,rfl,bB,by first | exact jt | exact oO | omega,?_⟩;have hlp1:=s1 _ _ ph;have Em:lp≠c.x:=fun e=>by rw [e,hx] at ph;cases ph
 have Ou:upd H1 c.x (.ins T.bf c.dx (ax "here" (.int ((dk b r:Nat):Int)) iQ)) lp=some (.lst (ps.map V.str)):=by rw [ag Em];exact hlp1
 generalize upd H1 c.x (.ins T.bf c.dx (ax "here" (.int ((dk b r:Nat):Int)) iQ))=H2 at v2 Ou ⊢;obtain ⟨jx,oW,cj,iS,cq⟩:=v2.fld;left;refine (fI cj cq rfl (fI cj cq rfl (fI cj cq rfl ⟨c.A,c.L,c.M,dk b r,c.root,sn,v2.m,rfl,rfl,v2.hz,EY,fun H3 s3=>?_⟩)));have v3:=v2.same s3;cases sn
 ·obtain ⟨jz,oS,eK,ia,eY⟩:=v3.fld;exact aY (mI eK eY ⟨c,_,lf,rfl,v3,q2 rfl⟩)
 ·refine bD ?_;refine ⟨lp,ps.map V.str,rfl,aD.of (s3 _ _ Ou),fun l hl=>?_⟩;have v4:=v3.same (ah.upd (o:=.lst (ps.map V.str).reverse) hl);have b4:upd H3 l (.lst (ps.map V.str).reverse) l=some (.lst ((cP ps).map dX)):=by rw [au,F4]
  have l0:=v3.fresh hl;have Ff:c.av≠l:=aG v3.oa hl;have Fl:l≠c.rd:=pp (aG v3.od hl);generalize upd H3 l (.lst (ps.map V.str).reverse)=H4 at v4 b4 ⊢;obtain ⟨qY,gv,oO,v5⟩:=v4.Xi l0 b4 Ff Fl;exact ⟨c.x,_,_,rfl,gv,by first | exact jt | exact oO | omega,q1 rfl l _ v5⟩
def jY (M:Hs) (L:List Ta) (root:Nat):Nat->Nat->List Str->Prop
 | n,k,ns=>∃ b r a t,L[k]?=some a/\M.ts[k]?=some t/\ed M k b r /\
  if f6 root (b::r)=true then ns=[]
  else ∃ ab tb f z,L[b]?=some ab/\M.ts[b]?=some tb/\tb.cS=[(f,z)]/\match n with | 0=>False | n+1=>∃ ns',ns=ns'++[z]/\jY M L root n f ns'
def abI (CH CS CT:Addr):Sp:=rZ fun x z n H Q _=>X6 fun A L M (k:Nat) (root:Nat) ns=>A7 (aI CH CS CT H A L M) (A.a=x) (n=(k:Int)) (aF (sD M.ro) (.inr z)=some (.int (root:Int))) (∃ m,jY M L root m k ns) (ns.length<=500) (∀ l H',ah H H'->H' l=some (.lst (ns.map V.str))->Q (.ref l) H')
def OI:T.qI.k P w base 6 (abI T.aL T.aV T.bc):=by
 refine T.qI.F.ok qk (fun _ _ _ _ h=>jM h fun _ _ _ _=>rfl) fun _ A _ s H vs Q E hr h=>jM h fun x z n h=>?_;obtain ⟨AA,L,M,k,root,ns,i,rfl,rfl,hz,⟨m,hm⟩,hlen,q⟩:=h;obtain ⟨fs,c,hx,aX,sf⟩:=i.h;refine bK (b:=aQ Cb) ((ad (aP 3 qk.nd (bI T.aN T.kL.h (DH T) hr.m T.kL.b .nil aC (ac 0) (aa (ac 1) ae)))
 (ad (aP 4 qk.nd (cr ae))
 (ad (aP 5 qk.nd (bn (pJ T) hr.m T.eF.m T.eF.F.kp T.eF.b .nil aC (aa (ac 0) (aa (ac 2) ae))))
 (ad (uL _q (bt (zT (K:=K) rfl) (ac 3) (ac 5)) (ad (aP 6 qk.nd (bI T.aN T.kU.h (C3 T) hr.m T.kU.b .nil aC (ac 0) (aa (ci (bG (K:=K) rfl) (ac 5) bi) ae)))
 (ad (aS (gp AT Ch iL (ac 4) (aa (ci (bG (K:=K) rfl) (ac 6) bi) ae)))
 (ao (aP 5 qk.nd (bn (pJ T) hr.m T.eF.m T.eF.F.kp T.eF.b .nil aC (aa (ac 0) (aa (ci (bG (K:=K) rfl) (ac 6) bi) ae))))))))
 (ao (aO (Dv.listRev (K:=K) rfl rfl T.sT T.zu (ac 4))))))))) ?_
 refine stI [some (V.ref AA.a),some (V.str z),some (V.int (k:Int)),none,none,none,none] ?_;right;refine (mI hx sf ⟨AA,L,M,root,i,rfl,hz,?_⟩);right;refine ⟨fits (by simp),fun ln yf=>?_⟩;refine eC yf fun H1 s1 b1=>?_;have i1:=i.same s1;right;obtain ⟨b,r,a,t,ha,ht,aJ,et⟩:=(by unfold jY at hm;exact hm:∃ b r a t,L[k]?=some a/\M.ts[k]?=some t/\ed M k b r/\_);refine ⟨AA,L,M,k,b,r,a,t,i1,rfl,rfl,ha,ht,aJ,fun l2 H2 s2 hl20 cY=>?_⟩;have fF:=s1.trans s2;have c1:=s2 _ _ b1;obtain ⟨PV,lE⟩:∃ PV:Nat->St->Hp->Prop,PV=fun m σ' H'=>ah H H'/\∃ (ls:Addr) (b:Nat) (r:List Nat) (cs ns':List Str) (pv:Option V),σ'=[some (V.ref AA.a),some (V.str z),some (V.int (k:Int)),some (V.int (root:Int)),some (V.ref ln),some (V.ref ls),pv]/\H' ls=some (.lst (nV (b::r)))/\H' ln=some (.lst (cs.map V.str))/\ns=ns'++cs.reverse /\
  (if f6 root (b::r)=true then ns'=[]
   else ∃ ab tb f z,L[b]?=some ab/\M.ts[b]?=some tb/\tb.cS=[(f,z)]/\match m with | 0=>False | n+1=>∃ ns'',ns'=ns''++[z]/\jY M L root n f ns''):=⟨_,rfl⟩
 refine ai ⟨PV,⟨m,by rw [lE];exact ⟨fF,l2,b,r,[],ns,none,rfl,cY,c1,by simp,et⟩⟩,?_⟩;clear et ha ht aJ cY hl20 c1 hm fF s2;intro m σ' H' hI;rw [lE] at hI;obtain ⟨s',ls,b,r,cs,ns',pv,rfl,NR,hln',eA,et⟩:=hI;have i':=i.same s';obtain ⟨fs',c',hx',hfl',sf'⟩:=i'.h;left;refine ⟨_,.inl (aD.of NR),rfl,by simp [di],?_⟩;rw [tG];cases hmem:f6 root (b::r) with
 | true =>
  rw [At hmem] at et;subst et;refine aY ?_;left;refine ⟨ln,_,rfl,aD.of hln',fun l hl=>?_⟩;refine q l _ (s'.trans (ah.upd hl)) ?_;rw [au,eA,List.nil_append,List.map_reverse]
 | false =>
  rw [xL (by rw [hmem];nofun)] at et;obtain ⟨ab,tb,f,zz,fG,lC,bY,hn⟩:=et;refine bD ⟨fun σ' H'=>∃ m',m' < m/\PV m' σ' H',fun σ' H' h=>h,?_⟩;right;simp only [bU,NR,nV,wT,iG];refine ⟨AA.a,_,_,rfl,hx',(sf' _).trans rfl,AA,L,M,b,ab,tb,i',rfl,rfl,fG,lC,.inr ⟨f,zz,bY,fun p hp=>?_⟩⟩;right;simp only [hln',bU,hp,wZ];cases m with
  | zero=>exact hn.elim
  | succ m =>
   obtain ⟨ns2,hns2,hn⟩:=hn;have kx:cs.length<=500:=by
    have:=P3 List.length eA;simp at this;omega
   refine ⟨jO (by rw [ss];omega),?_⟩;have Em:p≠ln:=bH hp hln' (by nofun);have s4:=s'.gk (o:=.lst (List.map V.str cs++[V.str zz])) yf;have b4:upd H' ln (.lst (List.map V.str cs++[V.str zz])) ln=some (.lst ((cs++[zz]).map V.str)):=by rw [au,Fr];rfl
   have iV:upd H' ln (.lst (List.map V.str cs++[V.str zz])) p=some (.tup [V.int (f:Int),V.str zz]):=by rw [ag Em];exact hp
   generalize upd H' ln (.lst (List.map V.str cs++[V.str zz]))=H4 at s4 b4 iV ⊢;left;simp only [bU,iV,iG];obtain ⟨b2,r2,a2,t2,D5,iT,xR,Fy⟩:=(by unfold jY at hn;exact hn:∃ b r a t,L[f]?=some a/\M.ts[f]?=some t/\ed M f b r/\_);refine ⟨AA,L,M,f,b2,r2,a2,t2,i.same s4,rfl,rfl,D5,iT,xR,fun l5 H5 s5 hl50 hZ=>⟨m,KM m,?_⟩⟩;rw [lE];refine ⟨s4.trans s5,l5,b2,r2,cs++[zz],ns2,_,rfl,hZ,s5 _ _ b4,?_,Fy⟩;rw [eA,hns2];simp
def uf {a b:Nat} (h:(some (V.int (a:Int)):Option V)=some (V.int (b:Int))):a=b:=by
 have h1:=Fa h;injection h1 with h2;omega
def kQ.uniq {M:Hs}:∀ {n m k a b:Nat},kQ M n k a->kQ M m k b->a=b
 | 0,0,_,_,_,h,h'=>by rw [h.2,h'.2]
 | 0,_+1,_,_,_,h,h'=>by obtain ⟨_,e,_⟩:=h';rw [h.1] at e;cases e
 | _+1,0,_,_,_,h,h'=>by obtain ⟨_,e,_⟩:=h;rw [h'.1] at e;cases e
 | _+1,_+1,_,_,_,h,h'=>by
  obtain ⟨k1,e1,h1⟩:=h;obtain ⟨k2,e2,h2⟩:=h';rw [e1] at e2;cases uf e2;exact h1.uniq h2
def kc.uniq {M:Hs}:∀ {n m k:Nat} {a b:List Nat},kc M n k a->kc M m k b->a=b
 | 0,0,_,_,_,h,h'=>by rw [h.2,h'.2]
 | 0,_+1,_,_,_,h,h'=>by obtain ⟨_,_,e,_⟩:=h';rw [h.1] at e;cases e
 | _+1,0,_,_,_,h,h'=>by obtain ⟨_,_,e,_⟩:=h;rw [h'.1] at e;cases e
 | _+1,_+1,_,_,_,h,h'=>by
  obtain ⟨k1,r1,e1,h1,rfl⟩:=h;obtain ⟨k2,r2,e2,h2,rfl⟩:=h';rw [e1] at e2;cases uf e2;rw [h1.uniq h2]
def ed.uniq {M:Hs} {k b b':Nat} {r r':List Nat} (h:ed M k b r) (h':ed M k b' r'):b=b'/\r=r':=by
 obtain ⟨⟨_,h1⟩,_,h2,_⟩:=h;obtain ⟨⟨_,h3⟩,_,h4,_⟩:=h';obtain rfl:=h1.uniq h3;exact ⟨rfl,h2.uniq h4⟩
inductive wN (c:Wd) (h:Nat):Nat->Prop
 | gH {a t b r}:c.L[h]?=some a->c.M.ts[h]?=some t->ed c.M h b r->f6 c.root (b::r)=true->wN c h h
 | up {a t b r ab tb f zz af tf b' r'}:c.L[h]?=some a->c.M.ts[h]?=some t->ed c.M h b r->f6 c.root (b::r)=false->c.L[b]?=some ab->c.M.ts[b]?=some tb->tb.cS=[(f,zz)]->c.L[f]?=some af->c.M.ts[f]?=some tf->ed c.M f b' r'->wN c h (dk b' r')
def P1 (N:Cn):Sp:=lL fun x H Q _=>X4 fun c S lf h'=>A4 (c.x=x) (aU N c S H lf .aq) (wN c.toWd S.here h') (∀ H',aU N c { S with here:=h' } H' lf .aq->Q .aq H')
def OS:T.uo.k P w mg base 7 (P1 T.cn):=by
 refine T.uo.F.ok LU (fun _ _ _ _ h=>gG h fun _ _=>rfl) fun _ A _ s H vs Q E hr h=>gG h fun x h=>?_;obtain ⟨c,S,lf,h',rfl,v,hu,q⟩:=h;obtain ⟨fs,pv,hx,aX,sf⟩:=v.fld;refine bK (b:=aQ BZ) ((ad (aP 1 LU.nd (bn (pJ T) hr.m T.eF.m T.eF.F.kp T.eF.b .nil aC (aa (ap T.aH T.fK (ac 0)) (aa (ap T.aH T.fP (ac 0)) ae))))
 (ao (aZ (bt (zT (K:=K) rfl) (ap T.aH T.rT (ac 0)) (ac 1)) (ao (bu T.aH T.fP (ac 0) (bn (xn T) hr.m T.gb.m T.gb.F.kp T.gb.b .nil aC (aa (ap T.aH T.fK (ac 0)) (aa (ci (bG (K:=K) rfl) (bI T.aN T.kU.h (C3 T) hr.m T.kU.b .nil aC (ap T.aH T.fK (ac 0)) (aa (ci (bG (K:=K) rfl) (ac 1) bi) ae)) bi) ae))))) ce)))) ?_
 refine stI [some (V.ref c.x),none] ?_;obtain ⟨a,t,b,r,ha,aK,aJ⟩:∃ a t b r,c.L[S.here]?=some a/\c.M.ts[S.here]?=some t/\ed c.M S.here b r:=by
  cases hu <;> exact ⟨_,_,_,_,by assumption,by assumption,by assumption⟩
 right;refine (fI hx sf rfl (fI hx sf rfl ⟨c.A,c.L,c.M,S.here,b,r,a,t,v.m,rfl,rfl,ha,aK,aJ,fun l H1 s1 hV hl=>?_⟩));have v1:=v.same s1;obtain ⟨iQ,yB,bB,jt,dE⟩:=v1.fld;left;refine (fI bB dE rfl ⟨_,.inl (aD.of hl),rfl,by simp [di],?_⟩);rw [tG];cases hu with
 | gH _ _ h1 hm =>
  obtain ⟨rfl,rfl⟩:=ed.uniq h1 aJ;rw [hm];exact aY (q _ v1)
 | up _ _ h1 hm fG lC bY iZ cU hst' =>
  obtain ⟨rfl,rfl⟩:=ed.uniq h1 aJ;rw [hm];refine bD ?_;obtain ⟨fN,hc,hh,rn,hJ⟩:=v1.m.h;simp only [bU,hl,nV,wT,iG];refine (fI bB dE rfl (fI bB dE rfl (mI hh hJ ⟨c.A,c.L,c.M,_,_,_,v1.m,rfl,rfl,fG,lC,.inr ⟨_,_,bY,fun p hp=>?_⟩⟩)));simp only [hp,iG];refine ⟨c.A,c.L,c.M,_,_,_,_,_,v1.m,rfl,rfl,iZ,cU,hst',fun H2 s2=>?_⟩;obtain ⟨jx,cj,iS,_,v2⟩:=(v1.same s2).put "here" _ { S with here:=dk _ _ } .aq _;exact ⟨c.x,_,_,rfl,cj,iS,q _ v2⟩
def xu:T.jl.k P w mg base 3 (pB T.aL T.aV T.bc Ad.a Jz):=by
 refine T.jl.F.ok T4 (fun _ _ _ _ h=>dj h fun _ _ _=>rfl) fun _ A _ s H vs Q E hr h=>dj h fun x n h=>?_;obtain ⟨AA,L,M,k,a,t,i,rfl,rfl,ha,aK,q⟩:=h;obtain ⟨fs,c,hx,aX,sf⟩:=i.h;obtain ⟨gs,c2,ht,fm,sg⟩:=i.t;have eh:=gj i ha aK;obtain ⟨ks,ho,lK,so⟩:=eh.o;refine ⟨_,((ao (aO (ap T.eG T.zY (fB T.cW T.eE.h (kF T) hr.m T.eE.b .nil eN (ap T.aN T.jn (ac 0)) (aa (ac 1) ae)))))).h,?_⟩;refine stI [some (V.ref AA.a),some (V.int (k:Int))] ?_;left;exact ⟨AA.a,_,_,.ref AA.t,rfl,hx,(sf _).trans rfl,AA.t,_,_,rfl,ht,(sg _).trans rfl,mw i ha aK (fI ho so rfl q)⟩
def Cv {n:Nat} (h:n<=9000):n<=sizeLine:=wl h (by decide)
def J3 (ps:List (List Nat)):PV ps=(ps.map Tx.S).map V.str:=by
 unfold PV
 first | rfl | simp [Re,Function.comp_def]
def gZ (t:List Nat):List Str:=(told (Tx.words 47 t) t).map Tx.S
def sx (S:Ws) (k:Nat) (ps:List Str) (h:Nat):Ws:={ S with read:=S.read+1,bA:=S.bA++[k],left:=(S.left++[.inl k])++cP ps,here:=h }
inductive tH (c:Wd) (S:Ws) (k:Nat):Ws->Prop
 | mk {a tc t ar tr b r}:c.L[k]?=some a->c.M.ts[k]?=some tc->tc.tx=Tx.S t->1<=t.length->t.length<=2000->(Tx.words 47 t).all ej=true->(gZ t).length<=124->c.L[c.root]?=some ar->c.M.ts[c.root]?=some tr->ed c.M c.root b r->tH c S k (sx S k (gZ t) (if eO t=true then dk b r else S.here))
def Sd (N:Cn):Sp:=kI fun x n H Q _=>X5 fun c S lf (k:Nat) S'=>A7 (c.x=x) (n=(k:Int)) (aU N c S H lf .aq) (S.left.length<=8000) (S.bA.length<=900) (tH c.toWd S k S') (∀ H',aU N c S' H' lf .aq->Q .aq H')
def acH:T.tO.k P w mg base 7 (Sd T.cn):=by
 refine T.tO.F.ok Hx (fun _ _ _ _ h=>dj h fun _ _ _=>rfl) fun _ A _ s H vs Q E hr h=>dj h fun x n h=>?_;obtain ⟨c,S,lf,k,S',rfl,rfl,v,hl,gJ,hR,q⟩:=h;cases hR with
 | @mk a tc t ar tr b r ha pd E2 h1 h2 jb Oo har iR aJ =>
 refine bK (b:=aQ DS) ((ad (aP 2 Hx.nd (bn (qJ T) hr.m T.dQ.m T.dQ.F.kp T.dQ.b .nil aC (aa (bI T.aN T.jl.h (xu T) hr.m T.jl.b .nil aC (ap T.aH T.fK (ac 0)) (aa (ac 1) ae)) ae)))
 (ad (jV T.aH T.A0 jW (ac 0) bi)
 (ad (aS (gp AT Ch iL (ap T.aH T.qw (ac 0)) (aa (ac 1) ae)))
 (ad (aS (gp AT Ch iL (ap T.aH T.nv (ac 0)) (aa (ac 1) ae)))
 (ad (aS (gp PySem.F.slot_list_extend PySem.F.type_list_extend Uq (ap T.aH T.nv (ac 0)) (aa (Dv.listRev (K:=K) rfl rfl T.sT T.zu (ci (bG (K:=K) rfl) (ac 2) bi)) ae)))
 (ao (aZ (cQ (ci (bG (K:=K) rfl) (ac 2) bi)) (ao (bu T.aH T.fP (ac 0) (bn (xn T) hr.m T.gb.m T.gb.F.kp T.gb.b .nil aC (aa (ap T.aH T.fK (ac 0)) (aa (ap T.aH T.rT (ac 0)) ae))))) ce)))))))) ?_
 refine stI [some (V.ref c.x),some (V.int (k:Int)),none] ?_;obtain ⟨fs,pv,hx,aX,sf⟩:=v.fld;obtain ⟨fN,hc,hh,rn,hJ⟩:=v.m.h;right;refine (fI hx sf rfl (mI hh hJ ⟨c.A,c.L,c.M,k,a,tc,v.m,rfl,rfl,ha,pd,?_⟩));simp only [Jz];refine ⟨t,E2,h1,h2,jb,fun H1 l p s1 hV dC hp=>?_⟩;have v1:=v.same s1;obtain ⟨iQ,bB,jt,lG,v2⟩:=v1.put "leads_read" (.int ((S.read:Int)+1)) { S with read:=S.read+1 } .aq _;right;refine ⟨c.x,_,_,_,rfl,bB,lG,_,_,rfl,rfl,_,_,bB,jt,ai ?_⟩;have hpx:p≠c.x:=fun e=>by rw [e,bB] at hp;cases hp
 have hlx:l≠c.x:=fun e=>by rw [e,bB] at dC;cases dC
 have gL:upd H1 c.x (.ins T.bf c.dx (ax "leads_read" (.int ((S.read:Int)+1)) iQ)) p=some (HO.tup [V.bl (eO t),V.ref l]):=by rw [ag hpx];exact hp
 have cY:upd H1 c.x (.ins T.bf c.dx (ax "leads_read" (.int ((S.read:Int)+1)) iQ)) l=some (.lst (PV (told (Tx.words 47 t) t))):=by rw [ag hlx];exact dC
 generalize upd H1 c.x (.ins T.bf c.dx (ax "leads_read" (.int ((S.read:Int)+1)) iQ))=H2 at v2 gL cY ⊢;obtain ⟨jx,oW,cj,iS,cq⟩:=v2.fld;left;refine (fI cj cq rfl ?_);simp only [v2.od];have v3:=v2.Zh k;refine ⟨jO (by simp;omega),ai ?_⟩;have nl0:l≠c.rd:=fun e=>by rw [e] at hV;rw [v.od] at hV;cases hV
 have hU:upd H2 c.rd (.lst (nV S.bA++[V.int (k:Int)])) p=some (HO.tup [V.bl (eO t),V.ref l]):=by rw [ag (pp (bH v2.od gL (by nofun)))];exact gL
 have jT:upd H2 c.rd (.lst (nV S.bA++[V.int (k:Int)])) l=some (.lst (PV (told (Tx.words 47 t) t))):=by rw [ag nl0];exact cY
 dsimp only at v3;generalize upd H2 c.rd (.lst (nV S.bA++[V.int (k:Int)]))=H3 at v3 hU jT ⊢;obtain ⟨jz,oS,eK,ia,eY⟩:=v3.fld;left;refine (fI eK eY rfl ?_);simp only [v3.ol];have v4:=v3.Yl k;refine ⟨wE (KM _) (Cv (by simp;omega)),ai ?_⟩;have iV:upd H3 lf (.lst (S.left.map dX++[V.int (k:Int)])) p=some (HO.tup [V.bl (eO t),V.ref l]):=by rw [ag (pp (bH v3.ol hU (by nofun)))];exact hU
 have nll:l≠lf:=fun e=>by rw [e] at hV;rw [v.ol] at hV;cases hV
 have ky:upd H3 lf (.lst (S.left.map dX++[V.int (k:Int)])) l=some (.lst (PV (told (Tx.words 47 t) t))):=by rw [ag nll];exact jT
 dsimp only at v4;generalize upd H3 lf (.lst (S.left.map dX++[V.int (k:Int)]))=H4 at v4 iV ky ⊢;obtain ⟨qY,N5,gv,oO,pk⟩:=v4.fld;left;refine (fI gv pk rfl ?_);simp only [v4.ol];unfold Aa;left;simp only [bU,iV,wZ];refine ⟨l,_,rfl,aD.of ky,fun l5 hZ=>?_⟩;rw [J3,show (List.map V.str (List.map Tx.S (told (Tx.words 47 t) t))).reverse=(cP (gZ t)).map dX from (F4 _).symm];refine eC hZ fun H5 s5 b5=>?_;have v5:=v4.same s5;have e5:H5 lf=some (.lst ((S.left++[Sum.inl k]).map dX)):=v5.ol;simp only [e5,b5];have ph:(cP (gZ t)).length<=124:=by unfold cP;simpa using Oo
 refine ⟨Cv (by simp at hl ph ⊢;omega),?_⟩;have v6:=v5.Ss (cP (gZ t));have mU:=s5 _ _ iV;have u6:upd H5 lf (.lst ((S.left++[Sum.inl k]).map dX++(cP (gZ t)).map dX)) p=some (HO.tup [V.bl (eO t),V.ref l]):=by rw [ag (pp (bH v5.ol mU (by nofun)))];exact mU
 dsimp only at v6;generalize upd H5 lf (.lst ((S.left++[Sum.inl k]).map dX++(cP (gZ t)).map dX))=H6 at v6 u6 ⊢;simp only [u6,iG];cases hrt:eO t with
 | false =>
  rw [hrt] at q;exact aY (q _ v6)
 | true =>
  rw [hrt] at q;refine bD ?_;obtain ⟨fs6,pv6,qU,hfl6,NS⟩:=v6.fld;refine (fI qU NS rfl (fI qU NS rfl ⟨c.A,c.L,c.M,c.root,b,r,ar,tr,v6.m,rfl,rfl,har,iR,aJ,fun H7 s7=>?_⟩));obtain ⟨fs7,ET,hfl7,_,v7⟩:=(v6.same s7).put "here" _ (sx S k (gZ t) (dk b r)) .aq _;exact ⟨c.x,_,_,rfl,ET,hfl7,q _ v7⟩
def cD {b:Bool} {A B:Prop} {i:Decidable (b=true)} (h:b=false) (hb:B):if b=true then A else B:=by rw [xL (by rw [h];decide)];exact hb
def dG {b:Bool} {A B:Prop} {i:Decidable (b=true)} (h:b=true) (hb:A):if b=true then A else B:=by rw [At h];exact hb
section
variable {T:Tx K mg} {H:Hp} {A:Ad} {L:List Ta} {M:Hs}
def Kt {z s:Str} {k:Nat} {t:Th} {Q:VK} {E:XK} (i:aI T.aL T.aV T.bc H A L M) (hz:(aF (sD M.ro) (.inr z)).isSome=true) (hs:jN (.str s)=true) (ht:M.ts[k]?=some t) (q:Q (.bl (bx s (cE t z))) H):IZ T.aL T.aV T.bc T.ck T.cm T.fE [.ref A.a,.str z,.int k,.str s] H Q E:=by
 refine ⟨A,L,M,i,rfl,⟨_,rfl⟩,⟨_,rfl⟩,⟨_,rfl⟩,fun h=>(by rw [h z rfl] at hz;cases hz),fun z' e _=>?_⟩;cases e;refine ⟨fun h=>(by rw [hs] at h;cases h),fun s' e _=>?_⟩;cases e;have bO:=(ul.mp ht).1;refine ⟨fun h=>absurd bO (h k rfl),fun k' t' e ht'=>?_⟩;cases e;rw [ht] at ht';cases ht';exact q
end
def aaQ {k:Nat} {l:List Nat} (h:k∈l):f6 k l=true:=_A.mpr ⟨k,h,by simp⟩
def GF {k:Nat} {l:List Nat} (h:k ∉ l):f6 k l=false:=by
 unfold f6;rw [List.any_eq_false];intro x hx e;exact h (by rw [<- eq_of_beq e];exact hx)
inductive sC (c:Wd) (S:Ws) (k:Nat):Ws->Option Tl->Prop
 | ring:k∈S.bA->sC c S k S (some (.ring (lO (S.bA.drop (S.bA.idxOf k)))))
 | many:k ∉ S.bA->S.read=40->sC c S k S (some (.fail "many"))
 | read {S'}:k ∉ S.bA->S.read≠40->tH c S k S'->sC c S k S' none
def ZP (N:Cn):Sp:=kI fun x n H Q _=>X6 fun c S lf (k:Nat) S' o=>A7 (c.x=x) (n=(k:Int)) (aU N c S H lf .aq) (S.left.length<=8000) (S.bA.length<=400) (sC c.toWd S k S' o) (tF N c S' lf o (Q .aq))
def adF:T.tU.k P w mg base 8 (ZP T.cn):=by
 refine T.tU.F.ok SV (fun _ _ _ _ h=>dj h fun _ _ _=>rfl) fun _ A _ s H vs Q E hr h=>dj h fun x n h=>?_;obtain ⟨c,S,lf,k,S',o,rfl,rfl,v,hl,gJ,hR,q⟩:=h;refine bK (b:=aQ Bm) ((ao (aZ (bt (xl (K:=K) rfl) (ac 1) (ap T.aH T.qw (ac 0))) (ao (bu T.aH T.my (ac 0) (im T.Ys (WX T) hr.m T.abo T.sR.b .nil aC (aa (bn (abC T) hr.m T.qa.m T.qa.F.kp T.qa.b .nil aC (aa (kt (uH (K:=K) rfl) (ap T.aH T.qw (ac 0)) (sd (gp _K PySem.F.type_list_index (Gi (K:=K) rfl) (ap T.aH T.qw (ac 0)) (aa (ac 1) ae))) uJ) ae)) ae)))) (ao (aZ (bt gi (ap T.aH T.A0 (ac 0)) (dl (.int 40) T.RG ⟨_,rfl⟩)) (ao (aS (bI T.aH T.g8.h (sH T) hr.m T.g8.b .nil aC (ac 0) (aa am ae)))) (ao (aS (bI T.aH T.tO.h (acH T) hr.m T.tO.b .nil aC (ac 0) (aa (ac 1) ae))))))))) ?_;refine stI [some (V.ref c.x),some (V.int (k:Int))] ?_;obtain ⟨fs,pv,hx,aX,sf⟩:=v.fld;left;refine (fI hx sf rfl ⟨_,.inl (aD.of v.od),rfl,by simp [di],?_⟩);rw [tG];cases hR with
 | many hk hm =>
  rw [GF hk];refine aY (fI hx sf rfl ?_);refine dG (tz (by omega)) (mI hx sf ⟨c,S,lf,rfl,v,q⟩)
 | read hk hm hR =>
  rw [GF hk];refine aY (fI hx sf rfl ?_);refine cD (pi (by omega)) (mI hx sf ⟨c,S,lf,k,_,rfl,rfl,v,hl,by omega,hR,q.n rfl⟩)
 | ring hk =>
  rw [aaQ hk];refine bD (fI hx sf rfl (fI hx sf rfl ?_));simp only [v.od];refine ⟨_,aD.of (by rw [v.od,JH]),mem_cast hk,nV S.bA,aD.of v.od,fun p hp=>?_⟩;rw [CJ,HM];have e1:List.drop (S.bA.idxOf k) (nV S.bA)=nV (S.bA.drop (S.bA.idxOf k)):=by unfold nV;rw [List.map_drop]
  rw [e1];refine eC hp fun H1 s1 b1=>?_;have hj:S.bA.idxOf k < S.bA.length:=List.idxOf_lt_length_iff.mpr hk;refine ⟨_,b1,fun e=>by have:=P3 List.length e;simp at this;omega,by simp;omega,fun l2 H2 s2 l20 cY=>?_⟩;intro fd bF cu hdfd nfd;have v2:=(v.same s1).same s2;have s4:=(ah.upd (o:=.own fd) hdfd).trans (ah.upd (p:=fd) (o:=.ins T.fZ bF []) (by rw [ag (pp nfd)];exact cu));have b4:upd (upd H2 bF (.own fd)) fd (.ins T.fZ bF []) fd=some (.ins T.fZ bF []):=au;generalize upd (upd H2 bF (.own fd)) fd (.ins T.fZ bF [])=H4 at s4 b4 ⊢;refine ⟨bF,_,b4,s4 _ _ cY,fun rl iY=>?_⟩;have s5:=s4.trans (ah.upd (o:=.lst (nV (lO (S.bA.drop (S.bA.idxOf k))))) iY);have b5:upd H4 rl (.lst (nV (lO (S.bA.drop (S.bA.idxOf k))))) fd=some (.ins T.fZ bF []):=by rw [ag (aG b4 iY)];exact b4
  have c5:upd H4 rl (.lst (nV (lO (S.bA.drop (S.bA.idxOf k))))) rl=some (.lst (nV (lO (S.bA.drop (S.bA.idxOf k))))):=au;have nr:=aG b4 iY;generalize upd H4 rl (.lst (nV (lO (S.bA.drop (S.bA.idxOf k)))))=H5 at s5 b5 c5 ⊢;obtain ⟨yt,pe,hZ,v6,f0,nx⟩:=v2.tells (t:=.ring []) (F:=ax "leads" (.ref rl) []) cu s5 b5;have nrx:rl≠c.x:=fun e=>by rw [e] at c5;obtain ⟨fs7,pv7,ET,_⟩:=(v2.same s5).fld;rw [ET] at c5;cases c5
  exact ⟨rfl,c.x,_,_,rfl,pe,hZ,q.y _ rfl fd _ v6 ⟨f0,bF,rl,by rw [ag (pp nx),au],by rw [ag nrx,ag (pp nr)];exact c5⟩⟩
inductive qh (c:Wd) (S:Ws) (t:Th) (p:Str):Ws->Option Tl->Prop
 | no:aF (sD t.aW) (.inr p)=none->qh c S t p { S with look:=S.look+1 } (some (.fail "none"))
 | folder {k a tc b r}:aF (sD t.aW) (.inr p)=some (.int ((k:Nat):Int))->c.L[k]?=some a->c.M.ts[k]?=some tc->tc.kd=("folder":Str)->ed c.M k b r->qh c S t p { S with look:=S.look+1,here:=dk b r } none
 | fin {k a tc}:aF (sD t.aW) (.inr p)=some (.int ((k:Nat):Int))->c.L[k]?=some a->c.M.ts[k]?=some tc->tc.kd≠("folder":Str)->(tc.kd=("file":Str)\/S.left=[]/\c.last=false)->qh c S t p { S with look:=S.look+1,place:=some (S.here,p),here:=k } none
 | lead {k a tc S' o}:aF (sD t.aW) (.inr p)=some (.int ((k:Nat):Int))->c.L[k]?=some a->c.M.ts[k]?=some tc->tc.kd≠("folder":Str)->tc.kd≠("file":Str)->¬ (S.left=[]/\c.last=false)->sC c { S with look:=S.look+1 } k S' o->qh c S t p S' o
def z8 {T:Tx K mg} {c:Wc} {S:Ws} {H:Hp} {lf:Addr} {k:Nat} {nm:Str} {v3:Option V} {R:Hp->Prop} {Q:VK} (v2:aU T.cn c S H lf .aq) (q:∀ H',aU T.cn c { S with place:=some (S.here,nm),here:=k } H' lf .aq->R H') :
  nB (tY T.bf "place" (cI 0) (v8 (qi (vH T.bf "here" (cI 0)) (qi (cI 1) lV)))) (tY T.bf "here" (cI 0) (cI 2)) { nx:=fun _ H'=>R H',rt:=Q } [some (V.ref c.x),some (V.str nm),some (V.int (k:Int)),v3] H:=by
 obtain ⟨jx,oW,cj,iS,cq⟩:=v2.fld;right;refine (fI cj cq rfl ⟨fits (by simp),fun p hp=>?_⟩);have w3:=v2.same (ah.upd (o:=.tup [V.int (S.here:Int),V.str nm]) hp);have b3:upd H p (.tup [V.int (S.here:Int),V.str nm]) p=some (.tup [V.int (S.here:Int),V.str nm]):=au;have p0:=v2.fresh hp;generalize upd H p (.tup [V.int (S.here:Int),V.str nm])=H3 at w3 b3 ⊢;obtain ⟨jz,eK,ia,v4⟩:=w3.placed p0 b3;refine ⟨c.x,_,_,rfl,eK,ia,?_⟩;generalize upd H3 c.x _=H4 at v4 ⊢;obtain ⟨qY,gv,oO,_,v5⟩:=v4.put "here" (.int (k:Int)) { S with place:=some (S.here,nm),here:=k } .aq _;exact ⟨c.x,_,_,rfl,gv,oO,q _ v5⟩
def OB (N:Cn):Sp:=kh fun x nm H Q _=>X7 fun c S lf a t S' o=>AB (c.x=x) (aU N c S H lf .aq) (c.L[S.here]?=some a) (c.M.ts[S.here]?=some t) (fA (.str nm)=true) (nm.length<=1000) (S.left.length<=8000) (S.bA.length<=400) (qh c.toWd S t nm S' o) (tF N c S' lf o (Q .aq))
def So:T.tE.k P w mg base 9 (OB T.cn):=by
 refine T.tE.F.ok AQ (fun _ _ _ _ h=>e9 h fun _ _ _=>rfl) fun _ A _ s H vs Q E hr h=>e9 h fun x nm h=>?_;obtain ⟨c,S,lf,a,t,S',o,rfl,v,ha,aK,hn,yp,m8,gJ,hb,q⟩:=h;refine bK (b:=aQ DT) ((ad (jV T.aH T.KH jW (ac 0) bi)
 (ad (aP 2 AQ.nd (bI T.aN T.ou.h (GO T) hr.m T.ou.b .nil aC (ap T.aH T.fK (ac 0)) (aa (ap T.aH T.fP (ac 0)) (aa (ac 1) ae))))
 (ad (aZ (bt vL (ac 2) aq) (ad (aS (bI T.aH T.g8.h (sH T) hr.m T.g8.b .nil aC (ac 0) (aa am ae)))
 (ao LH)) ce)
 (ad (aP 3 AQ.nd (bI T.aN T.je.h (wL T) hr.m T.je.b .nil aC (ap T.aH T.fK (ac 0)) (aa (ac 2) ae)))
 (ao (aZ (bt gi (ac 3) (dl (.str "folder") T.tQ ⟨_,rfl⟩)) (ao (bu T.aH T.fP (ac 0) (bn (xn T) hr.m T.gb.m T.gb.F.kp T.gb.b .nil aC (aa (ap T.aH T.fK (ac 0)) (aa (ac 2) ae))))) (ao (aZ (fi (f8 (bt gi (ac 3) (dl (.str "file") T.DP ⟨_,rfl⟩)) (jd (fi (jp (bt (FN (K:=K) rfl hr.kO) (ap T.aH T.nv (ac 0)) (cr ae)) (nR (de (cQ (ap T.aH T.Hy (ac 0)))))))))) (ad (bu T.aH T.wK (ac 0) (Dv.tup (aa (ap T.aH T.fP (ac 0)) (aa (ac 1) ae))))
 (ao (bu T.aH T.fP (ac 0) (ac 2)))) (ao (aS (bI T.aH T.tU.h (adF T) hr.m T.tU.b .nil aC (ac 0) (aa (ac 2) ae))))))))))))) ?_
 refine stI [some (V.ref c.x),some (V.str nm),none,none] ?_;obtain ⟨fs,hx,aX,lG,v1⟩:=v.put "looked_up" (.int ((S.look:Int)+1)) { S with look:=S.look+1 } .aq _;right;refine ⟨c.x,_,_,_,rfl,hx,lG,_,_,rfl,rfl,_,_,hx,aX,ai ?_⟩;generalize upd H c.x (.ins T.bf c.dx (ax "looked_up" (.int ((S.look:Int)+1)) fs))=H1 at v1 ⊢;obtain ⟨iQ,yB,bB,jt,dE⟩:=v1.fld;obtain ⟨fN,hc,hh,rn,hJ⟩:=v1.m.h;left;refine (fI bB dE rfl (mI hh hJ (fI bB dE rfl ⟨c.A,c.L,c.M,S.here,a,t,v1.m,rfl,rfl,ha,aK,hn,yp,fun H2 s2=>?_⟩)));have v2:=v1.same s2;obtain ⟨jx,oW,cj,iS,cq⟩:=v2.fld;obtain ⟨hfs2,EO,Ni,hhl2,hsf2⟩:=v2.m.h;by_cases hno:aF (sD t.aW) (.inr nm)=none
 ·have he:S'={ S with look:=S.look+1 }/\o=some (.fail "none"):=by
   cases hb with
   | no _=>exact ⟨rfl,rfl⟩
   | folder h1=>rw [hno] at h1;cases h1
   | fin h1=>rw [hno] at h1;cases h1
   | lead h1=>rw [hno] at h1;cases h1
  obtain ⟨rfl,rfl⟩:=he;rw [hno];right;refine ⟨by trivial,bD ?_⟩;right;exact (mI cj cq ⟨c,_,lf,rfl,v2,q⟩)
 obtain ⟨k,ak,tc,hv,pq,pd⟩:∃ k a tc,aF (sD t.aW) (.inr nm)=some (.int ((k:Nat):Int))/\c.L[k]?=some a/\c.M.ts[k]?=some tc:=by
  cases hb with
  | no h=>exact absurd h hno
  | folder h1 h2 h3=>exact ⟨_,_,_,h1,h2,h3⟩
  | fin h1 h2 h3=>exact ⟨_,_,_,h1,h2,h3⟩
  | lead h1 h2 h3=>exact ⟨_,_,_,h1,h2,h3⟩
 rw [hv];right;refine ⟨by trivial,?_⟩;rw [pi (by nofun)];refine aY ?_;right;refine (fI cj cq rfl (mI Ni hsf2 ⟨c.A,c.L,c.M,k,ak,tc,v2.m,rfl,rfl,pq,pd,?_⟩));simp only [xG];cases hb with
 | no h=>exact absurd h hno
 | folder h1 h2 h3 dg aJ =>
  rw [hv] at h1;cases uf h1;rw [pd] at h3;cases h3;simp only [dg,decide_true];left;refine (fI cj cq rfl ⟨c.A,c.L,c.M,k,_,_,ak,_,v2.m,rfl,rfl,pq,pd,aJ,fun H3 s3=>?_⟩);obtain ⟨jz,eK,ia,_,v3⟩:=(v2.same s3).put "here" _ { S with look:=S.look+1,here:=dk _ _ } .aq _;exact ⟨c.x,_,_,rfl,eK,ia,q.n rfl _ v3⟩
 | fin h1 h2 h3 dg hf =>
  rw [hv] at h1;cases uf h1;rw [pd] at h3;cases h3;rw [pi dg];refine aY ?_;left;rcases hf with hf | ⟨hle,hla⟩
  ·exact dG (tz hf) ((At trivial).mpr (z8 v2 (q.n rfl)))
  ·by_cases hf:tc.kd=("file":Str)
   ·exact dG (tz hf) ((At trivial).mpr (z8 v2 (q.n rfl)))
   refine cD (pi hf) (fI cj cq rfl ⟨fits (by simp),fun d hd=>?_⟩);have v3:=v2.same (ah.upd (o:=.lst []) hd);have b3:upd H2 d (.lst []) d=some (.lst []):=au;generalize upd H2 d (.lst [])=H3 at v3 b3 ⊢;obtain ⟨jz,oS,eK,ia,eY⟩:=v3.fld;refine ⟨_,[],aD.of v3.ol,aD.of b3,.inl ⟨rfl,?_⟩⟩;refine dG (by rw [show ({ S with look:=S.look+1 }:Ws).left=[] from hle];rfl) (fI eK eY rfl (dG (by rw [hla];rfl) (z8 v3 (q.n rfl))))
 | lead h1 h2 h3 dg u0 yp hm =>
  rw [hv] at h1;cases uf h1;rw [pd] at h3;cases h3;rw [pi dg];refine aY ?_;left;refine cD (pi u0) (fI cj cq rfl ⟨fits (by simp),fun d hd=>?_⟩);have v3:=v2.same (ah.upd (o:=.lst []) hd);have b3:upd H2 d (.lst []) d=some (.lst []):=au;generalize upd H2 d (.lst [])=H3 at v3 b3 ⊢;obtain ⟨jz,oS,eK,ia,eY⟩:=v3.fld;refine ⟨_,[],aD.of v3.ol,aD.of b3,.inl ⟨rfl,?_⟩⟩;by_cases hle:S.left=[]
  ·refine dG (by rw [show ({ S with look:=S.look+1 }:Ws).left=[] from hle];rfl) (fI eK eY rfl ?_);refine cD (by cases hb:c.last with | false=>exact absurd ⟨hle,hb⟩ yp | true=>rfl) ?_;exact (mI eK eY ⟨c,_,lf,k,S',o,rfl,rfl,v3,m8,gJ,hm,q⟩)
  ·refine cD (by cases h:S.left with | nil=>exact absurd h hle | cons _ _=>rfl) (aY ?_);exact (mI eK eY ⟨c,_,lf,k,S',o,rfl,rfl,v3,m8,gJ,hm,q⟩)
structure Cm (c:Wd) (S:Ws) (t:Th):Prop where
 l:∃ a,c.L[S.here]?=some a
 e:c.M.ts[S.here]?=some t
 k:t.kd=("folder":Str)
 g:bx ("g":Str) (cE t c.z)=true
def dS (S:Ws):Ws:={ S with step:=S.step+1,asked:=S.asked++[S.here] }
inductive gC (c:Wd) (S:Ws) (p:Str):Ws->Option Tl->Prop
 | flat {a t}:c.L[S.here]?=some a->c.M.ts[S.here]?=some t->t.kd≠("folder":Str)->gC c S p { S with step:=S.step+1 } (some (.fail "flat"))
 | xo {a t}:c.L[S.here]?=some a->c.M.ts[S.here]?=some t->t.kd=("folder":Str)->bx ("g":Str) (cE t c.z)=false->gC c S p (dS S) (some (.fail "shut"))
 | dot {t}:Cm c S t->p=(".":Str)->gC c S p (dS S) none
 | up {t h}:Cm c S t->p=("..":Str)->wN c S.here h->gC c S p { dS S with here:=h } none
 | go {t S' o}:Cm c S t->p≠("..":Str)->p≠(".":Str)->fA (.str p)=true->p.length<=1000->qh c (dS S) t p S' o->gC c S p S' o
def U8 (N:Cn):Sp:=kh fun x p H Q _=>X5 fun c S lf S' o=>A7 (c.x=x) (aU N c S H lf .aq) (S.asked.length<=8000) (S.left.length<=8000) (S.bA.length<=400) (gC c.toWd S p S' o) (tF N c S' lf o (Q .aq))
def acV:T.tN.k P w mg base 10 (U8 T.cn):=by
 refine T.tN.F.ok ac8 (fun _ _ _ _ h=>e9 h fun _ _ _=>rfl) fun _ A _ s H vs Q E hr h=>e9 h fun x p h=>?_;obtain ⟨c,S,lf,S',o,rfl,v,hn,m8,gJ,hp,q⟩:=h;obtain ⟨a,t,ha,aK⟩:∃ a t,c.L[S.here]?=some a/\c.M.ts[S.here]?=some t:=by
  cases hp with
  | flat h1 h2=>exact ⟨_,_,h1,h2⟩
  | xo h1 h2=>exact ⟨_,_,h1,h2⟩
  | dot h=>obtain ⟨a,e⟩:=h.l;exact ⟨a,_,e,h.e⟩
  | up h=>obtain ⟨a,e⟩:=h.l;exact ⟨a,_,e,h.e⟩
  | go h=>obtain ⟨a,e⟩:=h.l;exact ⟨a,_,e,h.e⟩
 refine bK (b:=aQ Dp) ((ad (jV T.aH T.Bb jW (ac 0) bi)
 (ad (aZ (bt gq (bI T.aN T.je.h (wL T) hr.m T.je.b .nil aC (ap T.aH T.fK (ac 0)) (aa (ap T.aH T.fP (ac 0)) ae)) (dl (.str "folder") T.tQ ⟨_,rfl⟩)) (ad (aS (bI T.aH T.g8.h (sH T) hr.m T.g8.b .nil aC (ac 0) (aa am ae)))
 (ao LH)) ce)
 (ad (aS (gp AT Ch iL (ap T.aH T.Kn (ac 0)) (aa (ap T.aH T.fP (ac 0)) ae)))
 (ao (aZ (de (cQ (fB T.aN T.ny.h (Hg T) hr.m T.ny.b .nil eN (ap T.aH T.fK (ac 0)) (aa (ap T.aH T.tW (ac 0)) (aa (ap T.aH T.fP (ac 0)) (aa am ae)))))) (ao (aS (bI T.aH T.g8.h (sH T) hr.m T.g8.b .nil aC (ac 0) (aa am ae)))) (ao (aZ (bt gi (ac 1) am) (ao (aS (DY T.aH T.uo.h (OS T) hr.m T.uo.b .nil aC (ac 0)))) (ao (aZ (bt gq (ac 1) am) (ao (aS (bI T.aH T.tE.h (So T) hr.m T.tE.b .nil aC (ac 0) (aa (ac 1) ae)))) ce)))))))))) ?_
 refine stI [some (V.ref c.x),some (V.str p)] ?_;obtain ⟨fs,hx,aX,lG,v1⟩:=v.put "step" (.int ((S.step:Int)+1)) { S with step:=S.step+1 } .aq _;right;refine ⟨c.x,_,_,_,rfl,hx,lG,_,_,rfl,rfl,_,_,hx,aX,ai ?_⟩;generalize upd H c.x (.ins T.bf c.dx (ax "step" (.int ((S.step:Int)+1)) fs))=H1 at v1 ⊢;obtain ⟨iQ,yB,bB,jt,dE⟩:=v1.fld;obtain ⟨fN,hc,hh,rn,hJ⟩:=v1.m.h;left;refine (fI bB dE rfl (mI hh hJ (fI bB dE rfl ⟨c.A,c.L,c.M,S.here,a,t,v1.m,rfl,rfl,ha,aK,?_⟩)));simp only [xG];by_cases dg:t.kd=("folder":Str)
 ·simp only [dg,decide_true];refine aY ?_;right;refine (fI bB dE rfl ?_);simp only [v1.oa];refine (fI bB dE rfl ?_);have v2:=v1.acr S.here;refine ⟨wE (KM _) (Cv (by simp;omega)),?_⟩;dsimp only at v2;generalize upd H1 c.av (.lst (nV S.asked++[.int (S.here:Int)]))=H2 at v2 ⊢;obtain ⟨jx,oW,cj,iS,cq⟩:=v2.fld;obtain ⟨ra,gc,gh,rD,gu⟩:=v2.m.h;refine (fI cj cq rfl (mI gh gu (fI cj cq rfl (fI cj cq rfl (Kt v2.m (by rw [v2.hz];rfl) (by symm) aK ?_)))));cases hp with
  | flat h1 h2 h3=>rw [aK] at h2;cases h2;exact absurd dg h3
  | xo h1 h2 h3 h4 =>
   rw [aK] at h2;cases h2;rw [h4];exact bD (mI cj cq ⟨c,_,lf,rfl,v2,q⟩)
  | dot hA h5 =>
   have h2:=hA.e;rw [aK] at h2;cases h2;subst h5;rw [hA.g];exact aY (cD (pi (by symm)) (cD (by rw [tz rfl];rfl) (q.n rfl _ v2)))
  | up hA h5 hu =>
   have h2:=hA.e;rw [aK] at h2;cases h2;subst h5;rw [hA.g];exact aY (dG (tz rfl) (mI cj cq ⟨c,_,lf,_,rfl,v2,hu,q.n rfl⟩))
  | go hA h5 h6 h7 h8 hb =>
   have h2:=hA.e;rw [aK] at h2;cases h2;rw [hA.g];exact aY (cD (pi h5) (dG (by rw [pi h6];rfl) (mI cj cq ⟨c,_,lf,a,_,_,_,rfl,v2,ha,aK,h7,h8,m8,gJ,hb,q⟩)))
 ·refine dG (by rw [pi dg];rfl) ?_;right;have hf:S'={ S with step:=S.step+1 }/\o=some (.fail "flat"):=by
   cases hp with
   | flat h1 h2 h3=>exact ⟨rfl,rfl⟩
   | xo h1 h2 h3 h4=>rw [aK] at h2;cases h2;exact absurd h3 dg
   | dot hA=>have h2:=hA.e;rw [aK] at h2;cases h2;exact absurd hA.k dg
   | up hA=>have h2:=hA.e;rw [aK] at h2;cases h2;exact absurd hA.k dg
   | go hA=>have h2:=hA.e;rw [aK] at h2;cases h2;exact absurd hA.k dg
  obtain ⟨rfl,rfl⟩:=hf;exact (mI bB dE ⟨c,_,lf,rfl,v1,q⟩)
def Hk (c:Nat):∀ (ns:List Str) (n:Nat),(∀ s∈ns,s.length<=8)->ns.foldl (fun n z=>n+z.length+c) n<=n+(8+c) * ns.length
 | [],n,_=>by simp
 | y::r,n,h=>by
  have h1:=h y (by simp);have h2:=Hk c r (n+y.length+c) fun s hs=>h s (by simp [hs]);rw [List.foldl_cons,FB,Nat.mul_add];omega
def YE {ns:List Str} (h:∀ s∈ns,s.length<=8) (hl:ns.length<=100):ns.foldl (fun n z=>n+z.length+(Str.ofString "/").length) 0<=900/\(Str.join (Str.ofString "/") ns).length<=900:=by
 have lj:(Str.ofString "/").length=1:=by symm
 have h1:=Hk 1 ns 0 h;have h2:=StrLaws.join_length_le (Str.ofString "/") ns;have h3:(ns.map (·.length)).sum<=8 * ns.length:=by
  clear h1 h2 hl
  induction ns with
  | nil=>simp
  | cons y r ih =>
   have:=ih fun s hs=>h s (by simp [hs]);have h4:=h y (by simp);rw [wT,List.sum_cons,FB];omega
 rw [lj] at h2 ⊢;omega
def La (ns:List Str):Str:=Str.ofString "/" ++ Str.join (Str.ofString "/") ns
def Zt (N:Cn):Sp:=lL fun x H Q _=>X9 fun c S lf (f:Nat) (a:Ta) (t:Th) (ns:List Str) (cR:List Str) (told:V)=>A9 (c.x=x) (aU N c S H lf told) (c.L[S.here]?=some a) (c.M.ts[S.here]?=some t) (t.kd=("folder":Str)/\f=S.here/\cR=[]\/t.kd≠("folder":Str)/\∃ nm:Str,S.place=some (f,nm)/\cR=[nm]/\nm.length<=8) (∃ m,jY c.M c.L c.root m f ns) (ns.length<=99) (∀ s∈ns,s.length<=8) (∀ H',ah H H'->Q (.str (La (ns++cR))) H')
def U4:T.sy.k P w mg base 7 (Zt T.cn):=by
 refine T.sy.F.ok sY (fun _ _ _ _ h=>gG h fun _ _=>rfl) fun _ A _ s H vs Q E hr h=>gG h fun x h=>?_;obtain ⟨c,S,lf,f,a,t,ns,cR,told,rfl,v,ha,aK,hk,eA,hl100,hn8,q⟩:=h;refine bK (b:=aQ BM) ((ad (aP 1 sY.nd (cr ae))
 (ad (aP 2 sY.nd (ap T.aH T.fP (ac 0)))
 (ad (aZ (bt gq (bI T.aN T.je.h (wL T) hr.m T.je.b .nil aC (ap T.aH T.fK (ac 0)) (aa (ap T.aH T.fP (ac 0)) ae)) (dl (.str "folder") T.tQ ⟨_,rfl⟩)) (ad (aP 2 sY.nd (ci (bG (K:=K) rfl) (ap T.aH T.wK (ac 0)) bi))
 (ao (aP 1 sY.nd (cr (aa (ci (bG (K:=K) rfl) (ap T.aH T.wK (ac 0)) bi) ae))))) ce)
 (ao (aO (db fU am (ot PySem.F.slot_str_join PySem.F.type_str_join (Xu (K:=K) rfl) am (aa (db fU (bn (OI T) hr.m T.qI.m T.qI.F.kp T.qI.b .nil aC (aa (ap T.aH T.fK (ac 0)) (aa (ap T.aH T.tW (ac 0)) (aa (ac 2) ae)))) (ac 1)) ae))))))))) ?_
 refine stI [some (V.ref c.x),none,none] ?_;right;refine ⟨fits (by simp),fun ln yf=>?_⟩;refine eC yf fun H1 s1 b1=>?_;have v1:=v.same s1;obtain ⟨fs,pv,hx,aX,NG,sf⟩:=v1.o;obtain ⟨fN,hc,hh,rn,hJ⟩:=v1.m.h;right;refine (fI hx sf rfl ?_);refine c8 (fun σ' H'=>∃ ln',σ'=[some (V.ref c.x),some (V.ref ln'),some (V.int (f:Int))]/\ah H H'/\H' ln'=some (.lst (cR.map V.str))/\cR.length<=1/\∀ s∈cR,s.length<=8) ?_ ?_
 ·left;refine (fI hx sf rfl (mI hh hJ (fI hx sf rfl ⟨c.A,c.L,c.M,S.here,a,t,v1.m,rfl,rfl,ha,aK,?_⟩)));simp only [xG];rcases hk with ⟨dg,rfl,rfl⟩ | ⟨dg,nm,bY,rfl,cH⟩
  ·refine cD (by rw [tz dg];rfl) ?_;exact ⟨ln,rfl,s1,b1,by simp,fun s hs=>(by cases hs)⟩
  ·refine dG (by rw [pi dg];rfl) ?_;rw [bY] at NG;obtain ⟨p,rfl,p0,hp⟩:=NG;right;refine (fI hx sf rfl ?_);simp only [bU,hp,iG];refine (fI hx sf rfl ?_);simp only [hp,wZ];exact ⟨fits (by simp),fun p2 gL=>⟨p2,rfl,s1.trans (ah.upd gL),by rw [au];rfl,by simp,fun s hs=>by rw [wf.mp hs];exact cH⟩⟩
 rintro σ' H2 ⟨l2,rfl,s2,b2,dC,h8⟩;have v2:=v.same s2;obtain ⟨jx,oW,cj,iS,cq⟩:=v2.fld;left;refine (fI cj cq rfl (fI cj cq rfl ⟨c.A,c.L,c.M,f,c.root,ns,v2.m,rfl,rfl,v2.hz,eA,by omega,fun l H3 s3 hl=>?_⟩));have c3:=s3 _ _ b2;simp only [hl,c3];have hn8':∀ s∈ns++cR,s.length<=8:=fun s hs=>by
  rcases Go.mp hs with hs | hs
  ·exact hn8 s hs
  ·exact h8 s hs
 obtain ⟨rB,xY⟩:=YE hn8' (by rw [xz];omega);have lj:(Str.ofString "/").length=1:=by symm
 refine ⟨fits (by simp only [ss];omega),fun p hp=>?_⟩;refine ⟨_,aD.of au,ns++cR,by simp,?_⟩;exact ⟨fits (by omega),fits (by omega),q _ ((s2.trans s3).trans (ah.upd hp))⟩
structure Bd (S:Ws):Prop where
 a:S.asked.length<=S.step
 p:S.step+S.left.length+125 * (40 - S.read)<=8000
 r:S.bA.length<=S.read
 q:S.read<=40
def JW (ps:List Str):(cP ps).length=ps.length:=by unfold cP;simp
def tH.bd {c:Wd} {S S':Ws} {k:Nat} (h:tH c S k S') (a:S.asked.length<=S.step) (p:S.step+S.left.length+125 * (40 - S.read)<=8000) (r:S.bA.length<=S.read) (q:S.read < 40):Bd S':=by
 cases h with
 | @mk _ _ t _ _ _ _ h1 h2 h3 h4 h5 h6 h7 _ _ _ =>
  have e:=JW (gZ t);refine ⟨a,?_,by unfold sx;simp;omega,by unfold sx;simp;omega⟩;unfold sx;simp only [xz,FB,_F,e];omega
def gC.RF {c:Wd} {S S1:Ws} {p:Str} {o:Option Tl} (ba:S.asked.length<=S.step) (bp:S.step+1+S.left.length+125 * (40 - S.read)<=8000) (br:S.bA.length<=S.read) (bq:S.read<=40) (h:gC c S p S1 o):Bd S1:=by
 cases h with
 | flat=>exact ⟨by dsimp only;omega,by dsimp only;omega,br,bq⟩
 | xo=>exact ⟨by unfold dS;simp;omega,by unfold dS;dsimp only;omega,br,bq⟩
 | dot=>exact ⟨by unfold dS;simp;omega,by unfold dS;dsimp only;omega,br,bq⟩
 | up=>exact ⟨by unfold dS;simp;omega,by unfold dS;dsimp only;omega,br,bq⟩
 | go _ _ _ _ _ hb =>
  have a2:(dS S).asked.length<=(dS S).step:=by unfold dS;simp;omega
  have p2:(dS S).step+(dS S).left.length+125 * (40 - (dS S).read)<=8000:=by unfold dS;dsimp only;omega
  cases hb with
  | no=>exact ⟨a2,p2,br,bq⟩
  | folder=>exact ⟨a2,p2,br,bq⟩
  | fin=>exact ⟨a2,p2,br,bq⟩
  | lead _ _ _ _ _ _ hm =>
   cases hm with
   | ring=>exact ⟨a2,p2,br,bq⟩
   | many=>exact ⟨a2,p2,br,bq⟩
   | read _ h40 hr=>exact hr.bd a2 p2 br (Nat.lt_of_le_of_ne bq h40)
def gC.bd {c:Wd} {S S1:Ws} {l:List (Sum Nat Str)} {p:Str} {o:Option Tl} (b:Bd S) (e:S.left=l++[.inr p]) (h:gC c { S with left:=l } p S1 o):Bd S1:=by
 have bp:=b.p;rw [e,xz] at bp;have e1:[Sum.inr (α:=Nat) p].length=1:=rfl;exact gC.RF (S:={ S with left:=l }) b.a (by dsimp only;omega) b.r b.q h
inductive eP (c:Wd):Nat->Ws->Ws->Option Tl->Prop
 | done {S}:S.left=[]->eP c 0 S S none
 | pop {n S k l r j S' o}:S.left=l++[.inl k]->S.bA=r++[j]->eP c n { S with left:=l,bA:=r } S' o->eP c (n+1) S S' o
 | step {n S p l S1 S' o}:S.left=l++[.inr p]->gC c { S with left:=l } p S1 none->eP c n S1 S' o->eP c (n+1) S S' o
 | fail {S p l S1 y}:S.left=l++[.inr p]->gC c { S with left:=l } p S1 (some y)->eP c 0 S S1 (some y)
abbrev AV (k:Nat) (ns:List Str):List (Str×V):=ax "way" (.str (La ns)) (ax "number" (.int (k:Int)) [])
def vD (M:Hs) (L:List Ta) (root:Nat) (S:Ws) (ns cR:List Str):Prop:=∃ (f:Nat) (a:Ta) (t:Th),L[S.here]?=some a/\M.ts[S.here]?=some t /\
   (t.kd=("folder":Str)/\f=S.here/\cR=[]\/t.kd≠("folder":Str)/\∃ nm:Str,S.place=some (f,nm)/\cR=[nm]/\nm.length<=8)/\(∃ m,jY M L root m f ns)/\ns.length<=99/\(∀ s∈ns,s.length<=8)
def OU (N:Cn):Sp:=lL fun x H Q _=>X6 fun c S lf n S' o=>A6 (c.x=x) (aU N c S H lf .aq) (Bd S) (eP c.toWd n S S' o) (∀ y,o=some y->∀ fd H',aU N c S' H' lf (.ref fd)->sN N c.H0 H' S'.step fd y->Q .aq H') (o=none->∃ ns cR,vD c.M c.L c.root S' ns cR/\∀ fd bF H',aU N c S' H' lf (.ref fd)->c.H0 fd=none->H' fd=some (.ins N.CG bF (AV S'.here (ns++cR)))->Q .aq H')
def O5:T.rV.k P w mg base 11 (OU T.cn):=by
 refine T.rV.F.ok GW (fun _ _ _ _ h=>gG h fun _ _=>rfl) fun _ A _ s H vs Q E hr h=>gG h fun x h=>?_;obtain ⟨c,S,lf,n,S',o,rfl,v,fY,ku,q1,q2⟩:=h;refine bK (b:=aQ C9) ((ad (uL _q (fi (jp (bt vL (ap T.aH T.my (ac 0)) aq) (nR (bt (JE (K:=K) rfl hr.kO) (ap T.aH T.nv (ac 0)) (cr ae))))) (ad (aP 1 GW.nd (JF PySem.F.slot_list_pop PySem.F.type_list_pop Jr (ap T.aH T.nv (ac 0))))
 (ao (aZ (cQ (bn (DA T) hr.m T.iE.m T.iE.F.kp T.iE.b .nil aC (aa (ac 1) ae))) (ao (aS (JF PySem.F.slot_list_pop PySem.F.type_list_pop Jr (ap T.aH T.qw (ac 0))))) (ao (aS (bI T.aH T.tN.h (acV T) hr.m T.tN.b .nil aC (ac 0) (aa (ac 1) ae))))))))
 (ao (aZ (bt vL (ap T.aH T.my (ac 0)) aq) (ao (bu T.aH T.my (ac 0) (im T.VI (Ug T) hr.m T.Mg T.rP.b .nil aC (aa (ap T.aH T.fP (ac 0)) (aa (DY T.aH T.sy.h (U4 T) hr.m T.sy.b .nil aC (ac 0)) ae))))) ce)))) ?_
 refine stI [some (V.ref c.x),none] ?_;obtain ⟨PV,lE⟩:∃ PV:Nat->St->Hp->Prop,PV=fun m σ' H'=>∃ pv:Option V,σ'=[some (V.ref c.x),pv] /\
   ((∃ n S,m=n+1/\aU T.cn c S H' lf .aq/\Bd S/\eP c.toWd n S S' o) \/
     (∃ y fd,m=0/\o=some y/\aU T.cn c S' H' lf (.ref fd)/\sN T.cn c.H0 H' S'.step fd y)):=⟨_,rfl⟩
 refine ai ?_;refine ⟨PV,⟨n+1,by rw [lE];exact ⟨none,rfl,.inl ⟨n,S,rfl,v,fY,ku⟩⟩⟩,?_⟩;clear v fY ku;intro m σ' H' hI;rw [lE] at hI;obtain ⟨pv,rfl,⟨n,S,hm,v1,fY,ku⟩ | ⟨y,fd,hm,ho,v1,cu⟩⟩:=hI
 ·left;obtain ⟨iQ,yB,bB,jt,dE⟩:=v1.fld;refine (fI bB dE rfl ⟨by trivial,bD ?_⟩);refine (fI bB dE rfl ⟨fits (by simp),fun d hd=>?_⟩);have v2:=v1.same (ah.upd (o:=.lst []) hd);have b2:upd H' d (.lst []) d=some (.lst []):=au;generalize upd H' d (.lst [])=H2 at v2 b2 ⊢;obtain ⟨jx,oW,cj,iS,cq⟩:=v2.fld;refine ⟨_,[],aD.of v2.ol,aD.of b2,.inl ⟨rfl,?_⟩⟩;cases ku with
  | done hle =>
   refine cD (by rw [hle];rfl) ?_;refine (fI cj cq rfl ⟨by trivial,bD ?_⟩);obtain ⟨ns,cR,⟨f,a,t,h1,h2,h3,h4,h5,h6⟩,q⟩:=q2 rfl;refine (fI cj cq rfl (mI cj cq ⟨c,_,lf,f,a,t,ns,cR,_,rfl,v2,h1,h2,h3,h4,h5,h6,fun H3 s3=>?_⟩));intro fd bF cu hdfd nfd;have s4:=(ah.upd (o:=.own fd) hdfd).trans (ah.upd (p:=fd) (o:=.ins T.eQ bF []) (by rw [ag (pp nfd)];exact cu));have b4:upd (upd H3 bF (.own fd)) fd (.ins T.eQ bF []) fd=some (.ins T.eQ bF []):=au;generalize upd (upd H3 bF (.own fd)) fd (.ins T.eQ bF [])=H4 at s4 b4 ⊢;refine ⟨bF,b4,rfl,?_⟩;obtain ⟨yt,pe,hZ,v6,f0,nx⟩:=(v2.same s3).tells (t:=.ring []) (F:=AV S'.here (ns++cR)) cu s4 b4;exact ⟨c.x,_,_,rfl,pe,hZ,q fd bF _ v6 f0 (by rw [ag (pp nx)];exact au)⟩
  | @pop n _ k l r j _ _ hle mJ ku =>
   refine dG (by rw [hle];cases l <;> rfl) ⟨_,fun _ _ h=>h,?_⟩;right;refine (fI cj cq rfl ?_);simp only [v2.ol];refine ⟨l.map dX,V.int (k:Int),by rw [hle,Fr];rfl,?_⟩;have v3:=v2.tX l;generalize upd H2 lf (.lst (l.map dX))=H3 at v3 ⊢;obtain ⟨jz,oS,eK,ia,eY⟩:=v3.fld;refine ⟨⟨_,rfl⟩,bD ?_⟩;refine (fI eK eY rfl ?_);simp only [v3.od];refine ⟨nV r,V.int (j:Int),by rw [mJ,nM];rfl,n+1,by omega,?_⟩;have v4:=v3.Ib r;dsimp only at v4;rw [lE];have ba:=fY.a;have bp:=fY.p;have br:=fY.r;have bq:=fY.q;rw [hle,xz] at bp;rw [mJ,xz] at br;exact ⟨_,rfl,.inl ⟨n,_,rfl,v4,⟨ba,by dsimp only;omega,by dsimp only;omega,bq⟩,ku⟩⟩
  | @step n _ p l S1 _ _ hle aJ ku =>
   refine dG (by rw [hle];cases l <;> rfl) ⟨_,fun _ _ h=>h,?_⟩;right;refine (fI cj cq rfl ?_);simp only [v2.ol];refine ⟨l.map dX,V.str p,by rw [hle,Fr];rfl,?_⟩;have v3:=v2.tX l;generalize upd H2 lf (.lst (l.map dX))=H3 at v3 ⊢;obtain ⟨jz,oS,eK,ia,eY⟩:=v3.fld;refine ⟨⟨_,rfl⟩,aY ?_⟩;have ba:=fY.a;have bp:=fY.p;have br:=fY.r;have bq:=fY.q;rw [hle,xz] at bp;refine (mI eK eY ⟨c,_,lf,_,_,rfl,v3,by dsimp only;omega,by dsimp only;omega,by dsimp only;omega,aJ,fun _ H4 v4=>⟨n+1,by omega,?_⟩,fun y hy=>by cases hy⟩);rw [lE];exact ⟨_,rfl,.inl ⟨n,S1,rfl,v4,aJ.bd fY hle,ku⟩⟩
  | @fail _ p l _ y hle aJ =>
   refine dG (by rw [hle];cases l <;> rfl) ⟨_,fun _ _ h=>h,?_⟩;right;refine (fI cj cq rfl ?_);simp only [v2.ol];refine ⟨l.map dX,V.str p,by rw [hle,Fr];rfl,?_⟩;have v3:=v2.tX l;generalize upd H2 lf (.lst (l.map dX))=H3 at v3 ⊢;obtain ⟨jz,oS,eK,ia,eY⟩:=v3.fld;refine ⟨⟨_,rfl⟩,aY ?_⟩;have ba:=fY.a;have bp:=fY.p;have br:=fY.r;have bq:=fY.q;rw [hle,xz] at bp;refine (mI eK eY ⟨c,_,lf,_,_,rfl,v3,by dsimp only;omega,by dsimp only;omega,by dsimp only;omega,aJ,(fun z=>by cases z),fun y' hy fd H4 v4 hf=>⟨0,by omega,?_⟩⟩);cases hy;rw [lE];exact ⟨_,rfl,.inr ⟨y,fd,rfl,rfl,v4,hf⟩⟩
 ·left;obtain ⟨iQ,yB,bB,jt,dE⟩:=v1.fld;refine (fI bB dE rfl ⟨by trivial,?_⟩);refine cD (pi (by nofun)) ?_
  first
   | exact (fI bB dE rfl ⟨by trivial,cD (pi (by nofun)) (q1 y ho fd _ v1 cu)⟩)
   | exact aY (fI bB dE rfl ⟨by trivial,cD (pi (by nofun)) (q1 y ho fd _ v1 cu)⟩)
   | (left;exact (fI bB dE rfl ⟨by trivial,cD (pi (by nofun)) (q1 y ho fd _ v1 cu)⟩))
inductive Res
 | found (k:Nat) (ns:List Str)
 | failed (k:Nat) (y:Str)
 | ring (ns:List Nat)
structure End where
 asked:List Nat
 res:Res
def lT (N:Cn) (H:Hp) (fd:Addr):Res->Prop
 | .found k ns=>∃ bF,H fd=some (.ins N.CG bF (AV k ns))
 | .failed k y=>∃ bF,H fd=some (.ins N.CF bF (zN k y))
 | .ring ns=>∃ bF rl,H fd=some (.ins N.CR bF (ax "leads" (.ref rl) []))/\H rl=some (.lst (nV ns))
def lT.same {N:Cn} {H H':Hp} {fd:Addr} (s:ah H H'):∀ {r:Res},lT N H fd r->lT N H' fd r
 | .found _ _,⟨d,e⟩=>⟨d,s _ _ e⟩
 | .failed _ _,⟨d,e⟩=>⟨d,s _ _ e⟩
 | .ring _,⟨d,l,e,f⟩=>⟨d,l,s _ _ e,s _ _ f⟩
def zU (step:Nat):Tl->Res
 | .fail y=>.failed step y
 | .ring ns=>.ring ns
def sN.r {N:Cn} {H0 H:Hp} {k:Nat} {fd:Addr}:∀ {t:Tl},sN N H0 H k fd t->lT N H fd (zU k t)
 | .fail _,⟨_,d,e⟩=>⟨d,e⟩
 | .ring _,⟨_,d,l,e,f⟩=>⟨d,l,e,f⟩
structure tT (d:Wd) (fr:Bool) (h:Nat):Prop where
 z:aF (sD d.M.ro) (.inr d.z)=some (.int (d.root:Int))
 ex:∃ (st b:Nat) (r:List Nat) (a:Ta) (t:Th),(fr=true/\st=d.root\/fr=false/\aF (sD d.M.st) (.inr d.z)=some (.int (st:Int)))/\d.L[st]?=some a/\d.M.ts[st]?=some t/\ed d.M st b r/\(∃ m,kW d.M d.L d.root m (dk b r) true)/\h=dk b r
inductive mv (d:Wd) (fr:Bool) (ps:List Str):End->Prop
 | told {h n S' t}:tT d fr h->ps.length<=2500->eP d n ⟨h,none,0,[],cP ps,[],0,0⟩ S' (some t)->mv d fr ps ⟨S'.asked,zU S'.step t⟩
 | found {h n S' ns cR}:tT d fr h->ps.length<=2500->eP d n ⟨h,none,0,[],cP ps,[],0,0⟩ S' none->vD d.M d.L d.root S' ns cR->mv d fr ps ⟨S'.asked,.found S'.here (ns++cR)⟩
def sG (N:Cn) (H H':Hp) (e:End) (x:Addr):Prop:=ah H H'/\∃ dx gs fd av,H' x=some (.ins N.CW dx gs)/\gs.lookup ("told":Str)=some (.ref fd)/\lT N H' fd e.res/\gs.lookup ("asked":Str)=some (.ref av)/\H' av=some (.lst (nV e.asked))
def sG.of {N:Cn} {H H1 H2:Hp} {e:End} {x:Addr} (s:ah H H1) (h:sG N H1 H2 e x):sG N H H2 e x:=⟨s.trans h.1,h.2⟩
def ZH (N:Cn):Sp:=FU fun h z fr lp last H Q _=>X6 fun A L M root ps e=>A5 (aI N.CH N.CS N.CT H A L M) (A.a=h) (H lp=some (.lst (ps.map V.str))) (mv ⟨L,M,z,last,root⟩ fr ps e) (∀ x H',sG N H H' e x->Q (.ref x) H')
def Jn:T.lA.k P w base 12 (ZH T.cn):=by
 refine T.lA.F.ok Hq (fun _ _ _ _ h=>Mv h fun _ _ _ _ _ _=>rfl) fun _ A _ s H vs Q E hr h=>Mv h fun hh z fr lp last h=>?_;obtain ⟨AA,L,M,root,ps,e,i,rfl,ph,g,q⟩:=h;obtain ⟨ni,bz,hb,Oo,n,S',o,ku,f1,f2⟩:∃ h,aF (sD M.ro) (.inr z)=some (.int (root:Int))/\tT ⟨L,M,z,last,root⟩ fr h/\ps.length<=2500/\∃ n S' o,eP ⟨L,M,z,last,root⟩ n ⟨h,none,0,[],cP ps,[],0,0⟩ S' o/\(∀ y,o=some y->e=⟨S'.asked,zU S'.step y⟩)/\(o=none->∃ ns cR,vD M L root S' ns cR/\e=⟨S'.asked,.found S'.here (ns++cR)⟩):=by
  cases g with
  | told b hp hr=>exact ⟨_,b.z,b,hp,_,_,_,hr,fun y hy=>(by cases hy;rfl),fun z=>(by cases z)⟩
  | found b hp hr ht=>exact ⟨_,b.z,b,hp,_,_,_,hr,fun y hy=>(by cases hy),fun _=>⟨_,_,ht,rfl⟩⟩
 obtain ⟨st,b,r,a,t,aJ,ha,ht,EB,EY,rfl⟩:=hb.ex;refine bK (b:=aQ Ag) ((ad (aP 5 Hq.nd (im T.UP (OW T) hr.m T.Xo T.sV.b .nil aC (aa (ac 0) (aa (ac 1) (aa (ac 4) ae)))))
 (ad (aS (bI T.aH T.uK.h (QR T) hr.m T.uK.b .nil aC (ac 5) (aa (ac 2) (aa (ac 3) ae))))
 (ad (aS (DY T.aH T.rV.h (O5 T) hr.m T.rV.b .nil aC (ac 5)))
 (ao (aO (ac 5))))))) ?_
 refine stI [some (V.ref AA.a),some (V.str z),some (V.bl fr),some (V.ref lp),some (V.bl last),none] ?_;right;intro x dx hx lB ndx;have s1:=(ah.upd (o:=.own x) lB).trans (ah.upd (p:=x) (o:=.ins T.bf dx []) (by rw [ag (pp ndx)];exact hx));have b1:upd (upd H dx (.own x)) x (.ins T.bf dx []) x=some (.ins T.bf dx []):=au;generalize upd (upd H dx (.own x)) x (.ins T.bf dx [])=H1 at s1 b1 ⊢;refine ⟨AA,L,M,dx,H,root,i,rfl,b1,s1,hx,bz,fun av lf rd H2 v2=>?_⟩;refine ⟨rfl,ai ?_⟩;left;obtain ⟨jx,oW,cj,iS,cq⟩:=v2.fld;refine (mI cj cq ⟨_,_,lf,st,b,ps,r,a,t,true,rfl,v2,v2.s _ _ ph,aJ,ha,ht,EB,EY,fun _ lf' H3 v3=>ai ?_,fun z=>by cases z⟩);left;obtain ⟨jz,oS,eK,ia,eY⟩:=v3.fld;refine (mI eK eY ⟨_,_,lf',n,S',o,rfl,v3,⟨Da _,by have:=JW ps;dsimp only;omega,Da _,Da _⟩,ku,fun y hy fd H4 v4 cu=>?_,fun ho=>?_⟩)
 ·obtain ⟨qY,N5,gv,oO,pk⟩:=v4.fld;have he:=f1 y hy;exact q x H4 ⟨v4.s,dx,qY,fd,av,gv,(pk _).trans rfl,by rw [he];exact cu.r,(pk _).trans rfl,by rw [he];exact v4.oa⟩
 ·obtain ⟨ns,cR,ht,he⟩:=f2 ho;refine ⟨ns,cR,ht,fun fd bF H4 v4 f0 cu=>?_⟩;obtain ⟨qY,N5,gv,oO,pk⟩:=v4.fld;exact q x H4 ⟨v4.s,dx,qY,fd,av,gv,(pk _).trans rfl,by rw [he];exact ⟨bF,cu⟩,(pk _).trans rfl,by rw [he];exact v4.oa⟩
structure ef (d:Wd) (t:List Nat) (e:End):Prop where
 l1:1<=t.length
 l2:t.length<=2000
 all:(Tx.words 47 t).all ej=true
 g:mv d (eO t) (gZ t) e
def ef.hz {d:Wd} {t:List Nat} {e:End} (p:ef d t e):(aF (sD d.M.ro) (.inr d.z)).isSome=true:=by
 cases p.g with
 | told b=>rw [b.z];rfl
 | found b=>rw [b.z];rfl
def P9 (N:Cn):Sp:=CZ fun h z pt last H Q _=>X6 fun A L M root t e=>A5 (pt=Tx.S t) (aI N.CH N.CS N.CT H A L M) (A.a=h) (ef ⟨L,M,z,last,root⟩ t e) (∀ x H',sG N H H' e x->Q (.ref x) H')
def VU:T.pH.k P w base 13 (P9 T.cn):=by
 refine T.pH.F.ok IK (fun _ _ _ _ h=>vP h fun _ _ _ _ _=>rfl) fun _ A _ s H vs Q E hr h=>vP h fun hh z pt last h=>?_;obtain ⟨AA,L,M,root,t,e,rfl,i,rfl,pg,q⟩:=h;obtain ⟨fN,hc,hh,rn,hJ⟩:=i.h;refine bK (b:=aQ ze) ((ad (aS (fB T.aN T.gm.h (qj T) hr.m T.gm.b .nil eN (ac 0) (aa (ac 1) ae)))
 (ad (aP 4 IK.nd (bn (qJ T) hr.m T.dQ.m T.dQ.F.kp T.dQ.b .nil aC (aa (ac 2) ae)))
 (ao (aO (bn (Jn T) hr.m T.lA.m T.lA.F.kp T.lA.b .nil aC (aa (ac 0) (aa (ac 1) (aa (ci (bG (K:=K) rfl) (ac 4) bi) (aa (ci (bG (K:=K) rfl) (ac 4) bi) (aa (ac 3) ae))))))))))) ?_
 refine stI [some (V.ref AA.a),some (V.str z),some (V.str (Tx.S t)),some (V.bl last),none] ?_;right;refine (mI hh hJ (kR i pg.hz (ai ?_)));left;refine ⟨t,rfl,pg.l1,pg.l2,pg.all,fun H1 l p s1 _ hl hp=>?_⟩;simp only [bU,hp];left;rw [show dv [V.bl (eO t),V.ref l] 0=some (V.bl (eO t)) from rfl,show dv [V.bl (eO t),V.ref l] 1=some (V.ref l) from rfl];rw [J3] at hl;exact ⟨AA,L,M,root,_,e,i.same s1,rfl,hl,pg.g,fun x H2 f=>q x H2 (f.of s1)⟩
def acz (N:Cn):Sp:=CZ fun h z pt last H Q _=>X6 fun A L M root t e=>A5 (pt=Tx.S t) (aI N.CH N.CS N.CT H A L M) (A.a=h) (ef ⟨L,M,z,last,root⟩ t e) (∀ fd H',ah H H'->lT N H' fd e.res->Q (.ref fd) H')
def W4:aA P w K mg base aM 14 T.EV T.yi ["house","asker","path","last"] (acz T.cn):=by
 refine T.wG.ok acw (fun vs H Q E h=>?_) (fun _ A _ s H vs Q E hr h=>?_)
 ·exact vP h fun _ _ _ _ _=>rfl
 ·refine vP h fun hh z pt last h=>?_;obtain ⟨AA,L,M,root,t,e,rfl,i,rfl,pg,q⟩:=h;refine bK (b:=aQ sS) ((ao (aO (ap T.aH T.my (bn (VU T) hr.m T.pH.m T.pH.F.kp T.pH.b .nil aC (aa (ac 0) (aa (ac 1) (aa (ac 2) (aa (ac 3) ae))))))))) ?_;refine stI [some (V.ref AA.a),some (V.str z),some (V.str (Tx.S t)),some (V.bl last)] ?_;left;refine ⟨AA,L,M,root,t,e,rfl,i,rfl,pg,fun x H1 ⟨s1,dx,gs,fd,av,hx,EE,cu,xy,rE⟩=>?_⟩;exact ⟨x,_,_,_,rfl,hx,EE,q fd H1 s1 cu⟩
inductive Rf
 | dY (y:Str)
 | way (r:Res)
def eD (N:Cn) (H:Hp) (E:XK):Rf->Prop
 | .dY y=>∀ d H',ah H H'->H' d=some (.xd [("reason",.str y)])->E (.ref N.CD) (some d) H'
 | .way r=>∀ fd d H',ah H H'->lT N H' fd r->H' d=some (.xd [("told",.ref fd)])->E (.ref N.CN) (some d) H'
def eD.of {N:Cn} {H H1:Hp} {E:XK} {r:Rf} (s:ah H H1) (h:eD N H E r):eD N H1 E r:=by
 cases r with
 | dY y=>exact fun d H' s' e=>h d H' (s.trans s') e
 | way k=>exact fun fd d H' s' e1 e2=>h fd d H' (s.trans s') e1 e2
def eD.raise {N:Cn} {H H1:Hp} {E:XK} {y:Str} {d:Addr} (h:eD N H E (.dY y)) (s:ah H H1) (hd:H1 d=none):E (.ref N.CD) (some d) (upd H1 d (.xd [("reason",.str y)])):=h d _ (s.trans (ah.upd hd)) au
def pK:T.jE.k P w mg base 1 (mG T.bZ "reason"):=by
 refine T.jE.F.ok Yk (fun vs H Q E h=>?_) (fun _ A _ s H vs Q E hr h=>?_)
 ·unfold mG at h;split at h
  ·rfl
  ·exact h.elim
 ·unfold mG at h;split at h
  ·rename_i ea y;obtain ⟨he,q⟩:=h;refine ⟨_,((ao (K7 T.lN (ac 0) (ac 1)))).h,?_⟩;refine stI [some (.ref ea),some y] ?_;walk_at "rd";exact ⟨ea,rfl,he,q⟩
  ·exact h.elim
def Z7:T.sv.k P w mg base 1 (mG T.cw "told"):=by
 refine T.sv.F.ok aa2 (fun vs H Q E h=>?_) (fun _ A _ s H vs Q E hr h=>?_)
 ·unfold mG at h;split at h
  ·rfl
  ·exact h.elim
 ·unfold mG at h;split at h
  ·rename_i ea y;obtain ⟨he,q⟩:=h;refine ⟨_,((ao (K7 T.Ge (ac 0) (ac 1)))).h,?_⟩;refine stI [some (.ref ea),some y] ?_;walk_at "rd";exact ⟨ea,rfl,he,q⟩
  ·exact h.elim
def Qn (N:Cn):Sp:=lL fun fd H Q E=>X1 fun r=>A3 (lT N H fd r) (∀ k ns,r=.found k ns->Q (.int (k:Int)) H) ((∀ k ns,r≠.found k ns)->eD N H E (.way r))
def Gv:aA P w K mg base (bC P w) 3 T.kY.f T.kY.d ["told"] (Qn T.cn):=by
 refine T.kY.F.c7 Sf (fun _ _ _ _ h=>gG h fun _ _=>rfl) fun _ A _ s H vs Q E hr h=>gG h fun fd h=>?_;obtain ⟨r,cu,q1,q2⟩:=h;refine bK (b:=aQ AO) ((ad (aZ (de (cQ (bQ (g7 (K:=K) rfl) T.dP dJ (aa (ac 0) (aa (dl (.ref T.eQ) T.Mg rfl) ae))))) (ao (oH nu rfl rfl T.Lx T.Ge T.YK (Z7 T) hr.m T.sv.b (aa (ac 0) ae))) ce)
 (ao (aO (ap T.vG T.FO (ac 0)))))) ?_
 refine stI [some (V.ref fd)] ?_;right;cases r with
 | found k ns =>
  obtain ⟨bF,hf⟩:=cu;exact ⟨_,_,_,.of (.ins hf T.vG T.q1 T.q2 T.q3 T.q4),.cls T.q5,aY ⟨fd,bF,_,_,rfl,hf,rfl,q1 k ns rfl⟩⟩
 | failed k y =>
  obtain ⟨bF,hf⟩:=id cu;exact ⟨_,_,_,.of (.ins hf T.zR T.q6 T.q2 T.q3 T.q7),.cls T.q8,bD ⟨_,rfl,fun d hd=>q2 (by nofun) fd d _ (ah.upd hd) (cu.same (ah.upd hd)) au⟩⟩
 | ring ns =>
  obtain ⟨bF,rl,hf,hl⟩:=id cu;exact ⟨_,_,_,.of (.ins hf T.Lw T.TL T.q2 T.q3 T.PJ),.cls T.Va,bD ⟨_,rfl,fun d hd=>q2 (by nofun) fd d _ (ah.upd hd) (cu.same (ah.upd hd)) au⟩⟩
def Pq (N:Cn):Sp:=pI fun h z pt H Q E=>X6 fun A L M root t e=>A6 (pt=Tx.S t) (aI N.CH N.CS N.CT H A L M) (A.a=h) (ef ⟨L,M,z,true,root⟩ t e) (∀ k ns,e.res=.found k ns->∀ H',ah H H'->Q (.int (k:Int)) H') ((∀ k ns,e.res≠.found k ns)->eD N H E (.way e.res))
def Vw:aA P w K mg base (bC P w) 15 T.qG.f T.qG.d ["house","asker","path"] (Pq T.cn):=by
 refine T.qG.F.c7 ZD (fun _ _ _ _ h=>jP h fun _ _ _ _=>rfl) fun _ A _ s H vs Q E hr h=>jP h fun hh z pt h=>?_;obtain ⟨AA,L,M,root,t,e,rfl,i,rfl,pg,q1,q2⟩:=h;refine bK (b:=aQ z7) ((ao (aO (bP (Gv T) hr.m T.kY.m T.kY.F.kp T.kY.b .nil cA (aa (bn (W4 T) hr.m T.P5 T.wG.kp T.AK (.cons (show RelV (.bl true) _ from rfl) .nil) aC (aa (ac 0) (aa (ac 1) (aa (ac 2) ae)))) ae))))) ?_;refine stI [some (V.ref AA.a),some (V.str z),some (V.str (Tx.S t))] ?_;left;refine ⟨AA,L,M,root,t,e,rfl,i,rfl,pg,fun fd H1 s1 cu=>?_⟩;exact ⟨e.res,cu,fun k ns he=>q1 k ns he H1 s1,fun hn=>(q2 hn).of s1⟩
def abH:T.pA.k P w base 4 (pB T.aL T.aV T.bc Ad.a fun _ _ _ _ _ t H Q=>Q (.bl (decide (t.kd=("folder":Str)))) H):=by
 refine T.pA.F.ok Rm (fun _ _ _ _ h=>dj h fun _ _ _=>rfl) fun _ A _ s H vs Q E hr h=>dj h fun x n h=>?_;obtain ⟨AA,L,M,k,a,t,i,rfl,rfl,ha,aK,q⟩:=h;obtain ⟨fs,c,hx,aX,sf⟩:=i.h;refine ⟨_,((ao (aO (em gi (bI T.aN T.je.h (wL T) hr.m T.je.b .nil aC (ac 0) (aa (ac 1) ae)) (dl (.str "folder") T.tQ ⟨_,rfl⟩))))).h,?_⟩;refine stI [some (V.ref AA.a),some (V.int (k:Int))] ?_;left;exact (mI hx sf ⟨AA,L,M,k,a,t,i,rfl,rfl,ha,aK,q⟩)
inductive kP (ps:List (List Nat)):Option (List (List Nat)×List Nat)->Prop
 | nil:ps=[]->kP ps none
 | CM {q nm}:ps=q++[nm]->isNm nm=false->nm.length<=8->kP ps none
 | FK {q nm}:ps=q++[nm]->isNm nm=true->kP ps (some (q,nm))
structure gE (t:List Nat):Prop where
 l1:1<=t.length
 l2:t.length<=2000
 all:(Tx.words 47 t).all ej=true
def TZ (N:Cn):Sp:=mx fun pt H Q E=>X2 fun t r=>A5 (pt=Tx.S t) (gE t) (kP (told (Tx.words 47 t) t) r) (∀ x,r=some x->∀ H',ah H H'->Q .aq H') (r=none->eD N H E (.dY "dots"))
def J8 {w:List Nat} (h:isNm w=true):47 ∉ w/\w≠[]/\1<=w.length/\w.length<=8:=by
 have hp:ej w=true:=by unfold ej;rw [h];simp
 obtain ⟨h1,h2,_⟩:=Kq h;exact ⟨(DW hp).1,(DW hp).2.1,h1,h2⟩
def Lf {w:List Nat} {b:Bool} (h:isNm w=b):fA (.str (Tx.S w))=b:=by
 show isNm (Tx.S w).cps.toList=b;rw [Tx.kg];exact h
def Mb {w:List Nat} (h:isNm w=true):fA (.str (Tx.S w))=true:=Lf h
def abP:aA P w K mg base (bC P w) 4 T.pP.f T.pP.d ["path"] (TZ T.cn):=by
 refine T.pP.F.c7 LK (fun _ _ _ _ h=>gz h fun _ _=>rfl) fun _ A _ s H vs Q E hr h=>gz h fun pt h=>?_;obtain ⟨t,r,rfl,sp,hs,q1,q2⟩:=h;refine bK (b:=aQ B2) ((ad (aP 1 LK.nd (ci (bG (K:=K) rfl) (bn (qJ T) hr.m T.dQ.m T.dQ.F.kp T.dQ.b .nil aC (aa (ac 0) ae)) bi))
 (ao (aZ (fi (f8 (bt (Uk hr.kO) (ac 1) (cr ae)) (jd (de (cQ (bn (zp T) hr.m T.iy.m T.iy.F.kp T.iy.b .nil aC (aa (ci (bG (K:=K) rfl) (ac 1) (io l6 bi)) ae))))))) (ao (oH nu rfl rfl T.oh T.lN T.pN (pK T) hr.m T.jE.b (aa am ae))) ce)))) ?_
 refine stI [some (V.str (Tx.S t)),none] ?_;right;refine ⟨t,rfl,sp.l1,sp.l2,sp.all,fun H1 l p s1 _ hl hp=>?_⟩;simp only [bU,hp];rw [show dv [V.bl (eO t),V.ref l] 1=some (V.ref l) from rfl];refine ⟨fits (by simp),fun d hd=>?_⟩;refine eC hd fun H2 s2 b2=>?_;have cY:=s2 _ _ hl;cases hs with
 | nil e =>
  rw [e] at cY;exact ⟨[],[],cY,b2,dG (tz rfl) ⟨_,rfl,fun d' hd'=>(q2 rfl).raise (s1.trans s2) hd'⟩⟩
 | @CM qs nm e hn m8 =>
  rw [e] at cY;have jT:H2 l=some (.lst (PV qs++[V.str (Tx.S nm)])):=by rw [cY];simp [PV]
  refine ⟨qs.map Tx.S++[Tx.S nm],[],by rw [jT];simp [PV],b2,?_⟩;rw [pi (by simp)];refine aY ?_;simp only [jT,qg];refine ⟨⟨_,rfl⟩,by show (Tx.S nm).length<=1000;rw [Tx.eB];omega,fun H3 s3=>?_⟩;rw [Lf hn];exact bD ⟨_,rfl,fun d' hd'=>(q2 rfl).raise ((s1.trans s2).trans s3) hd'⟩
 | @FK qs nm e hn =>
  rw [e] at cY;obtain ⟨h1,h2,h3,h4⟩:=J8 hn;have jT:H2 l=some (.lst (PV qs++[V.str (Tx.S nm)])):=by rw [cY];simp [PV]
  refine ⟨qs.map Tx.S++[Tx.S nm],[],by rw [jT];simp [PV],b2,?_⟩;rw [pi (by simp)];refine aY ?_;simp only [jT,qg];refine ⟨⟨_,rfl⟩,by show (Tx.S nm).length<=1000;rw [Tx.eB];omega,fun H3 s3=>?_⟩;rw [Mb hn];exact aY (q1 _ rfl _ ((s1.trans s2).trans s3))
def Am {H H':Hp} {x:Addr} (s:ah H H') (h:H' x=none):H x=none:=by
 cases e:H x with
 | none=>rfl
 | some o=>rw [s _ _ e] at h;cases h
abbrev wF (f:Nat) (nm:List Nat):List (Str×V):=ax "name" (.str (Tx.S nm)) (ax "folder" (.int (f:Int)) [])
inductive kf (d:Wd) (t:List Nat):Sum Rf (Nat×List Nat)->Prop
 | CM:kP (told (Tx.words 47 t) t) none->kf d t (.inl (.dY "dots"))
 | way {q nm e}:kP (told (Tx.words 47 t) t) (some (q,nm))->q.length<=900->mv d (eO t) (q.map Tx.S++[(".":Str)]) e->(∀ k ns,e.res≠.found k ns)->kf d t (.inl (.way e.res))
 | xE {q nm e f ns}:kP (told (Tx.words 47 t) t) (some (q,nm))->q.length<=900->mv d (eO t) (q.map Tx.S++[(".":Str)]) e->e.res=.found f ns->kf d t (.inr (f,nm))
def Q9 (N:Cn):Sp:=pI fun h z pt H Q E=>X6 fun A L M root t r=>A7 (pt=Tx.S t) (gE t) (aI N.CH N.CS N.CT H A L M) (A.a=h) (kf ⟨L,M,z,true,root⟩ t r) (∀ x,r=.inl x->eD N H E x) (∀ f nm,r=.inr (f,nm)->∀ x dx H',H x=none->ah H H'->H' x=some (.ins N.CE dx (wF f nm))->Q (.ref x) H')
def VA:aA P w K mg base (bC P w) 13 T.ql.f T.ql.d ["house","asker","path"] (Q9 T.cn):=by
 refine T.ql.F.c7 yT (fun _ _ _ _ h=>jP h fun _ _ _ _=>rfl) fun _ A _ s H vs Q E hr h=>jP h fun hh z pt h=>?_;obtain ⟨AA,L,M,root,t,r,rfl,sp,i,rfl,g,q1,q2⟩:=h;refine bK (b:=aQ B7) ((ad (aS (bP (abP T) hr.m T.pP.m T.pP.F.kp T.pP.b .nil cA (aa (ac 2) ae)))
 (ad (aP 3 yT.nd (bn (qJ T) hr.m T.dQ.m T.dQ.F.kp T.dQ.b .nil aC (aa (ac 2) ae)))
 (ad (aP 4 yT.nd (bn (Jn T) hr.m T.lA.m T.lA.F.kp T.lA.b .nil aC (aa (ac 0) (aa (ac 1) (aa (ci (bG (K:=K) rfl) (ac 3) bi) (aa (db fU (kt (uH (K:=K) rfl) (ci (bG (K:=K) rfl) (ac 3) bi) uJ (sd (io l6 bi))) (cr (aa am ae))) (aa dL ae)))))))
 (ao (aO (im T.aas (QL T) hr.m T.WJ T.tS.b .nil aC (aa (bP (Gv T) hr.m T.kY.m T.kY.F.kp T.kY.b .nil cA (aa (ap T.aH T.my (ac 4)) ae)) (aa (ci (bG (K:=K) rfl) (ci (bG (K:=K) rfl) (ac 3) bi) (io l6 bi)) ae))))))))) ?_
 refine stI [some (V.ref AA.a),some (V.str z),some (V.str (Tx.S t)),none,none] ?_;right;have hs:(r=.inl (.dY "dots")/\kP (told (Tx.words 47 t) t) none)\/∃ qs nm e,kP (told (Tx.words 47 t) t) (some (qs,nm))/\qs.length<=900/\mv ⟨L,M,z,true,root⟩ (eO t) (qs.map Tx.S++[(".":Str)]) e/\((∀ k ns,e.res≠.found k ns)->r=.inl (.way e.res))/\∀ f ns,e.res=.found f ns->r=.inr (f,nm):=by
  cases g with
  | CM h=>exact .inl ⟨rfl,h⟩
  | way h1 h2 h3 h4=>exact .inr ⟨_,_,_,h1,h2,h3,fun _=>rfl,fun f ns e=>absurd e (h4 f ns)⟩
  | xE h1 h2 h3 h4=>exact .inr ⟨_,_,_,h1,h2,h3,fun k=>absurd h4 (k _ _),fun f ns e=>by rw [h4] at e;cases e;rfl⟩
 rcases hs with ⟨rfl,hs⟩ | ⟨qs,nm,e,hs,hq,g,r1,r2⟩
 ·exact ⟨t,none,rfl,sp,hs,(fun x e=>by cases e),fun _=>q1 _ rfl⟩
 refine ⟨t,_,rfl,sp,hs,fun x _ H1 s1=>ai ?_,fun e=>by cases e⟩;have he:told (Tx.words 47 t) t=qs++[nm]:=by cases hs;assumption
 left;refine ⟨t,rfl,sp.l1,sp.l2,sp.all,fun H2 l p s2 _ hl hp=>ai ?_⟩;rw [he,show PV (qs++[nm])=PV qs++[V.str (Tx.S nm)] from by simp [PV]] at hl;left;simp only [bU,hp];rw [show dv [V.bl (eO t),V.ref l] 1=some (V.ref l) from rfl,show dv [V.bl (eO t),V.ref l] 0=some (V.bl (eO t)) from rfl]
 try dsimp only
 refine ⟨_,aD.of hl,fun p1 gO=>?_⟩;rw [VP];refine ⟨fits (by simp),fun p2 gL=>?_⟩;have s3:=(ah.upd (o:=.lst (PV qs)) gO).trans (ah.upd (o:=.lst [V.str "."]) gL);have n12:p1≠p2:=aG (au (o:=.lst (PV qs))) gL;have b3:upd (upd H2 p1 (.lst (PV qs))) p2 (.lst [V.str "."]) p1=some (.lst (PV qs)):=by rw [ag n12,au]
 have b4:upd (upd H2 p1 (.lst (PV qs))) p2 (.lst [V.str "."]) p2=some (.lst [V.str "."]):=au;generalize upd (upd H2 p1 (.lst (PV qs))) p2 (.lst [V.str "."])=H3 at s3 b3 b4 ⊢;simp only [b3,b4];refine ⟨fits (by simp;omega),fun p3 hU=>?_⟩;have s4:=s3.trans (ah.upd (o:=.lst (PV qs++[V.str "."])) hU);have b5:upd H3 p3 (.lst (PV qs++[V.str "."])) p3=some (.lst (PV qs++[V.str "."])):=au;generalize upd H3 p3 (.lst (PV qs++[V.str "."]))=H4 at s4 b5 ⊢;refine ⟨AA,L,M,root,qs.map Tx.S++[(".":Str)],e,i.same ((s1.trans s2).trans s4),rfl,by rw [b5];simp [PV],g,?_⟩;rintro x H5 ⟨s5,dx,gs,fd,av,hx,EE,cu,xy,rE⟩;have Fi:=((s1.trans s2).trans s4).trans s5;refine ⟨x,_,_,_,rfl,hx,EE,_,cu,fun k ns hk=>?_,fun hk=>(q1 _ (r1 hk)).of Fi⟩
 ·have mU:=(s4.trans s5) _ _ hp;have hZ:=(s4.trans s5) _ _ hl;simp only [mU];rw [show dv [V.bl (eO t),V.ref l] 1=some (V.ref l) from rfl];simp only [hZ,qg]
  try dsimp only
  intro y dy hy hdy ndy;refine ⟨dy,au,rfl,?_⟩;rw [jK];exact q2 _ _ (r2 _ _ hk) y dy _ (Am Fi hy) (Fi.trans ((ah.upd (o:=.own y) hdy).trans (ah.upd (p:=y) (by rw [ag (pp ndy)];exact hy)))) au
def Ut (N:Cn):Sp:=Gs fun h z n r y H Q E=>X5 fun A L M t (k:Nat)=>A8 (n=(k:Int)) (aI N.CH N.CS N.CT H A L M) (A.a=h) ((aF (sD M.ro) (.inr z)).isSome=true) (jN (.str r)=true) (M.ts[k]?=some t) (bx r (cE t z)=true->Q .aq H) (bx r (cE t z)=false->eD N H E (.dY y))
def Cu:aA P w K mg base (bC P w) 4 T.iu.f T.iu.d ["house","asker","number","right","reason"] (Ut T.cn):=by
 refine T.iu.F.c7 Yv (fun _ _ _ _ h=>Kz h fun _ _ _ _ _ _=>rfl) fun _ A _ s H vs Q E hr h=>Kz h fun hh z n r rs h=>?_;obtain ⟨AA,L,M,t,k,rfl,i,rfl,hz,jB,ht,q1,q2⟩:=h;obtain ⟨ra,gc,gh,rD,gu⟩:=i.h;refine bK (b:=aQ zD) ((ao (aZ (de (cQ (fB T.aN T.ny.h (Hg T) hr.m T.ny.b .nil cA (ac 0) (aa (ac 1) (aa (ac 2) (aa (ac 3) ae)))))) (ao (oH nu rfl rfl T.oh T.lN T.pN (pK T) hr.m T.jE.b (aa (ac 4) ae))) ce))) ?_;refine stI [some (V.ref AA.a),some (V.str z),some (V.int (k:Int)),some (V.str r),some (V.str rs)] ?_;left;refine (mI gh gu (Kt i hz jB ht ?_));cases hm:bx r (cE t z) with
 | true=>exact aY (q1 hm)
 | false=>exact bD ⟨_,rfl,fun d hd=>(q2 hm).raise (fun _ _ e=>e) hd⟩
def US (N:Cn):Sp:=rZ fun h z n H Q E=>X5 fun A L M t (k:Nat)=>A7 (n=(k:Int)) (aI N.CH N.CS N.CT H A L M) (A.a=h) ((aF (sD M.ro) (.inr z)).isSome=true) (M.ts[k]?=some t) (bx ("w":Str) (cE t z)=true->Q .aq H) (bx ("w":Str) (cE t z)=false->eD N H E (.dY "kept"))
def YX:aA P w K mg base (bC P w) 5 T.pL.f T.pL.d ["house","asker","folder"] (US T.cn):=by
 refine T.pL.F.c7 Xg (fun _ _ _ _ h=>jM h fun _ _ _ _=>rfl) fun _ A _ s H vs Q E hr h=>jM h fun hh z n h=>?_;obtain ⟨AA,L,M,t,k,rfl,i,rfl,hz,ht,q1,q2⟩:=h;refine bK (b:=aQ Dd) ((ao (aS (bP (Cu T) hr.m T.iu.m T.iu.F.kp T.iu.b .nil cA (aa (ac 0) (aa (ac 1) (aa (ac 2) (aa am (aa am ae))))))))) ?_;refine stI [some (V.ref AA.a),some (V.str z),some (V.int (k:Int))] ?_;left;exact ⟨AA,L,M,t,k,rfl,i,rfl,hz,by symm,ht,q1,q2⟩
def adg (N:Cn):Sp:=sQ fun h x H Q _=>X8 fun A L M a t dx nm (k:Nat)=>A7 (aI N.CH N.CS N.CT H A L M) (A.a=h) (H x=some (.ins N.CE dx (wF k nm))) (isNm nm=true) (L[k]?=some a) (M.ts[k]?=some t) (∀ H',ah H H'->Q ((aF (sD t.aW) (.inr (Tx.S nm))).getD .aq) H')
def acF:T.qp.k P w base 5 (adg T.cn):=by
 refine T.qp.F.ok Td (fun _ _ _ _ h=>mD h fun _ _ _=>rfl) fun _ A _ s H vs Q E hr h=>mD h fun hh x h=>?_;obtain ⟨AA,L,M,a,t,dx,nm,k,i,rfl,hx,hn,ha,ht,q⟩:=h;obtain ⟨ra,gc,gh,rD,gu⟩:=i.h;obtain ⟨h1,h2,h3,h4⟩:=J8 hn;refine bK (b:=aQ Bi) ((ao (aO (bI T.aN T.ou.h (GO T) hr.m T.ou.b .nil aC (ac 0) (aa (ap T.nA T.wo (ac 1)) (aa (ap T.nA T.DV (ac 1)) ae)))))) ?_;refine stI [some (V.ref AA.a),some (V.ref x)] ?_;left;exact (mI gh gu ⟨x,_,_,_,rfl,hx,rfl,x,_,_,_,rfl,hx,rfl,AA,L,M,k,a,t,i,rfl,rfl,ha,ht,Mb hn,by rw [Tx.eB];omega,q⟩)
def aa6 (N:Cn):Sp:=sQ fun h x H Q E=>X8 fun A L M a t dx nm (k:Nat)=>A8 (aI N.CH N.CS N.CT H A L M) (A.a=h) (H x=some (.ins N.CE dx (wF k nm))) (isNm nm=true) (L[k]?=some a) (M.ts[k]?=some t) (aF (sD t.aW) (.inr (Tx.S nm))=none->∀ H',ah H H'->Q .aq H') (∀ c:Int,aF (sD t.aW) (.inr (Tx.S nm))=some (.int c)->eD N H E (.dY "there"))
def XN {l:List (Str×Nat)} {z:Key} {v:V} (h:aF (sD l) z=some v):∃ c:Nat,v=.int (c:Int):=by
 unfold aF at h;obtain ⟨kv,h1,rfl⟩:=T0.mp h;obtain ⟨e,_,rfl⟩:=Cl.mp (List.mem_of_find?_eq_some h1);exact ⟨_,rfl⟩
def ab5:aA P w K mg base (bC P w) 6 T.pR.f T.pR.d ["house","seat"] (aa6 T.cn):=by
 refine T.pR.F.c7 UJ (fun _ _ _ _ h=>mD h fun _ _ _=>rfl) fun _ A _ s H vs Q E hr h=>mD h fun hh x h=>?_;obtain ⟨AA,L,M,a,t,dx,nm,k,i,rfl,hx,hn,ha,ht,q1,q2⟩:=h;refine bK (b:=aQ CQ) ((ao (aZ (bt GG (bn (acF T) hr.m T.qp.m T.qp.F.kp T.qp.b .nil aC (aa (ac 0) (aa (ac 1) ae))) aq) (ao (oH nu rfl rfl T.oh T.lN T.pN (pK T) hr.m T.jE.b (aa am ae))) ce))) ?_;refine stI [some (V.ref AA.a),some (V.ref x)] ?_;left;refine ⟨AA,L,M,a,t,dx,nm,k,i,rfl,hx,hn,ha,ht,fun H1 s1=>?_⟩;cases hv:aF (sD t.aW) (.inr (Tx.S nm)) with
 | none=>exact ⟨by trivial,aY (q1 hv H1 s1)⟩
 | some v =>
  obtain ⟨c,rfl⟩:=XN hv;exact ⟨by trivial,bD ⟨_,rfl,fun d hd=>(q2 _ hv).raise s1 hd⟩⟩
inductive qK (d:Wd) (t:List Nat):Sum Rf (Nat×List Nat)->Prop
 | no {x}:kf d t (.inl x)->qK d t (.inl x)
 | kept {f nm tf}:kf d t (.inr (f,nm))->d.M.ts[f]?=some tf->bx ("w":Str) (cE tf d.z)=false->qK d t (.inl (.dY "kept"))
 | there {f nm a tf c}:kf d t (.inr (f,nm))->isNm nm=true->d.L[f]?=some a->d.M.ts[f]?=some tf->bx ("w":Str) (cE tf d.z)=true->aF (sD tf.aW) (.inr (Tx.S nm))=some (.int (c:Int))->qK d t (.inl (.dY "there"))
 | free {f nm a tf}:kf d t (.inr (f,nm))->isNm nm=true->d.L[f]?=some a->d.M.ts[f]?=some tf->bx ("w":Str) (cE tf d.z)=true->aF (sD tf.aW) (.inr (Tx.S nm))=none->qK d t (.inr (f,nm))
def YB (N:Cn):Sp:=pI fun h z pt H Q E=>X6 fun A L M root t r=>A8 (pt=Tx.S t) (gE t) (aI N.CH N.CS N.CT H A L M) (A.a=h) ((aF (sD M.ro) (.inr z)).isSome=true) (qK ⟨L,M,z,true,root⟩ t r) (∀ x,r=.inl x->eD N H E x) (∀ f nm,r=.inr (f,nm)->∀ x dx H',H x=none->ah H H'->H' x=some (.ins N.CE dx (wF f nm))->Q (.ref x) H')
def Xm:aA P w K mg base (bC P w) 14 T.qf.f T.qf.d ["house","asker","path"] (YB T.cn):=by
 refine T.qf.F.c7 HU (fun _ _ _ _ h=>jP h fun _ _ _ _=>rfl) fun _ A _ s H vs Q E hr h=>jP h fun hh z pt h=>?_;obtain ⟨AA,L,M,root,t,r,rfl,sp,i,rfl,ED,g,q1,q2⟩:=h;refine bK (b:=aQ Bg) ((ad (aP 3 HU.nd (bP (VA T) hr.m T.ql.m T.ql.F.kp T.ql.b .nil cA (aa (ac 0) (aa (ac 1) (aa (ac 2) ae)))))
 (ad (aS (bP (YX T) hr.m T.pL.m T.pL.F.kp T.pL.b .nil cA (aa (ac 0) (aa (ac 1) (aa (ap T.nA T.wo (ac 3)) ae)))))
 (ad (aS (bP (ab5 T) hr.m T.pR.m T.pR.F.kp T.pR.b .nil cA (aa (ac 0) (aa (ac 3) ae))))
 (ao (aO (ac 3))))))) ?_
 refine stI [some (V.ref AA.a),some (V.str z),some (V.str (Tx.S t)),none] ?_;right;cases g with
 | no g=>exact ⟨AA,L,M,root,t,_,rfl,sp,i,rfl,g,fun x e=>(by cases e;exact q1 _ rfl),fun f nm e=>by cases e⟩
 | kept g oR hw =>
  refine ⟨AA,L,M,root,t,_,rfl,sp,i,rfl,g,fun x e=>(by cases e),fun f nm e=>?_⟩;cases e;intro x dx H1 fx s1 hx;right;exact ⟨x,_,_,_,rfl,hx,rfl,AA,L,M,_,_,rfl,i.same s1,rfl,ED,oR,fun e=>(by rw [hw] at e;cases e),fun _=>(q1 _ rfl).of s1⟩
 | there g hn D2 oR hw hv =>
  refine ⟨AA,L,M,root,t,_,rfl,sp,i,rfl,g,fun x e=>(by cases e),fun f nm e=>?_⟩;cases e;intro x dx H1 fx s1 hx;right;refine ⟨x,_,_,_,rfl,hx,rfl,AA,L,M,_,_,rfl,i.same s1,rfl,ED,oR,fun _=>ai ?_,fun e=>by rw [hw] at e;cases e⟩;left;exact ⟨AA,L,M,_,_,dx,_,_,i.same s1,rfl,hx,hn,D2,oR,fun e=>(by rw [hv] at e;cases e),fun _ _=>(q1 _ rfl).of s1⟩
 | free g hn D2 oR hw hv =>
  refine ⟨AA,L,M,root,t,_,rfl,sp,i,rfl,g,fun x e=>(by cases e),fun f nm e=>?_⟩;cases e;intro x dx H1 fx s1 hx;right;refine ⟨x,_,_,_,rfl,hx,rfl,AA,L,M,_,_,rfl,i.same s1,rfl,ED,oR,fun _=>ai ?_,fun e=>by rw [hw] at e;cases e⟩;left;exact ⟨AA,L,M,_,_,dx,_,_,i.same s1,rfl,hx,hn,D2,oR,fun _ H2 s2=>q2 _ _ rfl x dx H2 fx (s1.trans s2) (s2 _ _ hx),fun _ e=>by rw [hv] at e;cases e⟩
def RD:Sp:=mx fun z H Q _=>z.length<=60/\Q (.bl true) H
def TB:Sp:=mx fun z H Q _=>z.length<=60/\Q .aq H
def U0:T.iO.k P w base 1 RD:=by
 refine T.iO.F.ok LS (fun _ _ _ _ h=>gz h fun _ _=>rfl) fun _ A _ s H vs Q E hr h=>gz h fun z h=>?_;obtain ⟨hz,q⟩:=h;refine ⟨_,((ao (aO (qN (bQ jg T.dP dJ (aa (ac 0) (aa (iD (.ty "str") T.kN kH rfl) ae))) (ii (em kZ (bQ (kX (K:=K) rfl) T.jm Ps (aa (ac 0) ae)) (dl (.int 60) T.Gp ⟨_,rfl⟩))))))).h,?_⟩;refine stI [some (V.str z)] ?_;left;refine ⟨by decide,bD ⟨fits (by omega),?_⟩⟩;rw [tz (show (z.length:Int)<=60 by omega)];exact q
def F6:T.iI.k P w base 2 TB:=by
 refine T.iI.F.ok GJ (fun _ _ _ _ h=>gz h fun _ _=>rfl) fun _ A _ s H vs Q E hr h=>gz h fun z h=>?_;obtain ⟨hz,q⟩:=h;refine ⟨_,((ao (aZ (de (cQ (bn (U0 T) hr.m T.iO.m T.iO.F.kp T.iO.b .nil aC (aa (ac 0) ae)))) (ao jI) ce))).h,?_⟩;refine stI [some (V.str z)] ?_;left;exact ⟨hz,aY q⟩
def ab1:T.rN.k P w mg base 4 (V0 T.aV T.bc):=by
 refine T.rN.F.ok aaz (fun _ _ _ _ h=>Ih h fun _ _ _ _ _ _=>rfl) fun _ A _ s H vs Q E hr h=>Ih h fun x ow tx mi re h=>?_;obtain ⟨dt,ml,rs,at',iY,q⟩:=h;obtain ⟨fs,c,hx,aX,sf⟩:=at'.o;refine ⟨_,((ao (aO (bI T.cW T.nE.h (IP T) hr.m T.nE.b .nil aC (ac 0) (aa (dl (.str "file") T.DP ⟨_,rfl⟩) (aa (ac 1) (aa (ac 3) (aa (ac 4) (aa (ac 2) ae))))))))).h,?_⟩;refine stI [some (.ref x),some ow,some tx,some mi,some re] ?_;left;exact ⟨x,dt,fs,rfl,hx,(sf _).trans rfl,dt,ml,rs,at',iY,q⟩
section
variable {CH CS CT:Addr} {H H':Hp} {A:Ad} {L:List Ta} {M:Hs}
def aI.some (i:aI CH CS CT H A L M):∀ b∈A.w++L.flatMap Ta.l,∃ o,H b=.some o:=fun b hb=>by
 rcases Go.mp hb with h | h
 ·simp only [Ad.w,lv,mo,wP] at h;rcases h with rfl | rfl | rfl | rfl | rfl | rfl | rfl | rfl
  ·obtain ⟨_,_,e,_⟩:=i.h;exact ⟨_,e⟩
  ·obtain ⟨_,_,e,_⟩:=i.t;exact ⟨_,e⟩
  ·exact ⟨_,i.ml⟩
  ·exact ⟨_,i.ro⟩
  ·exact ⟨_,i.st⟩
  ·exact ⟨_,i.tr⟩
  ·exact ⟨_,i.ov⟩
  ·exact ⟨_,i.un⟩
 ·obtain ⟨a,ha,hb⟩:=List.mem_flatMap.mp h;obtain ⟨k,hk⟩:=List.getElem?_of_mem ha;have bO:k < M.ts.length:=by rw [<- i.len];exact (ul.mp hk).1
  obtain ⟨a',e1,t⟩:=i.th k _ (ut bO);rw [hk] at e1;cases e1;simp only [Ta.l,lv,mo,wP] at hb;rcases hb with rfl | rfl | rfl
  ·obtain ⟨_,e,_⟩:=t.o;exact ⟨_,e⟩
  ·exact ⟨_,t.nm⟩
  ·exact ⟨_,t.pl⟩
def aI.add {th dN nm pl:Addr} {ks:List (Str×V)} {kd ow mi re tx:Str} (i:aI CH CS CT H A L M) (f1:H th=none) (f2:H nm=none) (f3:H pl=none) (at':mR CS H' A.t A.dt A.ml ((L.map fun a=>V.ref a.th)++[.ref th])) (aK:H' th=Option.some (.ins CT dN ks)) (kl:ks.length<=40)
  (sk:dh ks (r8 (.int (L.length:Nat)) (.str kd) (.str ow) (.str mi) (.str re) (.str tx) (.ref nm) (.ref pl))) (cH:H' nm=Option.some (.dK [])) (bY:H' pl=Option.some (.dT [])) (kp:Kp [A.t,A.ml] H H') :
  aI CH CS CT H' A (L++[⟨th,dN,nm,pl⟩]) { M with ts:=M.ts++[⟨kd,ow,mi,re,tx,[],[]⟩] }:=by
 have nd:=i.nd;have sm:=i.some;have nw:∀ b∈A.w++L.flatMap Ta.l,b≠th/\b≠nm/\b≠pl:=fun b hb=>by
  obtain ⟨o,e⟩:=sm b hb;exact ⟨aG e f1,aG e f2,aG e f3⟩
 have h12:th≠nm:=bH aK cH (by nofun);have h13:th≠pl:=bH aK bY (by nofun);have h23:nm≠pl:=bH cH bY (by nofun);have n0:=nd;rw [GT] at n0;obtain ⟨n1,n2,n3⟩:=n0;simp only [Ad.w,Do,lv,mo,wP,UV] at n1;have kA:∀ b∈[A.a,A.ro,A.st,A.tr,A.ov,A.un],b ∉ [A.t,A.ml]:=by
  intro b hb hm;simp only [lv,mo,wP] at hb hm;rcases hb with rfl | rfl | rfl | rfl | rfl | rfl <;> rcases hm with h | h
  ·exact n1.1.1 h
  ·exact n1.1.2.1 h
  ·exact n1.2.1.2.1 h.symm
  ·exact n1.2.2.1.1 h.symm
  ·exact n1.2.1.2.2.1 h.symm
  ·exact n1.2.2.1.2.1 h.symm
  ·exact n1.2.1.2.2.2.1 h.symm
  ·exact n1.2.2.1.2.2.1 h.symm
  ·exact n1.2.1.2.2.2.2.1 h.symm
  ·exact n1.2.2.1.2.2.2.1 h.symm
  ·exact n1.2.1.2.2.2.2.2 h.symm
  ·exact n1.2.2.1.2.2.2.2 h.symm
 refine ⟨?_,at'.o,?_,by simp [i.len],fun j t e=>?_,kp _ _ (kA _ (by simp)) i.ro,kp _ _ (kA _ (by simp)) i.st,kp _ _ (kA _ (by simp)) i.tr,kp _ _ (kA _ (by simp)) i.ov,kp _ _ (kA _ (by simp)) i.un,?_⟩
 ·obtain ⟨fs,c,e,r⟩:=i.h;exact ⟨fs,c,kp _ _ (kA _ (by simp)) e,r⟩
 ·rw [at'.ml];simp
 ·have e':(M.ts++[(⟨kd,ow,mi,re,tx,[],[]⟩:Th)])[j]?=.some t:=e;by_cases hj:j < M.ts.length
  ·rw [Gc hj] at e';obtain ⟨a,e1,h1⟩:=i.th j t e';refine ⟨a,by rw [Gc (by rw [i.len];exact hj)];exact e1,h1.keep kp fun b hb hm=>?_⟩;have oX:=ir e1 hb;simp only [lv,mo,wP] at hm;rcases hm with rfl | rfl
   ·exact n3 _ (by simp [Ad.w]) _ oX rfl
   ·exact n3 _ (by simp [Ad.w]) _ oX rfl
  ·rw [FS (by omega)] at e';have hj0:j - M.ts.length=0:=by
    rcases Nat.eq_zero_or_pos (j - M.ts.length) with h | h
    ·exact h
    ·rw [_U (by simp;omega)] at e';cases e'
   rw [hj0] at e';cases e';have hjl:j=L.length:=by rw [i.len];omega
   subst hjl;exact ⟨_,by rw [FS (sK _),Nat.sub_self];rfl,⟨⟨ks,aK,kl,sk⟩,cH,bY⟩⟩
 ·rw [List.flatMap_append,<- _O,GT];refine ⟨nd,?_,fun b hb c hc e=>?_⟩
  ·simp only [Ty,List.flatMap_nil,_1,Ta.l,Do,lv,mo,wP,UV,_R,_Q,and_true];exact ⟨⟨h12,h13⟩,h23⟩
  ·obtain ⟨q1,q2,q3⟩:=nw b hb;simp only [Ty,List.flatMap_nil,_1,Ta.l,lv,mo,wP] at hc;rcases hc with h | h | h
   ·exact q1 (e.trans h)
   ·exact q2 (e.trans h)
   ·exact q3 (e.trans h)
end
def KN (CH CS CT CE:Addr):Sp:=Lp fun h x n H Q _=>J6 fun A L M (f:Nat) (k:Nat) af tf ak tk dx nm=>zq (aI CH CS CT H A L M) (A.a=h) (H x=some (.ins CE dx (ax "name" (.str nm) (ax "folder" (.int (f:Int)) [])))) (n=(k:Int)) (L[f]?=some af) (M.ts[f]?=some tf) (L[k]?=some ak) (M.ts[k]?=some tk) (f≠k) (aF (sD tf.aW) (.inr nm)=none) (tf.aW.length<=500) (tk.cS=[]) (∀ H',aI CH CS CT H' A L { M with ts:=(M.ts.set f { tf with aW:=tf.aW++[(nm,k)] }).set k { tk with cS:=[(f,nm)] } }->Kp [A.t,af.nm,ak.pl] H H'->Q (.int (k:Int)) H')
def Vd:T.pM.k P w base 6 (KN T.aL T.aV T.bc T.lI):=by
 refine T.pM.F.ok ab6 (fun _ _ _ _ h=>JC h fun _ _ _ _=>rfl) fun _ A _ s H vs Q E hr h=>JC h fun hh x n h=>?_;obtain ⟨AA,L,M,f,k,af,tf,ak,tk,dx,nm,i,rfl,hx,rfl,iZ,cU,gK,fe,cM,hv,hl,bY,q⟩:=h;obtain ⟨ra,gc,gh,rD,gu⟩:=i.h;obtain ⟨gs,c2,ht,fm,sg⟩:=i.t;refine bK (b:=aQ Dw) ((ad (aS (bI T.cW T.tV.h (aar T) hr.m T.tV.b .nil aC (ap T.aN T.jn (ac 0)) (aa (ap T.nA T.wo (ac 1)) (aa (ap T.nA T.DV (ac 1)) (aa (ac 2) ae)))))
 (ao (aO (ac 2))))) ?_
 refine stI [some (V.ref AA.a),some (V.ref x),some (V.int (k:Int))] ?_;right;exact (fI gh gu rfl (mI ht sg ⟨x,_,_,_,rfl,hx,rfl,x,_,_,_,rfl,hx,rfl,AA,L,M,f,k,af,tf,ak,tk,i,rfl,rfl,rfl,iZ,cU,gK,fe,cM,hv,hl,bY,q⟩))
def sI (CH CS CT:Addr) (A:Ad) (L:List Ta) (M:Hs) (f:Nat) (t0:Th) (a0:Ta) (nm kd ow mi re tx:Str) (H:Hp) (Q:VK):Prop :=
 ∀ a H',(∀ b∈a.l,H b=none)->aI CH CS CT H' A (L++[a]) { M with ts:=M.ts.set f { t0 with aW:=t0.aW++[(nm,M.ts.length)] }++[⟨kd,ow,mi,re,tx,[],[(f,nm)]⟩] }->Kp [A.t,A.ml,a0.nm] H H'->Q (.int (M.ts.length:Nat)) H'
def HY {α:Type} {y b:α}:∀ r:List α,(r++[y]).set r.length b=r++[b]
 | []=>rfl
 | c::r=>by simp only [List.cons_append,FB,List.set_cons_succ];rw [HY r]
def U5 {α:Type}:∀ {xs:List α} {f:Nat} {y a b:α},f < xs.length->((xs++[y]).set f a).set xs.length b=xs.set f a++[b]:=fun {xs f y a b} h=>by
 rw [List.set_append_left _ _ h];have:=HY (y:=y) (b:=b) (xs.set f a)
 rwa [List.length_set] at this
def aat {CH CS CT CE:Addr} {H:Hp} {A:Ad} {L:List Ta} {M:Hs} {f:Nat} {z nm kd mi re tx:Str} {a0:Ta} {t0:Th} {x dx:Addr} {Q:VK} {E:XK} (i:aI CH CS CT H A L M) (eZ:L[f]?=some a0) (qX:M.ts[f]?=some t0) (hx:H x=some (.ins CE dx (ax "name" (.str nm) (ax "folder" (.int (f:Int)) [])))) (hv:aF (sD t0.aW) (.inr nm)=none) (hl:t0.aW.length<=400)
  (nx1:x≠A.t) (mp:sI CH CS CT A L M f t0 a0 nm kd z mi re tx H Q):xA CS CT A.t A.dt A.ml (L.map fun a=>V.ref a.th) (.str kd) (.str z) (.str mi) (.str re) (.str tx) H (fun v H'=>KN CH CS CT CE [.ref A.a,.ref x,v] H' Q E):=by
 intro th dN nm' pl ks H' f1 f2 f3 at' aK kl sk cH bY kp;have nx2:x≠A.ml:=bH hx i.ml (by nofun);have hlen:(L.map fun a=>V.ref a.th).length=L.length:=ss _;rw [hlen] at sk ⊢;have i2:=i.add f1 f2 f3 at' aK kl sk cH bY kp;have h0:f < M.ts.length:=(ul.mp qX).1;have Eb:=i.len;have e0:(M.ts++[(⟨kd,z,mi,re,tx,[],[]⟩:Th)])[f]?=some t0:=by rw [Gc h0];exact qX
 have ek:(M.ts++[(⟨kd,z,mi,re,tx,[],[]⟩:Th)])[L.length]?=some ⟨kd,z,mi,re,tx,[],[]⟩:=by rw [Eb,FS (sK _),Nat.sub_self];rfl
 refine ⟨A,L++[⟨th,dN,nm',pl⟩],_,f,L.length,a0,t0,⟨th,dN,nm',pl⟩,⟨kd,z,mi,re,tx,[],[]⟩,dx,nm,i2,rfl,kp _ _ (by simp [nx1,nx2]) hx,rfl,by rw [Gc (by omega)];exact eZ,e0,by rw [FS (sK _),Nat.sub_self];rfl,ek,by omega,hv,by omega,rfl,fun H2 i3 k3=>?_⟩;have:=mp ⟨th,dN,nm',pl⟩ H2 (fun b hb=>by simp only [Ta.l,lv,mo,wP] at hb;rcases hb with rfl | rfl | rfl <;> assumption) (by
  have e:=i3;dsimp only at e;rw [Eb] at e;rw [U5 h0] at e;exact e) (fun b o hb e=>?_)
 ·rw [Eb];exact this
 ·simp only [lv,mo,wP,UV] at hb;have nbp:b≠pl:=aG e f3;exact k3 _ _ (by simp [hb.1,hb.2.2,nbp]) (kp _ _ (by simp [hb.1,hb.2.1]) e)
def Vc {CH CS CT:Addr} {H:Hp} {A:Ad} {L:List Ta} {M:Hs} (i:aI CH CS CT H A L M):mR CS H A.t A.dt A.ml (L.map fun a=>V.ref a.th):=⟨i.t,i.ml⟩
def sI.of {CH CS CT:Addr} {H H1:Hp} {A:Ad} {L:List Ta} {M:Hs} {f:Nat} {t0:Th} {a0:Ta} {nm kd ow mi re tx:Str} {Q:VK} (s:ah H H1) (m:sI CH CS CT A L M f t0 a0 nm kd ow mi re tx H Q):sI CH CS CT A L M f t0 a0 nm kd ow mi re tx H1 Q:=fun a H' fr i k=>m a H' (fun b hb=>Am s (fr b hb)) i ((Kp.of s).trans k)
structure B1 (N:Cn) (H:Hp) (A:Ad) (L:List Ta) (M:Hs) (z:Str) (t:List Nat) (kd mi re tx:Str) (Q:VK) (E:XK):Prop where
 i:aI N.CH N.CS N.CT H A L M
 p:gE t
 hz:(aF (sD M.ro) (.inr z)).isSome=true
 uy:mi∈eI
 mJ:re∈eI
 hL:L.length<=400
 hl:∀ (f:Nat) t0,M.ts[f]?=some t0->t0.aW.length<=400
 r:∃ root r,qK ⟨L,M,z,true,root⟩ t r/\(∀ x,r=.inl x->eD N H E x)/\∀ f nm a0 t0,r=.inr (f,nm)->L[f]?=some a0->M.ts[f]?=some t0->sI N.CH N.CS N.CT A L M f t0 a0 (Tx.S nm) kd z mi re tx H Q
def abn (N:Cn):Sp:=Gf fun h z pt tx mi re H Q E=>X4 fun A L M t=>A4 (pt=Tx.S t) (B1 N H A L M z t "file" mi re tx Q E) (A.a=h) (tx.length<=60)
def BY:aA P w K mg base (bC P w) 15 T.D6 T.uW ["house","asker","path","text","mine","rest"] (abn T.cn):=by
 refine T.pY.c7 FJ (fun vs H Q E h=>?_) (fun _ A _ s H vs Q E hr h=>?_)
 ·exact Ha h fun _ _ _ _ _ _ _=>rfl
 ·refine Ha h fun hh z pt tx mi re h=>?_;obtain ⟨AA,L,M,t,rfl,pr,rfl,E2⟩:=h;obtain ⟨ra,gc,gh,rD,gu⟩:=pr.i.h;obtain ⟨root,r,jB,q1,q2⟩:=pr.r;refine bK (b:=aQ qB) ((ad (aS (fB T.aN T.gm.h (qj T) hr.m T.gm.b .nil cA (ac 0) (aa (ac 1) ae)))
  (ad (aS (bn (qJ T) hr.m T.dQ.m T.dQ.F.kp T.dQ.b .nil aC (aa (ac 2) ae)))
  (ad (aS (bn (z9 T) hr.m T.f9.m T.f9.F.kp T.f9.b .nil aC (aa (ac 4) ae)))
  (ad (aS (bn (z9 T) hr.m T.f9.m T.f9.F.kp T.f9.b .nil aC (aa (ac 5) ae)))
  (ad (aS (bn (F6 T) hr.m T.iI.m T.iI.F.kp T.iI.b .nil aC (aa (ac 3) ae)))
  (ad (aP 6 FJ.nd (bP (Xm T) hr.m T.qf.m T.qf.F.kp T.qf.b .nil cA (aa (ac 0) (aa (ac 1) (aa (ac 2) ae)))))
  (ao (aO (bn (Vd T) hr.m T.pM.m T.pM.F.kp T.pM.b .nil aC (aa (ac 0) (aa (ac 6) (aa (bI T.cW T.rN.h (ab1 T) hr.m T.rN.b .nil aC (ap T.aN T.jn (ac 0)) (aa (ac 1) (aa (ac 3) (aa (ac 4) (aa (ac 5) ae))))) ae))))))))))))) ?_
  refine stI [some (V.ref AA.a),some (V.str z),some (V.str (Tx.S t)),some (V.str tx),some (V.str mi),some (V.str re),none] ?_;right;refine (mI gh gu (kR pr.i pr.hz (ai ?_)));left;refine ⟨t,rfl,pr.p.l1,pr.p.l2,pr.p.all,fun H1 l p s1 _ hl hp=>ai ?_⟩;left;refine ⟨pr.uy,ai ?_⟩;left;refine ⟨pr.mJ,ai ?_⟩;left;refine ⟨E2,ai ?_⟩;left;refine ⟨AA,L,M,root,t,r,rfl,pr.p,pr.i.same s1,rfl,pr.hz,jB,fun x e=>(q1 x e).of s1,fun f nm e x dx H2 fx s2 hx=>?_⟩;left;have i2:=pr.i.same (s1.trans s2);obtain ⟨gfs2,gc2,gh2,ghl2,gsf2⟩:=i2.h;obtain ⟨gs,c2,ht,fm,sg⟩:=i2.t;obtain ⟨_,_,iP,_⟩:=(pr.i.same s1).t;subst e;cases jB with
  | free g hn eZ qX hw hv =>
   refine (fI gh2 gsf2 rfl (mI ht sg ⟨AA.dt,AA.ml,_,Vc i2,by rw [ss];have:=pr.hL;omega,aat i2 eZ qX hx hv (pr.hl _ _ qX) (pp (aG iP fx)) ((q2 _ _ _ _ rfl eZ qX).of (s1.trans s2))⟩))
inductive y9 (d:Wd) (t:List Nat):Sum Rf Nat->Prop
 | way {e}:ef d t e->(∀ k ns,e.res≠.found k ns)->y9 d t (.inl (.way e.res))
 | file {e k ns a th}:ef d t e->e.res=.found k ns->d.L[k]?=some a->d.M.ts[k]?=some th->th.kd≠("folder":Str)->y9 d t (.inl (.dY "file"))
 | ok {e k ns a th}:ef d t e->e.res=.found k ns->d.L[k]?=some a->d.M.ts[k]?=some th->th.kd=("folder":Str)->y9 d t (.inr k)
inductive Dg (d:Wd) (t:List Nat):Sum Rf Nat->Prop
 | way {e}:ef d t e->(∀ k ns,e.res≠.found k ns)->Dg d t (.inl (.way e.res))
 | Wh {e k ns a th}:ef d t e->e.res=.found k ns->d.L[k]?=some a->d.M.ts[k]?=some th->th.ow≠d.z->Dg d t (.inl (.dY "mine"))
 | ok {e k ns a th}:ef d t e->e.res=.found k ns->d.L[k]?=some a->d.M.ts[k]?=some th->th.ow=d.z->Dg d t (.inr k)
def AS:List Str:=["own","guest"]
inductive gd (M:Hs) (r:Nat):Nat->Prop
 | refl:gd M r r
 | up {k f nm t}:M.ts[k]?=some t->t.cS=[(f,nm)]->gd M r f->gd M r k
structure rO (M:Hs) (k:Nat) (t:Th):Prop where
 nl:t.aW.length<=M.ts.length
 kd:t.kd=("folder":Str)\/t.kd=("file":Str)\/t.kd=("lead":Str)
 ld:t.kd=("lead":Str)->∃ tl,t.tx=Tx.S tl/\gE tl/\tl.length<=120
 pl:k=0/\t.cS=[]\/∃ (f:Nat) (nm:Str) (tf:Th),f < k/\t.cS=[(f,nm)]/\nm.length<=8/\M.ts[f]?=some tf/\tf.kd=("folder":Str)
 ch:∀ z v,aF (sD t.aW) (.inr z)=some v->∃ (c:Nat) (tc:Th),v=.int (c:Int)/\M.ts[c]?=some tc/\tc.cS=[(k,z)]
structure Xp (M:Hs) (z:Str) (r k:Nat):Prop where
 ro:aF (sD M.ro) (.inr z)=some (.int (r:Int))
 st:aF (sD M.st) (.inr z)=some (.int (k:Int))
 b:gd M r k
 tr:∃ t,M.ts[r]?=some t/\t.kd=("folder":Str)
 tk:∃ t,M.ts[k]?=some t/\t.kd=("folder":Str)
structure Gd (M:Hs):Prop where
 tr:M.tr=[(("main":Str),0)]
 ov:M.ov=[]
 un:M.un=[]
 as:∀ z∈AS,∃ r k,Xp M z r k
 rl:M.ro.length<=3
 sl:M.st.length<=3
 t0:∃ t,M.ts[0]?=some t/\t.kd=("folder":Str)
 th:∀ k t,M.ts[k]?=some t->rO M k t
section
variable {M:Hs} {L:List Ta} {z:Str} {r:Nat}
def adr (hL:L.length=M.ts.length) {k:Nat} {t:Th} (h:M.ts[k]?=some t):∃ a,L[k]?=some a :=
 ⟨_,ut (by rw [hL];exact (ul.mp h).1)⟩
def Gd.dO (g:Gd M) (k:Nat):ed M k k [] :=
 ⟨⟨0,by unfold kQ;rw [g.un];exact ⟨rfl,rfl⟩⟩,0,by unfold kc;rw [g.ov];exact ⟨rfl,rfl⟩,Da _⟩
def ub {k:Nat}:f6 r [k]=decide (k=r):=by
 unfold f6;by_cases h:k=r
 ·simp [h]
 ·simp [h]
def Gd.par (g:Gd M) {k:Nat} {t:Th} (ht:M.ts[k]?=some t) (hb:gd M r k) (hk:k≠r):∃ (f:Nat) (nm:Str) (tf:Th),f < k/\t.cS=[(f,nm)]/\nm.length<=8/\M.ts[f]?=some tf/\tf.kd=("folder":Str)/\gd M r f:=by
 cases hb with
 | refl=>exact absurd rfl hk
 | up h1 h2 h3 =>
  rw [ht] at h1;cases h1;rcases (g.th k t ht).pl with ⟨_,e⟩ | ⟨f,nm,tf,hf,hp,hl,cU,u0⟩
  ·rw [e] at h2;cases h2
  ·rw [hp] at h2;cases h2;exact ⟨_,_,tf,hf,hp,hl,cU,u0,h3⟩
def Gd.seen (g:Gd M) (hL:L.length=M.ts.length):∀ (n k:Nat) (t:Th),k<=n->M.ts[k]?=some t->gd M r k->kW M L r n k true
 | n,k,t,hk,ht,hb=>by
  obtain ⟨a,ha⟩:=adr hL ht;unfold kW;refine ⟨k,[],a,t,ha,ht,g.dO k,?_⟩;rw [At (show k=dk k [] from rfl),ub];by_cases h0:k=r
  ·rw [At (tz h0)]
  ·rw [xL (by rw [pi h0];nofun)];obtain ⟨f,nm,tf,hf,hp,_,cU,_,hb'⟩:=g.par ht hb h0;refine ⟨a,t,ha,ht,.inr ⟨f,nm,hp,?_⟩⟩
   match n,hk with
   | 0,hk=>omega
   | n+1,hk=>exact g.seen hL n f tf (by omega) cU hb'
def Gd.nm (g:Gd M) (hL:L.length=M.ts.length):∀ (n k:Nat) (t:Th),k<=n->M.ts[k]?=some t->gd M r k->∃ ns,jY M L r n k ns/\ns.length<=k/\∀ s∈ns,s.length<=8
 | n,k,t,hk,ht,hb=>by
  obtain ⟨a,ha⟩:=adr hL ht;by_cases h0:k=r
  ·refine ⟨[],?_,Da _,fun _ h=>by cases h⟩;unfold jY;exact ⟨k,[],a,t,ha,ht,g.dO k,by rw [ub,At (tz h0)]⟩
  ·obtain ⟨f,nm,tf,hf,hp,hl,cU,_,hb'⟩:=g.par ht hb h0
   match n,hk with
   | 0,hk=>omega
   | n+1,hk =>
    obtain ⟨ns,h1,h2,h3⟩:=g.nm hL n f tf (by omega) cU hb';refine ⟨ns++[nm],?_,by rw [xz];simp;omega,fun s hs=>?_⟩
    ·unfold jY;refine ⟨k,[],a,t,ha,ht,g.dO k,?_⟩;rw [ub,xL (by rw [pi h0];nofun)];exact ⟨a,t,f,nm,ha,ht,hp,ns,rfl,h1⟩
    ·rcases Go.mp hs with hs | hs
     ·exact h3 s hs
     ·rw [wf.mp hs];exact hl
def KP:fA (.str (".":Str))=false/\fA (.str ("..":Str))=false:=by symm
end
def Val (M:Hs) (r:Nat) (S:Ws):Prop:=∃ t,M.ts[S.here]?=some t/\(t.kd=("folder":Str)/\gd M r S.here\/t.kd≠("folder":Str)/\∃ (f:Nat) (nm:Str) (tf:Th),S.place=some (f,nm)/\nm.length<=8/\M.ts[f]?=some tf/\gd M r f)
section
variable {d:Wd}
def CP (g:Gd d.M) (hL:d.L.length=d.M.ts.length) (hn:d.M.ts.length<=90) {S:Ws} (v:Val d.M d.root S):∃ ns cR,vD d.M d.L d.root S ns cR:=by
 obtain ⟨t,ht,hk⟩:=v;obtain ⟨a,ha⟩:=adr hL ht;rcases hk with ⟨dg,hb⟩ | ⟨dg,f,nm,tf,hp,h8,cU,hb⟩
 ·obtain ⟨ns,h1,h2,h3⟩:=g.nm hL S.here S.here t (sK _) ht hb;have:=(ul.mp ht).1;exact ⟨ns,[],S.here,a,t,ha,ht,.inl ⟨dg,rfl,rfl⟩,⟨_,h1⟩,by omega,h3⟩
 ·obtain ⟨ns,h1,h2,h3⟩:=g.nm hL f f tf (sK _) cU hb;have:=(ul.mp cU).1;exact ⟨ns,[nm],f,a,t,ha,ht,.inr ⟨dg,nm,hp,rfl,h8⟩,⟨_,h1⟩,by omega,h3⟩
end
section
variable {M:Hs} {L:List Ta} {z:Str} {r:Nat} {last:Bool}
def Gd.lift {M':Hs} (g:Gd M) (h1:M'.ro=M.ro) (h2:M'.st=M.st) (h3:M'.tr=M.tr) (h4:M'.ov=M.ov) (h5:M'.un=M.un) (old:∀ (k:Nat) (t:Th),M.ts[k]?=some t->∃ t':Th,M'.ts[k]?=some t'/\t'.kd=t.kd/\t'.cS=t.cS) (th:∀ k t,M'.ts[k]?=some t->rO M' k t):Gd M':=by
 have bl:∀ {r k},gd M r k->gd M' r k:=fun {r k} b=>by
  induction b with
  | refl=>exact .refl
  | up a1 a2 _ ih =>
   obtain ⟨t',e1,_,e3⟩:=old _ _ a1;exact .up e1 (e3.trans a2) ih
 refine ⟨h3.trans g.tr,h4.trans g.ov,h5.trans g.un,fun z hz=>?_,by rw [h1];exact g.rl,by rw [h2];exact g.sl,?_,th⟩
 ·obtain ⟨r,k,a⟩:=g.as z hz;refine ⟨r,k,by rw [h1];exact a.ro,by rw [h2];exact a.st,bl a.b,?_,?_⟩
  ·obtain ⟨t,e1,e2⟩:=a.tr;obtain ⟨t',e3,e4,_⟩:=old _ _ e1;exact ⟨t',e3,e4.trans e2⟩
  ·obtain ⟨t,e1,e2⟩:=a.tk;obtain ⟨t',e3,e4,_⟩:=old _ _ e1;exact ⟨t',e3,e4.trans e2⟩
 ·obtain ⟨t,e1,e2⟩:=g.t0;obtain ⟨t',e3,e4,_⟩:=old _ _ e1;exact ⟨t',e3,e4.trans e2⟩
def rO.lift {M':Hs} {k:Nat} {t t':Th} (h:rO M k t) (hl:M.ts.length<=M'.ts.length) (e1:t'.kd=t.kd) (e2:t'.cS=t.cS) (e3:t'.aW=t.aW) (e4:t'.tx=t.tx) (old:∀ (k:Nat) (t:Th),M.ts[k]?=some t->∃ t':Th,M'.ts[k]?=some t'/\t'.kd=t.kd/\t'.cS=t.cS):rO M' k t':=by
 refine ⟨by rw [e3];exact wl h.nl hl,by rw [e1];exact h.kd,by rw [e1,e4];exact h.ld,?_,fun z v hv=>?_⟩
 ·rcases h.pl with ⟨a,b⟩ | ⟨f,nm,tf,a1,a2,a3,a4,a5⟩
  ·exact .inl ⟨a,e2.trans b⟩
  ·obtain ⟨t2,b1,b2,_⟩:=old _ _ a4;exact .inr ⟨f,nm,t2,a1,e2.trans a2,a3,b1,b2.trans a5⟩
 ·rw [e3] at hv;obtain ⟨c,tc,a1,a2,a3⟩:=h.ch z v hv;obtain ⟨t2,b1,_,b3⟩:=old _ _ a2;exact ⟨c,t2,a1,b1,b3.trans a3⟩
def Gd.make (g:Gd M) {f:Nat} {tf:Th} {nm kd mi re tx:Str} (cU:M.ts[f]?=some tf) (u0:tf.kd=("folder":Str)) (cH:nm.length<=8) (hvf:aF (sD tf.aW) (.inr nm)=none) (hk:kd=("folder":Str)\/kd=("file":Str)\/kd=("lead":Str)) (hld:kd=("lead":Str)->∃ tl,tx=Tx.S tl/\gE tl/\tl.length<=120) :
  Gd { M with ts:=M.ts.set f { tf with aW:=tf.aW++[(nm,M.ts.length)] }++[⟨kd,z,mi,re,tx,[],[(f,nm)]⟩] }:=by
 have hf:=(ul.mp cU).1;have hlen:(M.ts.set f { tf with aW:=tf.aW++[(nm,M.ts.length)] }).length=M.ts.length:=List.length_set;have old:∀ (k:Nat) (t:Th),M.ts[k]?=some t->∃ t':Th,(M.ts.set f { tf with aW:=tf.aW++[(nm,M.ts.length)] }++[(⟨kd,z,mi,re,tx,[],[(f,nm)]⟩:Th)])[k]?=some t'/\t'.kd=t.kd/\t'.cS=t.cS:=fun k t ht=>by
  have hk:=(ul.mp ht).1;rw [Gc (by rw [hlen];exact hk)];by_cases e:k=f
  ·subst e;rw [On hk];rw [cU] at ht;cases ht;exact ⟨_,rfl,rfl,rfl⟩
  ·rw [No (pp e)];exact ⟨t,ht,rfl,rfl⟩
 have new:(M.ts.set f { tf with aW:=tf.aW++[(nm,M.ts.length)] }++[(⟨kd,z,mi,re,tx,[],[(f,nm)]⟩:Th)])[M.ts.length]?=some ⟨kd,z,mi,re,tx,[],[(f,nm)]⟩:=by
  rw [FS (by rw [hlen];exact sK _),hlen,Nat.sub_self];rfl
 have ll:M.ts.length<=(M.ts.set f { tf with aW:=tf.aW++[(nm,M.ts.length)] }++[(⟨kd,z,mi,re,tx,[],[(f,nm)]⟩:Th)]).length:=by rw [xz,hlen];omega
 refine g.lift rfl rfl rfl rfl rfl old fun k t ht=>?_;have ht':(M.ts.set f { tf with aW:=tf.aW++[(nm,M.ts.length)] }++[(⟨kd,z,mi,re,tx,[],[(f,nm)]⟩:Th)])[k]?=some t:=ht;by_cases hk':k < M.ts.length
 ·rw [Gc (by rw [hlen];exact hk')] at ht';by_cases e:k=f
  ·subst e;rw [On hk'] at ht';cases ht';have h0:=g.th k tf cU;have h:=h0.lift (M':={ M with ts:=M.ts.set k { tf with aW:=tf.aW++[(nm,M.ts.length)] }++[⟨kd,z,mi,re,tx,[],[(k,nm)]⟩] }) (t':=tf) ll rfl rfl rfl rfl old;refine ⟨by show (tf.aW++[(nm,M.ts.length)]).length<=_;rw [xz,xz,hlen];have:=h0.nl;simp;omega,h.kd,h.ld,h.pl,fun y v hv=>?_⟩;have e:sD (tf.aW++[(nm,M.ts.length)])=sD tf.aW++[(.inr nm,.int ((M.ts.length:Nat):Int))]:=by unfold sD;rw [Fr];rfl
   have hv':aF (sD (tf.aW++[(nm,M.ts.length)])) (.inr y)=some v:=hv;rw [e,FP _ _ _ _ hvf] at hv';split at hv'
   ·rename_i he;cases hv';injection he with he;exact ⟨M.ts.length,_,rfl,new,by rw [he]⟩
   ·exact h.ch y v hv'
  ·rw [No (pp e)] at ht';exact (g.th k t ht').lift ll rfl rfl rfl rfl old
 ·have m5:k < M.ts.length+1:=by
   have:=(ul.mp ht').1;rw [xz,hlen] at this;exact this
  have:k=M.ts.length:=by omega
  subst this;rw [new] at ht';cases ht';obtain ⟨t',e1,e2,_⟩:=old _ _ cU;exact ⟨by show 0<=_;exact Da _,hk,hld,.inr ⟨f,nm,t',hf,rfl,cH,e1,e2.trans u0⟩,fun y v hv=>by cases hv⟩
end
def yW {P:Program} {w:World} {K:ν} {mg:Str->Option Value} {base:Heap} {CX:dW} {k:Nat} {f:Addr} {fd:FuncData} {ps:List Str} {sp sp':Sp} (F:aA P w K mg base CX k f fd ps sp) (F':aA P w K mg base CX k f fd ps sp'):aA P w K mg base CX k f fd ps (fun vs H Q E=>sp vs H Q E\/sp' vs H Q E) :=
 ⟨fun vs H Q E h=>h.elim (F.len vs H Q E) (F'.len vs H Q E),fun A outer s H args us vs Q E hr he hb hv h=>h.elim (F.run A outer s H args us vs Q E hr he hb hv) (F'.run A outer s H args us vs Q E hr he hb hv)⟩
def vM (H:Hp):V->Prop
 | .str z=>z.length=0\/(2000 < z.length/\z.length<=3000)\/(1<=z.length/\z.length<=1000/\(Tx.words 47 z.cps.toList).all ej=false)
 | x=>∃ T,clsName H x=some T
def aaC (C:Addr):Sp:=mz fun x H _ E=>vM H x/\∀ H',ah H H'->E (.ref C) none H'
def Ww:aA P w K mg base (bC P w) 3 T.dQ.f T.dQ.d ["path"] (aaC T.cF):=by
 refine T.dQ.F.c7 wI (fun _ _ _ _ h=>gF h fun _ _=>rfl) fun _ A _ s H vs Q E hr h=>gF h fun x h=>?_;obtain ⟨Fq,q⟩:=h;refine ⟨_,((ad (aZ (fi (f8 (de (cQ (bQ jg T.dP dJ (aa (ac 0) (aa (iD (.ty "str") T.kN kH rfl) ae))))) (jd (de (vU kZ kZ bi (bQ (kX (K:=K) rfl) T.jm Ps (aa (ac 0) ae)) (dl (.int 2000) T.Hj ⟨_,rfl⟩)))))) (ao (mQ lS rfl T.zM T.GU (aa am ae))) ce)
 (ad (GH 1 rfl wI.nd (x:=("part":Str)) (oj (K:=K) rfl (ot PySem.F.slot_str_split PySem.F.type_str_split HC (ac 0) (aa am ae))) (fun _ _ _ _=>by exact (pG (bt gq (ac 0) am))) (fun _ _ _ _=>by exact (ig 0 (show List.Nodup (["part"]:List Str) by decide))) (fun _ _ _ _=>by exact (ac 0)) (.of rfl (by exact trivial) (by walk_at "c") rfl (by exact trivial)))
 (ad (aZ (de (cQ (bQ (BJ (K:=K) rfl rfl) T.zf Ct (aa (BD rfl (x:=("part":Str)) (oj (K:=K) rfl (ac 1)) (fun _ _ _ _=>by exact Bu) (fun _ _ _ _=>by exact (ig 0 (show List.Nodup (["part"]:List Str) by decide))) (fun _ _ _ _=>by exact (bn (HB T) hr.m T.kE.m T.kE.F.kp T.kE.b .nil aC (aa (ac 0) ae))) (.of rfl (by exact trivial) (by walk_at "c") rfl (by exact trivial))) ae)))) (ao (mQ lS rfl T.zM T.GU (aa am ae))) ce)
 (ad (aZ (fi (jp (bt (Ic hr.kO) (ac 1) (cr ae)) (nR (cQ (ot PySem.F.slot_str_endswith PySem.F.type_str_endswith JD (ac 0) (aa am ae)))))) (ao (aS (gp AT Ch iL (ac 1) (aa am ae)))) ce)
 (ao (aO (Dv.tup (aa (ot PySem.F.slot_str_startswith PySem.F.type_str_startswith Kk (ac 0) (aa am ae)) (aa (ac 1) ae)))))))))).h,?_⟩
 refine stI [some x,none] ?_;have xJ:Str.ofString "/" = Tx.S [47]:=by symm
 have e0:Str.ofString "" = Tx.S []:=by symm
 have uT:∃ T',clsName H x=some T':=by
  cases x with
  | str z=>exact ⟨_,rfl⟩
  | _=>exact Fq
 obtain ⟨ty,h1⟩:=uT;by_cases eA:nG x=false
 ·refine c8 (fun _ _=>False) ?_ (fun _ _ z=>z.elim);left;simp only [h1,pQ h1,eA,Bool.not_false,Ja2];exact ⟨lq _ rfl,fits (by simp),q H (ah.refl H)⟩
 ·obtain ⟨z,rfl⟩:∃ z,x=.str z:=by
   cases x with
   | str z=>exact ⟨z,rfl⟩
   | _=>exact absurd rfl eA
  obtain ⟨t,rfl⟩:∃ t,z=Tx.S t:=⟨_,(Tx.FL z).symm⟩;simp only [vM,Tx.eB,Tx.kg] at Fq;by_cases hlen:t.length=0\/2000 < t.length
  ·refine c8 (fun _ _=>False) ?_ (fun _ _ z=>z.elim);left;simp only [Tx.eB];refine ⟨lq _ rfl,aY ⟨wl (show t.length<=3000 by omega) (by decide),?_⟩⟩;by_cases h0:t.length=0
   ·rw [pi (show ¬ (1:Int)<=(t.length:Int) by omega)];exact aY (bD ⟨fits (by simp),q H (ah.refl H)⟩)
   ·rw [tz (show (1:Int)<=(t.length:Int) by omega),pi (show ¬ (t.length:Int)<=2000 by omega)];exact bD (bD ⟨fits (by simp),q H (ah.refl H)⟩)
  ·obtain ⟨t1,t2,jb⟩:1<=t.length/\t.length<=1000/\(Tx.words 47 t).all ej=false:=by
    rcases Fq with h | h | h
    ·exact absurd (.inl h) hlen
    ·exact absurd (.inr h.1) hlen
    ·exact h
   right;simp only [Tx.eB,xJ,e0];refine ⟨lq _ rfl,aY ⟨wl t2 (by decide),?_⟩⟩;rw [tz (show (1:Int)<=(t.length:Int) by omega),tz (show (t.length:Int)<=2000 by omega)];refine bD (aY (ai ?_));left;have kx:=Tx.BS 47 t;refine ⟨rfl,by rw [Tx.eB];exact wl t2 (by decide),?_,?_⟩
   ·rw [Tx.DG,Tx.lM,Tx.AN,Tx.sr,ss];exact wl (show _<=2001 by omega) (by decide)
   intro l hl;rw [Tx.Iw t 47 (by decide)];refine eC hl fun H1 s1 b1=>?_;refine ⟨⟨_,aD.of b1⟩,vw nz id (aD.of b1) (by rw [ss,ss];exact wl (show _<=2001 by omega) (by decide)) ?_ ?_ ?_⟩
   ·intro x hx H2 _ R hR;obtain ⟨z,_,rfl⟩:=Cl.mp hx;left;exact hR H2 (ah.refl H2)
   ·intro x hx _ H2 _ R hR;left;exact hR H2 (ah.refl H2)
   intro H2 s2 l2 cY;rw [Jo];refine eC cY fun H3 s3 b3=>?_;have Ei:ah H H3:=(s1.trans s2).trans s3;have m9:(Tx.words 47 t).length<=2001:=wl (Pi _ _) (by omega);refine c8 (fun _ _=>False) ?_ (fun _ _ z=>z.elim);left;refine ⟨⟨_,aD.of b3⟩,vw (fun _=>true) uO (aD.of b3) (by rw [ss,ss];exact wl m9 (by decide)) ?_ ?_ ?_⟩
   ·intro x _ H4 _ R hR;exact hR H4 (ah.refl H4)
   ·intro x hx _ H4 _ R hR;obtain ⟨z,hz,rfl⟩:=Cl.mp hx;obtain ⟨w',hw,rfl⟩:=Cl.mp hz;left;refine ⟨w',rfl,wl (Tx.TJ 47 t w' hw) t2,fun H5 s5=>?_⟩;have:=hR H5 s5;simp only [uO,Tx.kg] at this;exact this
   intro H4 s4 l4 ky;rw [HX];refine ⟨_,aD.of au,_,rfl,?_⟩;have ea:((Tx.words 47 t).map ej).all id=false:=by rw [List.all_map];exact jb
   rw [ea];exact bD ⟨fits (by simp),q _ ((Ei.trans s4).trans (ah.upd ky))⟩
def nZ:V->Bool
 | .str z=>eI.contains z
 | _=>false
def Vr (C:Addr):Sp:=mz fun v H _ E=>A3 (∃ T,clsName H v=some T) (nZ v=false) (E (.ref C) none H)
def adk:T.iB.k P w base 1 (fun vs H Q _=>∃ v,vs=[v]/\(∃ T,clsName H v=some T)/\nZ v=false/\Q (.bl false) H):=by
 refine T.iB.F.ok Kl (fun vs H Q E h=>?_) (fun _ A _ s H vs Q E hr h=>?_)
 ·obtain ⟨v,rfl,_⟩:=h;rfl
 ·obtain ⟨v,rfl,⟨ty,cC⟩,hv,q⟩:=h;refine ⟨_,((ao (aO (qN (bQ jg T.dP dJ (aa (ac 0) (aa (iD (.ty "str") T.kN kH rfl) ae))) (ii (em (xl (K:=K) rfl) (ac 0) (dl (.ref T.yl) T.K1 rfl))))))).h,?_⟩;refine stI [some v] ?_;left;simp only [cC,pQ cC];refine ⟨lq _ rfl,?_⟩;cases v with
  | str z =>
   simp only [nG,Ja2];refine ⟨_,.inr (T.xx H),rfl,rfl,?_⟩;have e:fO (V.str z) [V.str "",V.str "l",V.str "g",V.str "w",V.str "lg",V.str "lw",V.str "gw",V.str "lgw"]=false:=by
    rw [show [V.str "",V.str "l",V.str "g",V.str "w",V.str "lg",V.str "lw",V.str "gw",V.str "lgw"]=eI.map V.str from rfl];cases h:fO (V.str z) (eI.map V.str) with
    | false=>rfl
    | true =>
     unfold fO at h;rw [List.any_map,_A] at h;obtain ⟨y,hy,he⟩:=h;have he':(y == z)=true:=he;have e2:y=z:=by simpa using he'
     subst e2;have:eI.contains y=true:=List.elem_iff.mpr hy;rw [show nZ (V.str y)=eI.contains y from rfl,this] at hv;cases hv
   rw [e];exact q
  | _=>exact q
def RM:aA P w K mg base (bC P w) 2 T.f9.f T.f9.d ["text"] (Vr T.cm):=by
 refine T.f9.F.c7 IH (fun _ _ _ _ h=>gF h fun _ _=>rfl) fun _ A _ s H vs Q E hr h=>gF h fun v h=>?_;obtain ⟨hc,hv,q⟩:=h;refine ⟨_,((ao (aZ (de (cQ (bn (adk T) hr.m T.iB.m T.iB.F.kp T.iB.b .nil aC (aa (ac 0) ae)))) (ao (mQ lS rfl T.zQ T.Lu (aa am ae))) ce))).h,?_⟩;refine stI [some v] ?_;left;exact ⟨v,rfl,hc,hv,bD ⟨fits (by simp),q⟩⟩
def wx:V->Bool
 | .str z=>decide (60 < z.length) && decide (z.length<=1000)
 | _=>true
def WR (C:Addr):Sp:=mz fun v H _ E=>A3 (∃ T,clsName H v=some T) (wx v=true) (E (.ref C) none H)
def OX:T.iO.k P w base 1 (fun vs H Q _=>∃ v,vs=[v]/\(∃ T,clsName H v=some T)/\wx v=true/\Q (.bl false) H):=by
 refine T.iO.F.ok LS (fun vs H Q E h=>?_) (fun _ A _ s H vs Q E hr h=>?_)
 ·obtain ⟨v,rfl,_⟩:=h;rfl
 ·obtain ⟨v,rfl,⟨ty,cC⟩,hv,q⟩:=h;refine ⟨_,((ao (aO (qN (bQ jg T.dP dJ (aa (ac 0) (aa (iD (.ty "str") T.kN kH rfl) ae))) (ii (em kZ (bQ (kX (K:=K) rfl) T.jm Ps (aa (ac 0) ae)) (dl (.int 60) T.Gp ⟨_,rfl⟩))))))).h,?_⟩;refine stI [some v] ?_;left;simp only [cC,pQ cC];refine ⟨lq _ rfl,?_⟩;cases v with
  | str z =>
   simp only [nG,Ja2];have hv':(decide (60 < z.length) && decide (z.length<=1000))=true:=hv;simp only [AC,_r] at hv';refine ⟨fits hv'.2,?_⟩;rw [pi (show ¬ (z.length:Int)<=60 by omega)];exact q
  | _=>exact q
def acS:aA P w K mg base (bC P w) 2 T.iI.f T.iI.d ["text"] (WR T.cB):=by
 refine T.iI.F.c7 GJ (fun _ _ _ _ h=>gF h fun _ _=>rfl) fun _ A _ s H vs Q E hr h=>gF h fun v h=>?_;obtain ⟨hc,hv,q⟩:=h;refine ⟨_,((ao (aZ (de (cQ (bn (OX T) hr.m T.iO.m T.iO.F.kp T.iO.b .nil aC (aa (ac 0) ae)))) (ao (mQ lS rfl T.FF T.Yu (aa am ae))) ce))).h,?_⟩;refine stI [some v] ?_;left;exact ⟨v,rfl,hc,hv,bD ⟨fits (by simp),q⟩⟩
def Wf:Sp:=Kd fun _ _ H Q _=>∀ r:Int,0<=r->Q (.int r) H
def aa3:T.qo.k P w base 1 Wf:=by
 refine T.qo.F.ok CB (fun _ _ _ _ h=>GZ h fun _ _ _=>rfl) fun _ A _ s H vs Q E hr h=>GZ h fun y z h=>?_;refine ⟨_,((ad (aP 2 CB.nd (db om (db mH (db fU (db fU (ac 0) (db mH bi (ac 1))) bi) bi) bi))
 (ad (aP 2 CB.nd (db om (db mH (ac 2) (db fU (db Bk (ac 2) bi) bi)) bi))
 (ao (aO (db om (db mH (ac 2) (db fU (db Bk (ac 2) bi) bi)) bi)))))).h,?_⟩
 refine stI [some (.int y),some (.int z),none] ?_;right;refine ⟨.inl ⟨by decide,by decide⟩,.inr ⟨by decide,by decide⟩,by decide,ai ?_⟩;left;generalize hm:(y+7919 * z+1) * 48271 % 2147483647=m;have m0:0<=m:=by rw [<- hm];exact _G _ (by decide)
 have m1:m < 2147483647:=by rw [<- hm];exact _J _ (by decide)
 refine ⟨⟨by decide,by decide⟩,.inl ⟨by omega,by omega⟩,by decide,?_⟩;left;generalize hn:m * (m / 1009+69621) % 2147483647=n;have n0:0<=n:=by rw [<- hn];exact _G _ (by decide)
 have n1:n < 2147483647:=by rw [<- hn];exact _J _ (by decide)
 refine ⟨⟨by decide,by decide⟩,.inl ⟨by omega,by omega⟩,by decide,?_⟩;exact h _ (_G _ (by decide))
def Us:Sp:=LD fun _ H Q _=>∀ l a b c,H l=none->Q (.ref l) (upd H l (.lst [.int a,.int b,.int c]))
def Pm:T.qm.k P w base 1 Us:=by
 refine T.qm.F.ok PU (fun _ _ _ _ h=>FE h fun _ _=>rfl) fun _ A _ s H vs Q E hr h=>FE h fun y h=>?_;refine ⟨_,((ad (aZ (bt pW (ac 0) (db IS bi bi)) (ao (aO (cr (aa bi (aa (db om (ac 0) bi) (aa bi ae)))))) ce)
 (ao (aO (cr (aa (ac 0) (aa (db om (ac 0) bi) (aa bi ae)))))))).h,?_⟩
 refine stI [some (.int y)] ?_;right;refine ⟨by constructor <;> decide,vE (fun _=>⟨by decide,fits (by simp),fun p hp=>h _ _ _ _ hp⟩) (fun _=>⟨by decide,fits (by simp),fun p hp=>h _ _ _ _ hp⟩)⟩
def xi:Sp:=kI fun st b H Q _=>X3 fun x y z=>A4 (H st=some (.lst [.int x,.int y,.int z])) (0 < b) (b<=1000) (∀ d x' y' z' H',0<=d->d < b->H' st=some (.lst [.int x',.int y',.int z'])->eg st H H'->Q (.int d) H')
def gQ:T.bT.k P w base 2 xi:=by
 refine T.bT.F.ok LV (fun _ _ _ _ h=>dj h fun _ _ _=>rfl) fun _ A _ s H vs Q E hr h=>dj h fun st b h=>?_;obtain ⟨x,y,z,h1,ni,rB,q⟩:=h;refine ⟨_,((ad (aZ (bt Xr (ci (bG (K:=K) rfl) (ac 0) bi) bi) (ad (aP 2 LV.nd (db om (ci (bG (K:=K) rfl) (ac 0) bi) (ac 1)))
 (ad (K0 (db Bk (ci (bG (K:=K) rfl) (ac 0) bi) (ac 1)) (Mj (ac 0) bi Je))
 (ao (aO (ac 2))))) ce)
 (ad (K0 (db fU (ci (bG (K:=K) rfl) (ac 0) bi) bi) (Mj (ac 0) bi Je))
 (ao (aO (db om (bn (aa3 T) hr.m T.qo.m T.qo.F.kp T.qo.b .nil aC (aa (ci (bG (K:=K) rfl) (ac 0) bi) (aa (ci (bG (K:=K) rfl) (ac 0) bi) ae))) (ac 1))))))).h,?_⟩
 refine stI [some (.ref st),some (.int b),none] ?_;right;simp only [bU,h1,iG];refine vE (fun _=>?_) (fun _=>?_)
 ·right;simp only [bU,h1,iG];refine ⟨ni,ai ?_⟩;left;simp only [bU,h1,iG,FB,aaP,List.set_cons_zero];refine ⟨⟨ni,by omega⟩,?_⟩;exact q _ _ _ _ _ (_G _ (by omega)) (_J _ ni) au eg.upd
 ·right;simp only [bU,h1,GC,FB,_F,Zk,List.set_cons_zero,List.set_cons_succ];left;simp only [bU,au,wZ,GC];intro r r0;refine ⟨ni,?_⟩;exact q _ _ _ _ _ (_G _ (by omega)) (_J _ ni) au eg.upd
def Dr (st:Addr) (H:Hp):Prop:=∃ x y z:Int,H st=some (.lst [.int x,.int y,.int z])
def Dr.same {st:Addr} {H H':Hp} (h:Dr st H) (s:ah H H'):Dr st H':=let ⟨x,y,z,e⟩:=h;⟨x,y,z,s _ _ e⟩
def Dr.ne {st p:Addr} {H:Hp} (h:Dr st H) (hp:H p=none):p≠st:=let ⟨x,y,z,e⟩:=h;fun q=>by rw [q,e] at hp;cases hp
def tM {st:Addr} {b:Int} {H:Hp} {Q:VK} {E:XK} (h:Dr st H) (ni:0 < b) (rB:b<=1000) (q:∀ d H',0<=d->d < b->Dr st H'->eg st H H'->Q (.int d) H'):xi [.ref st,.int b] H Q E:=by
 obtain ⟨x,y,z,e⟩:=h;exact ⟨x,y,z,e,ni,rB,fun d x' y' z' H' d0 d1 e' k=>q d H' d0 d1 ⟨x',y',z',e'⟩ k⟩
def pick {xs:List V} {d:Int} (h0:0<=d) (h1:d < xs.length):∃ v∈xs,dv xs d=some v:=by
 obtain ⟨n,rfl⟩:=_L h0;have hn:n < xs.length:=by omega
 exact ⟨xs[n],_y hn,oJ (ut hn)⟩
def md {H:Hp} {st:Addr} {xs:List V} {Q:VK} {E:XK} {b:Int} (h:Dr st H) (hb:b=xs.length) (hn:xs.length<=1000) (h0:0 < xs.length) (q:∀ v H',v∈xs->Dr st H'->eg st H H'->Q v H') :
  xs.length<=sizeLine/\∀ p,H p=none->xi [.ref st,.int b] (upd H p (.lst xs)) (fun y H2=>mS K (.ref p) y H2 Q) E:=by
 refine ⟨fits hn,fun p hp=>?_⟩;refine eC hp fun H1 s1 b1=>?_;have np:=h.ne hp;refine tM (h.same s1) (by omega) (by omega) fun d H2 d0 d1 h2 k2=>?_;obtain ⟨v,hv,e⟩:=pick (xs:=xs) d0 (by omega);simp only [mS,bU,k2 _ _ np b1,e];exact q v H2 hv h2 ((s1.keep st).trans k2)
inductive Down (d:Wd):Nat->List Str->Nat->Prop
 | nil {f}:Down d f [] f
 | cons {f nm ns k h t tk}:d.M.ts[f]?=some t->t.kd=("folder":Str)->bx ("g":Str) (cE t d.z)=true->fA (.str nm)=true->nm.length<=8->aF (sD t.aW) (.inr nm)=some (.int ((k:Nat):Int))->d.M.ts[k]?=some tk->tk.kd=("folder":Str)->Down d k ns h->Down d f (nm::ns) h
def wk {nm:Str} {ns:List Str}:cP (nm::ns)=cP ns++[.inr nm]:=by simp [cP]
def Qf {d:Wd} {P:Ws->Option Tl->Prop} (g:Gd d.M) (hL:d.L.length=d.M.ts.length) {f h:Nat} {ns:List Str} (D:Down d f ns h):∀ {S:Ws} {l:List (Sum Nat Str)},S.here=f->S.left=l++cP ns ->
  (∀ S1:Ws,S1.here=h->S1.left=l->S1.place=S.place->S1.bA=S.bA->∃ n S' o,eP d n S1 S' o/\P S' o)->∃ n S' o,eP d n S S' o/\P S' o:=by
 induction D with
 | nil=>exact fun e1 e2 k=>k _ e1 (by simpa [cP] using e2) rfl rfl
 | @cons f nm ns k h t tk ht hk hg hn hl hv fe hkk D ih =>
  intro S l e1 e2 kk;obtain ⟨a,ha⟩:=adr hL ht;obtain ⟨b,hb⟩:=adr hL fe;rw [wk,<- _O] at e2;have st:gC d { S with left:=l++cP ns } nm { dS { S with left:=l++cP ns } with look:=(dS { S with left:=l++cP ns }).look+1,here:=dk k [] } none :=
   .go (t:=t) ⟨⟨a,by rw [<- e1] at ha;exact ha⟩,by rw [<- e1] at ht;exact ht,hk,hg⟩ (fun z=>by rw [z,KP.2] at hn;cases hn) (fun z=>by rw [z,KP.1] at hn;cases hn) hn (by omega) (.folder hv hb fe hkk (g.dO k))
  obtain ⟨n,S',o,r,p⟩:=ih (S:={ dS { S with left:=l++cP ns } with look:=(dS { S with left:=l++cP ns }).look+1,here:=dk k [] }) (l:=l) rfl rfl fun S1 a1 a2 a3 a4=>kk S1 a1 a2 (a3.trans rfl) (a4.trans rfl);exact ⟨n+1,S',o,.step e2 st r,p⟩
def Yg {d:Wd} {P:Ws->Option Tl->Prop} (hL:d.L.length=d.M.ts.length) {S:Ws} {l:List (Sum Nat Str)} {t:Th} (ht:d.M.ts[S.here]?=some t) (hk:t.kd=("folder":Str)) (hg:bx ("g":Str) (cE t d.z)=true) (e2:S.left=l++[.inr (".":Str)])
  (kk:∀ S1:Ws,S1.here=S.here->S1.left=l->S1.place=S.place->S1.bA=S.bA->∃ n S' o,eP d n S1 S' o/\P S' o):∃ n S' o,eP d n S S' o/\P S' o:=by
 obtain ⟨a,ha⟩:=adr hL ht;obtain ⟨n,S',o,r,p⟩:=kk (dS { S with left:=l }) rfl rfl rfl rfl;exact ⟨n+1,S',o,.step e2 (.dot (t:=t) ⟨⟨a,ha⟩,ht,hk,hg⟩ rfl) r,p⟩
def WO {d:Wd} {P:Ws->Option Tl->Prop} (g:Gd d.M) (hL:d.L.length=d.M.ts.length) {S:Ws} {l:List (Sum Nat Str)} {t:Th} (h0:S.here=d.root) (ht:d.M.ts[S.here]?=some t) (hk:t.kd=("folder":Str)) (hg:bx ("g":Str) (cE t d.z)=true) (e2:S.left=l++[.inr ("..":Str)])
  (kk:∀ S1:Ws,S1.here=S.here->S1.left=l->S1.place=S.place->S1.bA=S.bA->∃ n S' o,eP d n S1 S' o/\P S' o):∃ n S' o,eP d n S S' o/\P S' o:=by
 obtain ⟨a,ha⟩:=adr hL ht;obtain ⟨n,S',o,r,p⟩:=kk { dS { S with left:=l } with here:=S.here } rfl rfl rfl rfl;exact ⟨n+1,S',o,.step e2 (.up (t:=t) ⟨⟨a,ha⟩,ht,hk,hg⟩ rfl (.gH ha ht (g.dO _) (by rw [ub,h0];exact tz rfl))) r,p⟩
def PM {d:Wd} {P:Ws->Option Tl->Prop} (g:Gd d.M) (hL:d.L.length=d.M.ts.length) {S:Ws} {l:List (Sum Nat Str)} {t tf:Th} {f:Nat} {z:Str} (h0:S.here≠d.root) (ht:d.M.ts[S.here]?=some t) (hk:t.kd=("folder":Str)) (hg:bx ("g":Str) (cE t d.z)=true) (hp:t.cS=[(f,z)]) (cU:d.M.ts[f]?=some tf) (e2:S.left=l++[.inr ("..":Str)])
  (kk:∀ S1:Ws,S1.here=f->S1.left=l->S1.place=S.place->S1.bA=S.bA->∃ n S' o,eP d n S1 S' o/\P S' o):∃ n S' o,eP d n S S' o/\P S' o:=by
 obtain ⟨a,ha⟩:=adr hL ht;obtain ⟨b,hb⟩:=adr hL cU;obtain ⟨n,S',o,r,p⟩:=kk { dS { S with left:=l } with here:=dk f [] } rfl rfl rfl rfl;exact ⟨n+1,S',o,.step e2 (.up (t:=t) ⟨⟨a,ha⟩,ht,hk,hg⟩ rfl (.up ha ht (g.dO _) (by rw [ub];exact pi h0) ha ht hp hb cU (g.dO f))) r,p⟩
inductive Pass (d:Wd):Nat->List Str->Nat->Prop
 | nil {f}:Pass d f [] f
 | down {f ns k ps h}:Down d f ns k->Pass d k ps h->Pass d f (ns++ps) h
 | dot {f t ps h}:d.M.ts[f]?=some t->t.kd=("folder":Str)->bx ("g":Str) (cE t d.z)=true->Pass d f ps h->Pass d f ((".":Str)::ps) h
 | Ui {t ps h}:d.M.ts[d.root]?=some t->t.kd=("folder":Str)->bx ("g":Str) (cE t d.z)=true->Pass d d.root ps h->Pass d d.root (("..":Str)::ps) h
 | up {k t tf f z ps h}:k≠d.root->d.M.ts[k]?=some t->t.kd=("folder":Str)->bx ("g":Str) (cE t d.z)=true->t.cS=[(f,z)]->d.M.ts[f]?=some tf->Pass d f ps h->Pass d k (("..":Str)::ps) h
def SS {d:Wd} (g:Gd d.M) (hL:d.L.length=d.M.ts.length) {f h:Nat} {ps:List Str} (D:Pass d f ps h):∀ {S:Ws},S.here=f->S.left=cP ps->∃ n S' o,eP d n S S' o/\o=none/\S'.here=h:=by
 induction D with
 | nil=>exact fun e1 e2=>⟨0,_,none,.done (by rw [e2];rfl),rfl,e1⟩
 | @down f ns k ps h D _ ih =>
  intro S e1 e2;exact Qf (P:=fun S' o=>o=none/\S'.here=h) g hL D e1 (l:=cP ps) (by rw [e2];simp [cP]) fun S1 a1 a2 _ _=>ih a1 a2
 | dot ht hk hg _ ih =>
  intro S e1 e2;subst e1;exact Yg (P:=fun S' o=>o=none/\S'.here=_) hL ht hk hg (e2.trans wk) fun S1 a1 a2 _ _=>ih a1 a2
 | Ui ht hk hg _ ih =>
  intro S e1 e2;exact WO (P:=fun S' o=>o=none/\S'.here=_) g hL e1 (by rw [e1];exact ht) hk hg (e2.trans wk) fun S1 a1 a2 _ _=>ih (a1.trans e1) a2
 | up cM ht hk hg hp cU _ ih =>
  intro S e1 e2;subst e1;exact PM (P:=fun S' o=>o=none/\S'.here=_) g hL cM ht hk hg hp cU (e2.trans wk) fun S1 a1 a2 _ _=>ih a1 a2
def Wo {M:Hs} {L:List Ta} {z:Str} {last fr:Bool} {ps:List Str} {h:Nat} {t0 t:Th} (g:Gd M) (hL:L.length=M.ts.length) (hn:M.ts.length<=90) (jC:aF (sD M.ro) (.inr z)=some (.int ((0:Nat):Int))) (aJ:aF (sD M.st) (.inr z)=some (.int ((0:Nat):Int)))
  (jv:M.ts[0]?=some t0) (D:Pass ⟨L,M,z,last,0⟩ 0 ps h) (hl:ps.length<=2500) (ht:M.ts[h]?=some t) (hk:t.kd=("folder":Str)) (hb:gd M 0 h):∃ e ns,mv ⟨L,M,z,last,0⟩ fr ps e/\e.res=.found h ns:=by
 obtain ⟨n,S',o,r,rfl,hh⟩:=SS (d:=⟨L,M,z,last,0⟩) g hL D (S:=⟨0,none,0,[],cP ps,[],0,0⟩) rfl rfl;obtain ⟨a0,eZ⟩:=adr hL jv;have hB:tT ⟨L,M,z,last,0⟩ fr 0:=⟨jC,0,0,[],a0,t0,by cases fr with | true=>exact .inl ⟨rfl,rfl⟩ | false=>exact .inr ⟨rfl,aJ⟩,eZ,jv,g.dO 0,⟨0,g.seen hL 0 0 t0 (sK _) jv .refl⟩,rfl⟩;obtain ⟨ns,cR,iR⟩:=CP (d:=⟨L,M,z,last,0⟩) g hL hn (S:=S') ⟨t,by rw [hh];exact ht,.inl ⟨hk,by rw [hh];exact hb⟩⟩;exact ⟨_,_,.found hB hl r iR,by rw [hh]⟩
def abM {M:Hs} {L:List Ta} {z:Str} {q:List (List Nat)} {nm t:List Nat} {h:Nat} {t0 th:Th} (g:Gd M) (hL:L.length=M.ts.length) (hn:M.ts.length<=90) (jC:aF (sD M.ro) (.inr z)=some (.int ((0:Nat):Int))) (aJ:aF (sD M.st) (.inr z)=some (.int ((0:Nat):Int)))
  (jv:M.ts[0]?=some t0) (D:Pass ⟨L,M,z,true,0⟩ 0 (q.map Tx.S++[(".":Str)]) h) (hq:told (Tx.words 47 t) t=q++[nm]) (cH:isNm nm=true) (hl:q.length<=900) (ht:M.ts[h]?=some th) (hk:th.kd=("folder":Str)) (hb:gd M 0 h):kf ⟨L,M,z,true,0⟩ t (.inr (h,nm)):=by
 obtain ⟨e,ns,ge,he⟩:=Wo (fr:=eO t) g hL hn jC aJ jv D (by simp;omega) ht hk hb;exact .xE (.FK hq cH) hl ge he
def TX (CH CS CT:Addr):Sp:=rL fun x n m H Q _=>X6 fun A L M (k:Nat) a t=>A6 (aI CH CS CT H A L M) (A.t=x) (n=(k:Int)) (L[k]?=some a) (M.ts[k]?=some t) (∀ H',aI CH CS CT H' A L { M with ts:=M.ts.set k { t with tx:=m } }->Kp [A.t,a.th] H H'->Q .aq H')
def Sk:T.uC.k P w mg base 3 (TX T.aL T.aV T.bc):=by
 refine T.uC.F.ok Iv (fun _ _ _ _ h=>mO h fun _ _ _ _=>rfl) fun _ A _ s H vs Q E hr h=>mO h fun x n m h=>?_;obtain ⟨AA,L,M,k,a,t,i,rfl,rfl,ha,aK,q⟩:=h;obtain ⟨fs,c,hx,aX,sf⟩:=i.h;obtain ⟨gs,c2,ht,fm,sg⟩:=i.t;have eh:=gj i ha aK;obtain ⟨ks,ho,lK,so⟩:=eh.o;have off:=i.uA ha;have n1:AA.t≠a.th:=off _ (by simp [Ad.w]) _ (by simp [Ta.l]);have n2:AA.a≠a.th:=off _ (by simp [Ad.w]) _ (by simp [Ta.l]);have n3:=i.own ha;refine bK (b:=aQ DU) ((ad (aP 3 Iv.nd (fB T.cW T.eE.h (kF T) hr.m T.eE.b .nil eN (ac 0) (aa (ac 1) ae)))
 (ad (jV T.cW T.wu jW (ac 0) bi)
 (ao (bu T.eG T.zY (ac 3) (ac 2)))))) ?_
 refine stI [some (V.ref AA.t),some (V.int (k:Int)),some (V.str m),none] ?_;right;refine mI ht sg (mw i ha aK ?_);right;refine ⟨AA.t,_,_,.int c2,rfl,ht,(sg _).trans rfl,_,_,rfl,rfl,_,_,ht,by omega,?_⟩;left;refine ⟨a.th,_,_,rfl,by rw [ag (pp n1)];exact ho,by omega,?_⟩;refine q _ (i.write (t':={ t with tx:=m }) ha ⟨fs,c,by rw [ag n2,ag i.aT];exact hx,aX,sf⟩ ⟨_,c2+1,by rw [ag n1,au],by rw [g9 (u:=.int c2) ((sg _).trans rfl)];exact fm,fun f=>by rw [(sg.put "changes" (.int (c2+1))) f];rfl⟩ ⟨⟨_,au,?_,fun f=>(so.put "text" (.str m) f).trans rfl⟩,?_,?_⟩ (fun b o hb e=>?_)) (fun b o hb e=>?_)
 ·rw [g9 (u:=.str t.tx) ((so _).trans rfl)];exact lK
 ·rw [ag (pp n3.1),ag (pp (off _ (by simp [Ad.w]) _ (by simp [Ta.l])))];exact eh.nm
 ·rw [ag (pp n3.2.1),ag (pp (off _ (by simp [Ad.w]) _ (by simp [Ta.l])))];exact eh.pl
 ·simp only [lv,mo,wP,UV] at hb;rw [ag hb.2.2.1,ag hb.2.1];exact e
 ·simp only [lv,mo,wP,UV] at hb;rw [ag hb.2,ag hb.1];exact e
inductive wY (d:Wd) (t:List Nat) (kd bad sg wd:Str):Sum Rf Nat->Prop
 | way {e}:ef d t e->(∀ k ns,e.res≠.found k ns)->wY d t kd bad sg wd (.inl (.way e.res))
 | kind {e k ns a th}:ef d t e->e.res=.found k ns->d.L[k]?=some a->d.M.ts[k]?=some th->th.kd≠kd->th.kd=bad->wY d t kd bad sg wd (.inl (.dY bad))
 | may {e k ns a th}:ef d t e->e.res=.found k ns->d.L[k]?=some a->d.M.ts[k]?=some th->th.kd=kd->bx sg (cE th d.z)=false->wY d t kd bad sg wd (.inl (.dY wd))
 | ok {e k ns a th}:ef d t e->e.res=.found k ns->d.L[k]?=some a->d.M.ts[k]?=some th->th.kd=kd->bx sg (cE th d.z)=true->wY d t kd bad sg wd (.inr k)
def WZ (N:Cn):Sp:=pI fun h z pt H Q E=>X6 fun A L M root t e=>A6 (pt=Tx.S t) (aI N.CH N.CS N.CT H A L M) (A.a=h) (ef ⟨L,M,z,true,root⟩ t e) (∀ k ns,e.res=.found k ns->∃ a t,L[k]?=some a/\M.ts[k]?=some t/\(t.kd≠("folder":Str)->∀ H',ah H H'->Q (.int (k:Int)) H')/\(t.kd=("folder":Str)->eD N H E (.dY "folder"))) ((∀ k ns,e.res≠.found k ns)->eD N H E (.way e.res))
def Zd:aA P w K mg base (bC P w) 16 T.qz.f T.qz.d ["house","asker","path"] (WZ T.cn):=by
 refine T.qz.F.c7 Ml (fun _ _ _ _ h=>jP h fun _ _ _ _=>rfl) fun _ A _ s H vs Q E hr h=>jP h fun hh z pt h=>?_;obtain ⟨AA,L,M,root,t,e,rfl,i,rfl,pg,q1,q2⟩:=h;refine bK (b:=aQ zg) ((ad (aP 3 Ml.nd (bP (Vw T) hr.m T.qG.m T.qG.F.kp T.qG.b .nil cA (aa (ac 0) (aa (ac 1) (aa (ac 2) ae)))))
 (ad (aZ (cQ (bn (abH T) hr.m T.pA.m T.pA.F.kp T.pA.b .nil aC (aa (ac 0) (aa (ac 3) ae)))) (ao (oH nu rfl rfl T.oh T.lN T.pN (pK T) hr.m T.jE.b (aa am ae))) ce)
 (ao (aO (ac 3)))))) ?_
 refine stI [some (V.ref AA.a),some (V.str z),some (V.str (Tx.S t)),none] ?_;right;refine ⟨AA,L,M,root,t,e,rfl,i,rfl,pg,fun k ns he H1 s1=>?_,q2⟩;obtain ⟨a,t',ha,ht,r1,r2⟩:=q1 k ns he;right;refine ⟨AA,L,M,k,a,t',i.same s1,rfl,rfl,ha,ht,?_⟩;dsimp only;by_cases hk:t'.kd=("folder":Str)
 ·rw [tz hk];exact bD ⟨_,rfl,fun d hd=>(r2 hk).raise s1 hd⟩
 ·rw [pi hk];exact aY (r1 hk _ s1)
structure Hw where
 no:Nat
 x:Addr
 dx:Addr
 th:Nat
 rg:Str
def fT (hs:List Hw):List (Key×V):=hs.map fun e=>(.inl (e.no:Int),.ref e.x)
def Kw (e:Hw):List (Str×V):=ax "rights" (.str e.rg) (ax "thing" (.int e.th) [])
structure eT (CO:Addr) (H:Hp) (A:Ad) (L:List Ta) (hs:List Hw):Prop where
 d:H A.ho=some (.dK (fT hs))
 n:A.ho ∉ A.w++L.flatMap Ta.l
 o:∀ e∈hs,H e.x=some (.ins CO e.dx (Kw e))
 f:∀ e∈hs,e.x ∉ A.w++L.flatMap Ta.l
 lt:∀ e∈hs,e.no < A.hg
 pw:hs.Pairwise fun a b=>a.no < b.no
def U9:T.uj.k P w mg base 1 (vO T.bE "thing" "rights"):=by
 refine T.uj.F.ok Sv (fun _ _ _ _ h=>mP h fun _ _ _ _=>rfl) fun _ A _ s H vs Q E hr h=>mP h fun x v1 v2 h=>?_;obtain ⟨dx,hx,q⟩:=h;refine ⟨_,((ad (bu T.lP T.wm (ac 0) (ac 1))
 (ao (bu T.lP T.wA (ac 0) (ac 2))))).h,?_⟩
 refine stI [some (V.ref x),some v1,some v2] ?_;right;refine ⟨x,dx,_,rfl,hx,by decide,?_⟩;refine ⟨x,dx,_,rfl,au,by walk_at "f",?_⟩;rw [jK];exact q
def Xb {hs:List Hw} {n:Nat} (h:∀ e∈hs,e.no≠n):aF (fT hs) (.inl (n:Int))=none:=by
 unfold aF fT;rw [Option.map_eq_none_iff,List.find?_eq_none];intro x hx;obtain ⟨e,he,rfl⟩:=Cl.mp hx;intro z;have z':(e.no:Int)=n:=by simpa using z
 exact h e he (by omega)
def YV {CO:Addr} {H:Hp} {A:Ad} {L:List Ta} {hs:List Hw} {e:Hw} (h:eT CO H A L hs) (he:e∈hs):e.x ∉ [A.a,A.ho]:=by
 simp only [lv,mo,wP,UV];exact ⟨fun z=>h.f e he (by rw [z];simp [Ad.w]),bH (h.o e he) h.d (by nofun)⟩
def S2 {CH CS CT:Addr} {H H':Hp} {A:Ad} {L:List Ta} {M:Hs} {W:List Addr} {fs:List (Str×V)} {c:Int} {n:Nat} (i:aI CH CS CT H A L M) (k:Kp W H H') (hx:H' A.a=some (.ins CH A.dx (ax "holds_given" (.int ((n:Int)+1)) fs))) (hl:(ax "holds_given" (.int ((n:Int)+1)) fs).length<=40)
  (sf:dh fs (pz c A)) (nw:∀ b∈A.w++L.flatMap Ta.l,b≠A.a->b ∉ W):aI CH CS CT H' { A with hg:=n+1 } L M:=by
 have nd:=i.nd;have na:∀ b∈A.w.tail++L.flatMap Ta.l,b≠A.a:=fun b hb e=>(Do.mp (show (A.a::(A.w.tail++L.flatMap Ta.l)).Nodup from nd)).1 (e ▸ hb);have k':∀ b∈A.w.tail++L.flatMap Ta.l,b ∉ W:=fun b hb=>nw b (Db A.a hb) (na b hb);exact ⟨⟨_,c,hx,hl,fun f=>by rw [(sf.put "holds_given" (.int ((n:Int)+1))) f];rfl⟩,(let ⟨fs,c,e,r⟩:=i.t;⟨fs,c,k _ _ (k' _ (by simp [Ad.w])) e,r⟩),k _ _ (k' _ (by simp [Ad.w])) i.ml,i.len,(fun j t e=>let ⟨a,e1,h⟩:=i.th j t e;⟨a,e1,h.keep k fun b hb=>k' b (wS _ (ir e1 hb))⟩),k _ _ (k' _ (by simp [Ad.w])) i.ro,k _ _ (k' _ (by simp [Ad.w])) i.st,k _ _ (k' _ (by simp [Ad.w])) i.tr,k _ _ (k' _ (by simp [Ad.w])) i.ov,k _ _ (k' _ (by simp [Ad.w])) i.un,i.nd⟩
def RE (CH CS CT CO:Addr):Sp:=sQ fun x y H Q _=>X7 fun A L M hs dy th rg=>A7 (A.a=x) (aI CH CS CT H A L M) (eT CO H A L hs) (hs.length<=1000) (H y=some (.ins CO dy (Kw ⟨A.hg,y,dy,th,rg⟩))) (y ∉ A.w++L.flatMap Ta.l) (∀ H',aI CH CS CT H' { A with hg:=A.hg+1 } L M->eT CO H' { A with hg:=A.hg+1 } L (hs++[⟨A.hg,y,dy,th,rg⟩])->Kp [A.a,A.ho] H H'->Q (.int A.hg) H')
def ady:T.uc.k P w mg base 1 (RE T.aL T.aV T.bc T.bE):=by
 refine T.uc.F.ok J1 (fun _ _ _ _ h=>mD h fun _ _ _=>rfl) fun _ A _ s H vs Q E hr h=>mD h fun x y h=>?_;obtain ⟨AA,L,M,hs,dy,th,rg,rfl,i,ho,hn,hy,ND,q⟩:=h;obtain ⟨fs,c,hx,aX,sf⟩:=i.h;refine bK (b:=aQ Dc) ((ad (aP 2 J1.nd (ap T.aN T.zC (ac 0)))
 (ad (jV T.aN T.zC jW (ac 0) bi)
 (ad (nY (er hr) (ap T.aN T.qy (ac 0)) (ac 2) (ac 1))
 (ao (aO (ac 2))))))) ?_
 refine stI [some (V.ref AA.a),some (V.ref y),none] ?_;right;refine (fI hx sf rfl (ai ?_));left;refine ⟨AA.a,_,_,.int AA.hg,rfl,hx,(sf _).trans rfl,_,_,rfl,rfl,_,_,hx,by omega,ai ?_⟩;have nh:AA.ho≠AA.a:=fun e=>ho.n (by rw [e];simp [Ad.w]);have nya:y≠AA.a:=fun e=>ND (by rw [e];simp [Ad.w]);have nyh:y≠AA.ho:=bH hy ho.d (by nofun);left;refine ⟨AA.a,_,_,.ref AA.ho,rfl,au,by rw [eL,xL (by decide)];exact (sf _).trans rfl,AA.ho,_,rfl,gR.k (k:=.inl (AA.hg:Int)) (by rw [ag nh];exact ho.d) (jO (by unfold fT;rw [ss];omega)),?_⟩;left;have kp:Kp [AA.a,AA.ho] H (upd (upd H AA.a (.ins T.aL AA.dx (ax "holds_given" (.int ((AA.hg:Int)+1)) fs))) AA.ho (.dK (putK (fT hs) (.inl (AA.hg:Int)) (.ref y)))):=fun b o hb e=>by
  simp only [lv,mo,wP,UV] at hb;rw [ag hb.2,ag hb.1];exact e
 have nw:∀ b∈AA.w++L.flatMap Ta.l,b≠AA.a->b ∉ [AA.a,AA.ho]:=fun b hb h1=>by
  simp only [lv,mo,wP,UV];exact ⟨h1,fun e=>ho.n (e ▸ hb)⟩
 have e1:putK (fT hs) (.inl (AA.hg:Int)) (.ref y)=fT (hs++[⟨AA.hg,y,dy,th,rg⟩]):=by
  rw [Gh _ (Xb fun e he=>zn (ho.lt e he))];unfold fT;rw [Fr];rfl
 refine q _ (S2 i kp (by rw [ag (pp nh),au]) (by rw [g9 (u:=.int AA.hg) ((sf _).trans rfl)];exact aX) sf nw) ⟨by rw [au,e1],ho.n,fun e he=>?_,fun e he=>?_,fun e he=>?_,?_⟩ kp
 ·rcases Go.mp he with he | he
  ·exact kp _ _ (YV ho he) (ho.o e he)
  ·rw [wf.mp he];exact kp _ _ (by simp [nya,nyh]) hy
 ·rcases Go.mp he with he | he
  ·exact ho.f e he
  ·rw [wf.mp he];exact ND
 ·rcases Go.mp he with he | he
  ·exact Nat.lt_succ_of_lt (ho.lt e he)
  ·rw [wf.mp he];exact KM _
 ·rw [List.pairwise_append];exact ⟨ho.pw,by simp,fun a ha b hb=>by rw [wf.mp hb];exact ho.lt a ha⟩
def bN (N:Cn) (CO:Addr) (H:Hp) (A:Ad) (L:List Ta) (M:Hs) (hs:List Hw):Prop:=aI N.CH N.CS N.CT H A L M/\eT CO H A L hs
def iF (hs:List Hw) (H:Hp):V->Prop
 | .int n=>∀ e∈hs,(e.no:Int)≠n
 | v=>(∃ T,clsName H v=some T)/\(∀ n,v≠.int n)
def OP (CH CS CT CO:Addr):Sp:=kI fun x n H Q _=>X5 fun A L M hs e=>A6 (A.a=x) (aI CH CS CT H A L M) (eT CO H A L hs) (e∈hs) (n=(e.no:Int)) (∀ H',aI CH CS CT H' A L M->eT CO H' A L (hs.filter fun u=>u.no != e.no)->Kp [A.ho] H H'->Q .aq H')
def HF {hs:List Hw} (h:hs.Pairwise fun a b=>a.no < b.no) {e u:Hw} (he:e∈hs) (hu:u∈hs) (hn:e.no=u.no):e=u:=by
 induction hs with
 | nil=>cases he
 | cons a r ih =>
  rw [Jab] at h;rcases lv.mp he with e1 | e1 <;> rcases lv.mp hu with e2 | e2
  ·rw [e1,e2]
  ·have:=h.1 u e2;rw [e1] at hn;omega
  ·have:=h.1 e e1;rw [e2] at hn;omega
  ·exact ih h.2 e1 e2
def FZ {hs:List Hw} (h:hs.Pairwise fun a b=>a.no < b.no) {e:Hw} (he:e∈hs):aF (fT hs) (.inl (e.no:Int))=some (.ref e.x):=by
 unfold aF fT;rw [T0]
 induction hs with
 | nil=>cases he
 | cons a r ih =>
  rw [wT,PP];by_cases hn:a.no=e.no
  ·rw [HF h (LT) he hn,tz rfl];exact ⟨_,rfl,rfl⟩
  ·rw [pi fun z=>hn (by injection z;omega)];rcases lv.mp he with e1 | he
   ·exact absurd (by rw [e1]) hn
   ·exact ih (Jab.mp h).2 he
def Ym {hs:List Hw} {n:Nat}:jJ (fT hs) (.inl (n:Int))=fT (hs.filter fun u=>u.no != n):=by
 unfold jJ fT;rw [List.filter_map]
 congr 1
 refine List.filter_congr fun u _=>?_;show decide ((Sum.inl (u.no:Int):Key)≠.inl (n:Int))=(u.no != n);by_cases h:u.no=n
 ·subst h;simp
 ·have h':¬ ((u.no:Int)=n):=by omega
  simp [h,h']
def eT.get {CO:Addr} {H:Hp} {A:Ad} {L:List Ta} {hs:List Hw} {e:Hw} (h:eT CO H A L hs) (he:e∈hs):ei H A.ho (.int (e.no:Int)) (some (.ref e.x)):=.inl ⟨_,.inl (e.no:Int),.inl h.d,rfl,(FZ h.pw he).symm⟩
def eT.miss {CO:Addr} {H:Hp} {A:Ad} {L:List Ta} {hs:List Hw} {n:Int} (h:eT CO H A L hs) (hn:∀ e∈hs,(e.no:Int)≠n):ei H A.ho (.int n) none:=.inl ⟨_,.inl n,.inl h.d,rfl,by
 refine Eq.symm ?_;unfold aF fT;rw [Option.map_eq_none_iff,List.find?_eq_none];intro x hx;obtain ⟨e,he,rfl⟩:=Cl.mp hx;intro z;exact hn e he (by simpa using z)⟩
def abh:T.rS.k P w mg base 1 (OP T.aL T.aV T.bc T.bE):=by
 refine T.rS.F.ok Ue (fun _ _ _ _ h=>dj h fun _ _ _=>rfl) fun _ A _ s H vs Q E hr h=>dj h fun x n h=>?_;obtain ⟨AA,L,M,hs,e,rfl,i,ho,he,rfl,q⟩:=h;obtain ⟨fs,c,hx,aX,sf⟩:=i.h;refine bK (b:=aQ BU) ((ao (aS (KS (ap T.aN T.qy (ac 0)) (ac 1))))) ?_;refine stI [some (V.ref AA.a),some (V.int (e.no:Int))] ?_;left;refine (fI hx sf rfl ⟨AA.ho,rfl,.inl ⟨_,.inl ho.d⟩,_,.inl (e.no:Int),_,ho.d,rfl,FZ ho.pw he,?_⟩);have kp:Kp [AA.ho] H (upd H AA.ho (.dK (jJ (fT hs) (.inl (e.no:Int))))):=fun b o hb e=>by
  rw [ag (by simpa using hb)];exact e
 refine q _ (i.keep kp fun b hb=>by rw [wf];exact fun z=>ho.n (z ▸ hb)) ⟨by rw [au,Ym],ho.n,fun u hu=>?_,fun u hu=>ho.f u (W1.mp hu).1,fun u hu=>ho.lt u (W1.mp hu).1,ho.pw.filter _⟩ kp;have hu':=(W1.mp hu).1;exact kp _ _ (by simpa using (bH (ho.o u hu') ho.d (by nofun))) (ho.o u hu')
def Sb (N:Cn) (CO CN:Addr):Sp:=xw fun x v H Q E=>X4 fun A L M hs=>A3 (A.a=x) (bN N CO H A L M hs) ((∃ e∈hs,v=.int (e.no:Int)/\Q (.ref e.x) H)\/(iF hs H v/\∀ H',ah H H'->E (.ref CN) none H'))
def uD:aA P w K mg base (bC P w) 2 T.fg.f T.fg.d ["house","number"] (Sb T.cn T.bE T.bJ):=by
 refine T.fg.F.c7 Se (fun _ _ _ _ h=>qP h fun _ _ _=>rfl) fun _ A _ s H vs Q E hr h=>qP h fun x v h=>?_;obtain ⟨AA,L,M,hs,rfl,⟨i,ho⟩,h⟩:=h;obtain ⟨fs,c,hx,aX,sf⟩:=i.h;refine bK (b:=aQ B8) ((ad (aZ (fi (f8 (de (cQ (bn (DA T) hr.m T.iE.m T.iE.F.kp T.iE.b .nil aC (aa (ac 1) ae)))) (jd (BH (er hr) (ac 1) (ap T.aN T.qy (ac 0)))))) (ao (mQ lS rfl T.Mc T.aaq (aa am ae))) ce)
 (ao (aO (lW (er hr) (ap T.aN T.qy (ac 0)) (ac 1)))))) ?_
 refine stI [some (V.ref AA.a),some v] ?_;right;rcases h with ⟨e,he,rfl,q⟩ | ⟨hn,q⟩
 ·exact ⟨⟨_,rfl⟩,aY (fI hx sf rfl ⟨AA.ho,_,rfl,ho.get he,aY (fI hx sf rfl ⟨AA.ho,_,rfl,ho.get he,q⟩)⟩)⟩
 ·cases v with
  | int n=>exact ⟨⟨_,rfl⟩,aY (fI hx sf rfl ⟨AA.ho,_,rfl,ho.miss hn,bD ⟨fits (by simp),q _ (ah.refl _)⟩⟩)⟩
  | _=>exact ⟨hn.1,bD (bD ⟨fits (by simp),q _ (ah.refl _)⟩)⟩
def js (N:Cn) (CO CN:Addr) (n:Nat):Sp:=fun vs H _ E=>∃ A L M hs v r,vs=.ref A.a::v::r/\r.length=n/\bN N CO H A L M hs/\iF hs H v/\∀ H',ah H H'->E (.ref CN) none H'
def Rb:aA P w K mg base (bC P w) 3 T.qC.f T.qC.d ["house","number"] (js T.cn T.bE T.bJ 0):=by
 refine T.qC.F.c7 aaB (fun vs H Q E ⟨_,_,_,_,_,r,e,hr,_⟩=>?_) (fun cdv A outer s H vs Q E hr ⟨AA,L,M,hs,v,r,e,hl,i,hn,q⟩=>?_)
 ·rw [e,Os hr];rfl
 ·obtain rfl:=Os hl;subst e;refine bK (b:=aQ zd) ((ao (aO (ap T.lP T.wm (bP (uD T) hr.m T.fg.m T.fg.F.kp T.fg.b .nil cA (aa (ac 0) (aa (ac 1) ae))))))) ?_;refine stI [some (V.ref AA.a),some v] ?_;left;exact ⟨AA,L,M,hs,rfl,i,.inr ⟨hn,q⟩⟩
def ZI:aA P w K mg base (bC P w) 5 T.pE.f T.pE.d ["house","number"] (js T.cn T.bE T.bJ 0):=by
 refine T.pE.F.c7 Kc (fun vs H Q E ⟨_,_,_,_,_,r,e,hr,_⟩=>?_) (fun cdv A outer s H vs Q E hr ⟨AA,L,M,hs,v,r,e,hl,i,hn,q⟩=>?_)
 ·rw [e,Os hr];rfl
 ·obtain rfl:=Os hl;subst e;refine bK (b:=aQ CL) ((ad (aP 2 Kc.nd (bP (uD T) hr.m T.fg.m T.fg.F.kp T.fg.b .nil cA (aa (ac 0) (aa (ac 1) ae))))
   (ad (aZ (bt LX am (ap T.lP T.wA (ac 2))) (ao (oH nu rfl rfl T.oh T.lN T.pN (pK T) hr.m T.jE.b (aa am ae))) ce)
   (ao (aO (bI T.aN T.jl.h (xu T) hr.m T.jl.b .nil aC (ac 0) (aa (ap T.lP T.wm (ac 2)) ae))))))) ?_
  refine stI [some (V.ref AA.a),some v,none] ?_;right;exact ⟨AA,L,M,hs,rfl,i,.inr ⟨hn,q⟩⟩
def RU (N:Cn) (CO CN:Addr):Sp:=fun vs H Q E=>∃ A L M hs v,vs=[.ref A.a,v]/\bN N CO H A L M hs/\((∃ e∈hs,v=.int (e.no:Int)/\Q (.str e.rg) H)\/(iF hs H v/\∀ H',ah H H'->E (.ref CN) none H'))
def KL:aA P w K mg base (bC P w) 3 T.ly.f T.ly.d ["house","number"] (RU T.cn T.bE T.bJ):=by
 refine T.ly.F.c7 PQ (fun vs H Q E ⟨_,_,_,_,_,e,_⟩=>by rw [e];rfl) (fun cdv A outer s H vs Q E hr ⟨AA,L,M,hs,v,e,i,h⟩=>?_);subst e;refine bK (b:=aQ DF) ((ao (aO (ap T.lP T.wA (bP (uD T) hr.m T.fg.m T.fg.F.kp T.fg.b .nil cA (aa (ac 0) (aa (ac 1) ae))))))) ?_;refine stI [some (V.ref AA.a),some v] ?_;left;rcases h with ⟨e,he,rfl,q⟩ | ⟨hn,q⟩
 ·exact ⟨AA,L,M,hs,rfl,i,.inl ⟨e,he,rfl,_,_,_,_,rfl,i.2.o e he,rfl,q⟩⟩
 ·exact ⟨AA,L,M,hs,rfl,i,.inr ⟨hn,q⟩⟩
def Qj (N:Cn) (CO CN:Addr):Sp:=fun vs H Q E=>∃ A L M hs v,vs=[.ref A.a,v]/\bN N CO H A L M hs/\((∃ e∈hs,v=.int (e.no:Int) /\
 ∀ H',bN N CO H' A L M (hs.filter fun u=>u.no != e.no)->Kp [A.ho] H H'->Q .aq H')\/(iF hs H v/\∀ H',ah H H'->E (.ref CN) none H'))
def Aj:aA P w K mg base (bC P w) 3 T.iN.f T.iN.d ["house","number"] (Qj T.cn T.bE T.bJ):=by
 refine T.iN.F.c7 XM (fun vs H Q E ⟨_,_,_,_,_,e,_⟩=>by rw [e];rfl) (fun cdv A outer s H vs Q E hr ⟨AA,L,M,hs,v,e,i,h⟩=>?_);subst e;obtain ⟨fs,c,hx,aX,sf⟩:=i.1.h;refine bK (b:=aQ zo) ((ad (aS (bP (uD T) hr.m T.fg.m T.fg.F.kp T.fg.b .nil cA (aa (ac 0) (aa (ac 1) ae))))
   (ao (aS (bI T.aN T.rS.h (abh T) hr.m T.rS.b .nil aC (ac 0) (aa (ac 1) ae)))))) ?_
 refine stI [some (V.ref AA.a),some v] ?_;right;rcases h with ⟨e,he,rfl,q⟩ | ⟨hn,q⟩
 ·exact ⟨AA,L,M,hs,rfl,i,.inl ⟨e,he,rfl,mI hx sf ⟨AA,L,M,hs,e,rfl,i.1,i.2,he,rfl,fun H' i' o' k'=>q H' ⟨i',o'⟩ k'⟩⟩⟩
 ·exact ⟨AA,L,M,hs,rfl,i,.inr ⟨hn,q⟩⟩
def V1 (N:Cn) (CO:Addr):Sp:=fun vs H Q _=>∃ A L M hs,vs=[.ref A.a]/\bN N CO H A L M hs/\hs.length < 64/\∀ l H',ah H H'->H l=none->H' l=some (.lst (hs.map fun e=>V.int (e.no:Int)))->Q (.ref l) H'
def VX:T.qO.k P w base 2 (V1 T.cn T.bE):=by
 refine T.qO.F.ok Pd (fun vs H Q E ⟨_,_,_,_,e,_⟩=>by rw [e];rfl) (fun cdv A outer s H vs Q E hr ⟨AA,L,M,hs,e,i,hn,q⟩=>?_);subst e;obtain ⟨fs,c,hx,aX,sf⟩:=i.1.h;refine bK (b:=aQ Bv) ((ao (aO (bQ (wQ rfl) T.vT w9 (aa (ap T.aN T.qy (ac 0)) ae))))) ?_;refine stI [some (V.ref AA.a)] ?_;left;refine (fI hx sf rfl ⟨AA.ho,_,hs.map fun e=>(e.no:Int),rfl,i.2.d,by unfold fT;simp,by rw [ss];omega,?_,fun l hl=>q l _ (ah.upd hl) hl ?_⟩)
 ·rw [List.pairwise_map];exact i.2.pw.imp fun h=>by omega
 ·rw [au,Re];rfl
inductive pF (N:Cn) (CO CNH CNT:Addr) (H:Hp) (A:Ad) (L:List Ta) (M:Hs) (hs:List Hw) (v x:V) (Q:VK) (E:XK):Prop
 | no:iF hs H v->(∀ H',ah H H'->E (.ref CNH) none H')->pF N CO CNH CNT H A L M hs v x Q E
 | text {e}:e∈hs->v=.int (e.no:Int)->(∃ T,clsName H x=some T)->wx x=true->(∀ H',ah H H'->E (.ref CNT) none H')->pF N CO CNH CNT H A L M hs v x Q E
 | dY {e z}:e∈hs->v=.int (e.no:Int)->x=.str z->z.length<=60->bx ("w":Str) e.rg=false->eD N H E (.dY "write")->pF N CO CNH CNT H A L M hs v x Q E
 | ok {e z a t}:e∈hs->v=.int (e.no:Int)->x=.str z->z.length<=60->bx ("w":Str) e.rg=true->L[e.th]?=some a->M.ts[e.th]?=some t ->
   (∀ H',aI N.CH N.CS N.CT H' A L { M with ts:=M.ts.set e.th { t with tx:=z } }->eT CO H' A L hs->Kp [A.t,a.th] H H'->Q .aq H')->pF N CO CNH CNT H A L M hs v x Q E
def eT.keep {CO:Addr} {H H':Hp} {A:Ad} {L:List Ta} {hs:List Hw} {W:List Addr} (h:eT CO H A L hs) (k:Kp W H H') (hw:∀ b∈W,b∈A.w++L.flatMap Ta.l):eT CO H' A L hs :=
 ⟨k _ _ (fun z=>h.n (hw _ z)) h.d,h.n,fun e he=>k _ _ (fun z=>h.f e he (hw _ z)) (h.o e he),h.f,h.lt,h.pw⟩
def Bf:aA P w K mg base (bC P w) 5 T.iq.f T.iq.d ["house","number","text"] (fun vs H Q E=>∃ A L M hs v x,vs=[.ref A.a,v,x]/\bN T.cn T.bE H A L M hs/\pF T.cn T.bE T.bJ T.cB H A L M hs v x Q E):=by
 have G_check_text:=yW (F6 (P:=P) (w:=w) (base:=base) T).cx (acS (P:=P) (w:=w) (base:=base) T);refine T.iq.F.c7 FC (fun vs H Q E ⟨_,_,_,_,_,_,e,_⟩=>by rw [e];rfl) (fun cdv A outer s H vs Q E hr ⟨AA,L,M,hs,v,x,e,i,h⟩=>?_);subst e;obtain ⟨fs,c,hx,aX,sf⟩:=i.1.h;obtain ⟨gs,c2,ht,fm,sg⟩:=i.1.t;refine bK (b:=aQ Aq) ((ad (aP 3 FC.nd (bP (uD T) hr.m T.fg.m T.fg.F.kp T.fg.b .nil cA (aa (ac 0) (aa (ac 1) ae))))
   (ad (aS (bP G_check_text hr.m T.iI.m T.iI.F.kp T.iI.b .nil cA (aa (ac 2) ae)))
   (ad (aZ (bt LX am (ap T.lP T.wA (ac 3))) (ao (oH nu rfl rfl T.oh T.lN T.pN (pK T) hr.m T.jE.b (aa am ae))) ce)
   (ao (aS (bI T.cW T.uC.h (Sk T) hr.m T.uC.b .nil aC (ap T.aN T.jn (ac 0)) (aa (ap T.lP T.wm (ac 3)) (aa (ac 2) ae))))))))) ?_
 refine stI [some (V.ref AA.a),some v,some x,none] ?_;right;cases h with
 | no hn q=>exact ⟨AA,L,M,hs,rfl,i,.inr ⟨hn,q⟩⟩
 | @text e he hv hc hb q =>
  subst hv;refine ⟨AA,L,M,hs,rfl,i,.inl ⟨e,he,rfl,?_⟩⟩;refine c8 (fun _ _=>False) ?_ (fun _ _ z=>z.elim);left;exact .inr ⟨hc,hb,q _ (ah.refl _)⟩
 | @dY e z he hv hxz hz hr' q =>
  subst hv;subst hxz;refine ⟨AA,L,M,hs,rfl,i,.inl ⟨e,he,rfl,ai ?_⟩⟩;left;refine .inl ⟨hz,ai ?_⟩;left;refine ⟨e.x,_,_,_,rfl,i.2.o e he,rfl,?_⟩;show (if (!bx ("w":Str) e.rg)=true then _ else _);rw [hr'];exact bD ⟨_,rfl,fun d hd=>q.raise (ah.refl _) hd⟩
 | @ok e z a t he hv hxz hz hr' ha aK q =>
  subst hv;subst hxz;refine ⟨AA,L,M,hs,rfl,i,.inl ⟨e,he,rfl,ai ?_⟩⟩;left;refine .inl ⟨hz,ai ?_⟩;left;refine ⟨e.x,_,_,_,rfl,i.2.o e he,rfl,?_⟩;show (if (!bx ("w":Str) e.rg)=true then _ else _);rw [hr'];refine aY (fI hx sf rfl (mI ht sg ⟨e.x,_,_,_,rfl,i.2.o e he,rfl,AA,L,M,e.th,a,t,i.1,rfl,rfl,ha,aK,fun H' i' k'=>q H' i' (i.2.keep k' fun b hb=>?_) k'⟩));simp only [lv,mo,wP] at hb;rcases hb with rfl | rfl
  ·simp [Ad.w]
  ·exact wS _ (ir ha (by simp [Ta.l]))
section
variable (T:Tx K mg) (H:Hp) (M:Hs)
inductive AW (va vp:V):Addr->Prop
 | vx:(∃ ty,clsName H va=some ty)->(∀ z,va=.str z->aF (sD M.ro) (.inr z)=none)->AW va vp T.ck
 | path {z}:va=.str z->(aF (sD M.ro) (.inr z)).isSome=true->vM H vp->AW va vp T.cF
structure uG (va vp:V) (z:Str) (t:List Nat):Prop where
 a:va=.str z
 z:(aF (sD M.ro) (.inr z)).isSome=true
 p:vp=.str (Tx.S t)
 t:gE t
inductive Ir (vm vr:V):Prop
 | Wh:(∃ ty,clsName H vm=some ty)->nZ vm=false->Ir vm vr
 | rest {y}:vm=.str y->y∈eI->(∃ ty,clsName H vr=some ty)->nZ vr=false->Ir vm vr
end
inductive oy (T:Tx K mg) (H:Hp) (A:Ad) (L:List Ta) (M:Hs) (hs:List Hw) (va vp vr:V) (Q:VK) (E:XK):Prop
 | bad {C}:AW T H M va vp C->(∀ H',ah H H'->E (.ref C) none H')->oy T H A L M hs va vp vr Q E
 | FY {z t}:uG M va vp z t->(∃ ty,clsName H vr=some ty)->nZ vr=false->(∀ H',ah H H'->E (.ref T.cm) none H')->oy T H A L M hs va vp vr Q E
 | way {z t y root e}:uG M va vp z t->vr=.str y->y∈eI->ef ⟨L,M,z,true,root⟩ t e->(∀ k ns,e.res≠.found k ns)->eD T.cn H E (.way e.res)->oy T H A L M hs va vp vr Q E
 | folder {z t y root e k ns a th}:uG M va vp z t->vr=.str y->y∈eI->ef ⟨L,M,z,true,root⟩ t e->e.res=.found k ns->L[k]?=some a->M.ts[k]?=some th->th.kd=("folder":Str)->eD T.cn H E (.dY "folder")->oy T H A L M hs va vp vr Q E
 | file {z t y root e k ns a th}:uG M va vp z t->vr=.str y->y∈eI->ef ⟨L,M,z,true,root⟩ t e->e.res=.found k ns->L[k]?=some a->M.ts[k]?=some th->th.kd≠("folder":Str) ->
   (bx ("l":Str) y=true->bx ("l":Str) (cE th z)=false->eD T.cn H E (.dY "look")) ->
   ((bx ("l":Str) y=true->bx ("l":Str) (cE th z)=true)->bx ("w":Str) y=true->bx ("w":Str) (cE th z)=false->eD T.cn H E (.dY "write")) ->
   ((bx ("l":Str) y=true->bx ("l":Str) (cE th z)=true)->(bx ("w":Str) y=true->bx ("w":Str) (cE th z)=true)->∀ x dx H',H x=none->bN T.cn T.bE H' { A with hg:=A.hg+1 } L M (hs++[⟨A.hg,x,dx,k,y⟩])->Kp [A.a,A.ho] H H'->Q (.int A.hg) H') ->
   oy T H A L M hs va vp vr Q E
def qE:aA P w K mg base (bC P w) 17 T.eJ.f T.eJ.d ["house","asker","path","rights"] (fun vs H Q E=>∃ A L M hs va vp vr,vs=[.ref A.a,va,vp,vr]/\bN T.cn T.bE H A L M hs/\hs.length<=1000/\oy T H A L M hs va vp vr Q E):=by
 have G_parts_of:=yW (qJ (P:=P) (w:=w) (base:=base) T).cx (Ww (P:=P) (w:=w) (base:=base) T);have G_check_rights:=yW (z9 (P:=P) (w:=w) (base:=base) T).cx (RM (P:=P) (w:=w) (base:=base) T);refine T.eJ.F.c7 Ms (fun vs H Q E ⟨_,_,_,_,_,_,_,e,_⟩=>by rw [e];rfl) (fun cdv A outer s H vs Q E hr ⟨AA,L,M,hs,va,vp,vr,e,i,hn,h⟩=>?_);subst e;obtain ⟨fs,c,hx,aX,sf⟩:=i.1.h;refine bK (b:=aQ Bc) ((ad (aS (fB T.aN T.gm.h (qj T) hr.m T.gm.b .nil cA (ac 0) (aa (ac 1) ae)))
   (ad (aS (bP G_parts_of hr.m T.dQ.m T.dQ.F.kp T.dQ.b .nil cA (aa (ac 2) ae)))
   (ad (aS (bP G_check_rights hr.m T.f9.m T.f9.F.kp T.f9.b .nil cA (aa (ac 3) ae)))
   (ad (aP 4 Ms.nd (bP (Zd T) hr.m T.qz.m T.qz.F.kp T.qz.b .nil cA (aa (ac 0) (aa (ac 1) (aa (ac 2) ae)))))
   (ad (aZ (bt (pU (K:=K) rfl) am (ac 3)) (ao (aS (bP (Cu T) hr.m T.iu.m T.iu.F.kp T.iu.b .nil cA (aa (ac 0) (aa (ac 1) (aa (ac 4) (aa am (aa am ae)))))))) ce)
   (ad (aZ (bt (pU (K:=K) rfl) am (ac 3)) (ao (aS (bP (Cu T) hr.m T.iu.m T.iu.F.kp T.iu.b .nil cA (aa (ac 0) (aa (ac 1) (aa (ac 4) (aa am (aa am ae)))))))) ce)
   (ao (aO (bI T.aN T.uc.h (ady T) hr.m T.uc.b .nil aC (ac 0) (aa (im T.Vx (U9 T) hr.m T.ace T.uj.b .nil aC (aa (ac 4) (aa (ac 3) ae))) ae))))))))))) ?_
 refine stI [some (V.ref AA.a),some va,some vp,some vr,none] ?_;cases h with
 | bad hb q =>
  cases hb with
  | vx hc hn =>
   refine c8 (fun _ _=>False) ?_ (fun _ _ z=>z.elim);left;exact (mI hx sf ⟨AA,L,M,i.1,rfl,hc,fun z e hz=>(by rw [hn z e] at hz;cases hz),fun _=>q H (ah.refl H)⟩)
  | path hz hz' hb =>
   subst hz;right;refine (mI hx sf (kR i.1 hz' ?_));refine c8 (fun _ _=>False) ?_ (fun _ _ z=>z.elim);left;exact .inr ⟨hb,q⟩
 | @FY z t g hc hb q =>
  obtain ⟨rfl,hz,rfl,pt⟩:=g;obtain ⟨ty,hc⟩:=hc;right;refine (mI hx sf (kR i.1 hz (ai ?_)));left;refine .inl ⟨t,rfl,pt.l1,pt.l2,pt.all,fun H1 l p s1 _ _ _=>?_⟩;refine c8 (fun _ _=>False) ?_ (fun _ _ z=>z.elim);left;exact .inr ⟨⟨ty,ZZ s1 hc⟩,hb,q _ s1⟩
 | @way z t y root e g hy hy' pw hf q =>
  subst hy;obtain ⟨rfl,hz,rfl,pt⟩:=g;right;refine (mI hx sf (kR i.1 hz (ai ?_)));left;refine .inl ⟨t,rfl,pt.l1,pt.l2,pt.all,fun H1 l p s1 _ _ _=>ai ?_⟩;left;refine .inl ⟨hy',ai ?_⟩;left;exact ⟨AA,L,M,root,t,e,rfl,i.1.same s1,rfl,pw,fun k ns h=>absurd h (hf k ns),fun _=>q.of s1⟩
 | @folder z t y root e k ns a th g hy hy' pw hf ha aK hk q =>
  subst hy;obtain ⟨rfl,hz,rfl,pt⟩:=g;right;refine (mI hx sf (kR i.1 hz (ai ?_)));left;refine .inl ⟨t,rfl,pt.l1,pt.l2,pt.all,fun H1 l p s1 _ _ _=>ai ?_⟩;left;refine .inl ⟨hy',ai ?_⟩;left;exact ⟨AA,L,M,root,t,e,rfl,i.1.same s1,rfl,pw,fun k ns h=>by rw [hf] at h;cases h;exact ⟨_,_,ha,aK,fun z=>absurd hk z,fun _=>q.of s1⟩,fun h=>absurd hf (h _ _)⟩
 | @file z t y root e k ns a th g hy hy' pw hf ha aK hk q1 q2 q3 =>
  subst hy;obtain ⟨rfl,hz,rfl,pt⟩:=g;right;refine (mI hx sf (kR i.1 hz (ai ?_)));left;refine .inl ⟨t,rfl,pt.l1,pt.l2,pt.all,fun H1 l p s1 _ _ _=>ai ?_⟩;left;refine .inl ⟨hy',ai ?_⟩;left;refine ⟨AA,L,M,root,t,e,rfl,i.1.same s1,rfl,pw,fun k' ns' h=>?_,fun h=>absurd hf (h _ _)⟩;rw [hf] at h;cases h;refine ⟨_,_,ha,aK,fun _ H2 s2=>?_,fun z=>absurd z hk⟩;have fF:=s1.trans s2;have i2:=i.1.same fF;have o2:eT T.bE H2 AA L hs:=i.2.keep (W:=[]) (.of fF) nofun;refine c8 (fun σ' H'=>σ'=[some (V.ref AA.a),some (V.str z),some (V.str (Tx.S t)),some (V.str y),some (V.int (k:Int))]/\H'=H2/\(bx ("l":Str) y=true->bx ("l":Str) (cE th z)=true)) ?_ fun σ' H' ⟨e1,e2,hl⟩=>?_
  ·left;show (if bx ("l":Str) y=true then _ else _);cases hy1:bx ("l":Str) y with
   | true=>exact bD ⟨AA,L,M,th,k,rfl,i2,rfl,hz,by symm,aK,fun h=>⟨rfl,rfl,fun _=>h⟩,fun h=>(q1 hy1 h).of fF⟩
   | false=>exact aY ⟨rfl,rfl,nofun⟩
  subst e1;subst e2;refine c8 (fun σ' H''=>σ'=[some (V.ref AA.a),some (V.str z),some (V.str (Tx.S t)),some (V.str y),some (V.int (k:Int))]/\H''=H'/\(bx ("w":Str) y=true->bx ("w":Str) (cE th z)=true)) ?_ fun σ' H'' ⟨e1,e2,hw⟩=>?_
  ·left;show (if bx ("w":Str) y=true then _ else _);cases hy1:bx ("w":Str) y with
   | true=>exact bD ⟨AA,L,M,th,k,rfl,i2,rfl,hz,by symm,aK,fun h=>⟨rfl,rfl,fun _=>h⟩,fun h=>(q2 hl hy1 h).of fF⟩
   | false=>exact aY ⟨rfl,rfl,nofun⟩
  subst e1;subst e2;obtain ⟨jx,c2,cj,iS,cq⟩:=i2.h;left;refine mI cj cq fun x dx hxn jA cM=>⟨dx,au,rfl,?_⟩;rw [jK];have s3:ah H'' (upd (upd H'' dx (.own x)) x (.ins T.bE dx (ax "rights" (.str y) (ax "thing" (.int (k:Int)) [])))):=(ah.upd jA).trans (ah.upd (by rw [ag (pp cM)];exact hxn));have i3:=i2.same s3;have o3:eT T.bE _ AA L hs:=o2.keep (W:=[]) (.of s3) nofun;have eR:x ∉ AA.w++L.flatMap Ta.l:=fun hb=>by
   obtain ⟨o,ho⟩:=i2.some x hb;rw [hxn] at ho;cases ho
  exact ⟨AA,L,M,hs,dx,k,y,rfl,i3,o3,hn,au,eR,fun H3 i4 o4 k4=>q3 hl hw x dx H3 (Am fF hxn) ⟨i4,o4⟩ ((Kp.of (fF.trans s3)).trans k4)⟩
def PD:fL K T.ck:=⟨T.Vv,T.Qt,T.V8,T.Vl,T.ab0,T.SJ,T.aci⟩
def Wk:fL K T.cF:=⟨T.WA,T.Sw,T.WW,T.RI,T.acJ,T.Z6,T.aa5⟩
def YJ:fL K T.cm:=⟨T.Xq,T.Yt,T.Qe,T.Vt,T.Qb,T.Rv,T.UK⟩
def WC:fL K T.cB:=⟨T.ach,T.aab,T.Vq,T.Uv,T.WE,T.SX,T.Z2⟩
def TH:fL K T.bJ:=⟨T.Wy,T.Pc,T.acY,T.RX,T.OJ,T.aaW,T.Wg⟩
def XA:fL K T.cw:=⟨T.adK,T.SQ,T.Uy,T.ac9,T.Zw,T.Qw,T.adA⟩
def Ll:fL K T.bZ:=⟨T.Q3,T.WT,T.Wi,T.Wq,T.S3,T.Wm,T.acB⟩
structure jG (T:Tx K mg) (C:Addr) (j:Nat):Prop where
 z:fL K C
 l:W.subIn K (.ref C) (.ref T.jy)=some true
 v:W.kitOne K (.ref C) (.type "ValueError")=some true
 k0:W.kitOne K (.ref C) (.ref T.ck)=some (j == 0)
 k1:W.kitOne K (.ref C) (.ref T.cF)=some (j == 1)
 k2:W.kitOne K (.ref C) (.ref T.ja)=some (j == 2)
 k3:W.kitOne K (.ref C) (.ref T.cm)=some (j == 3)
 k4:W.kitOne K (.ref C) (.ref T.cB)=some (j == 4)
 k5:W.kitOne K (.ref C) (.ref T.iW)=some (j == 5)
 k6:W.kitOne K (.ref C) (.ref T.fE)=some (j == 6)
 k7:W.kitOne K (.ref C) (.ref T.bJ)=some (j == 7)
 k8:W.kitOne K (.ref C) (.ref T.jc)=some (j == 8)
 k9:W.kitOne K (.ref C) (.ref T.cw)=some (j == 9)
 jr:W.kitOne K (.ref C) (.ref T.bZ)=some (j == 10)
def ac0:jG T T.ck 0:=⟨PD T,T.V3,T.ZU,T.Pj,T.aal,T.Zc,T.aao,T.QM,T.aae,T.R1,T.ab3,T.Z0,T.acU,T.Yd⟩
def abp:jG T T.cF 1:=⟨Wk T,T.Zi,T.ab8,T.UB,T.XZ,T.aah,T.Rz,T.Vf,T.XY,T.XD,T.abK,T.Pn,T.R9,T.Uz⟩
def Ts:jG T T.cm 3:=⟨YJ T,T.ZR,T.Yw,T.acs,T.Q6,T.Sr,T.aaw,T.aaX,T.Ve,T.YY,T.Ur,T.Qh,T.O0,T.W2⟩
def Rk:jG T T.cB 4:=⟨WC T,T.ZX,T.P6,T.abJ,T.aa9,T.RO,T.Xy,T.ac7,T.Z3,T.adb,T.abl,T.Ul,T.aaK,T.XX⟩
def Hi:jG T T.bJ 7:=⟨TH T,T.Pz,T.acO,T.Qc,T.P4,T.XS,T.RZ,T.aaG,T.Y1,T.WS,T.Rh,T.T3,T.OQ,T.YL⟩
def Tt:jG T T.cw 9:=⟨XA T,T.XB,T.adC,T.To,T.Pf,T.Tf,T.acW,T.VQ,T.abt,T.acm,T.ZY,T.Rx,T.SU,T.Zf⟩
def vV:jG T T.bZ 10:=⟨Ll T,T.W3,T.Zy,T.Q2,T.Pk,T.aco,T.Ra,T.Wu,T.abz,T.adB,T.OO,T.abb,T.Tc,T.U3⟩
structure Av (T:Tx K mg) (t:Value) (j:Nat):Prop where
 k0:W.kitOne K t (.ref T.ck)=some (j == 0)
 k1:W.kitOne K t (.ref T.cF)=some (j == 1)
 k2:W.kitOne K t (.ref T.ja)=some (j == 2)
 k3:W.kitOne K t (.ref T.cm)=some (j == 3)
 k4:W.kitOne K t (.ref T.cB)=some (j == 4)
 k5:W.kitOne K t (.ref T.iW)=some (j == 5)
 k6:W.kitOne K t (.ref T.fE)=some (j == 6)
 k7:W.kitOne K t (.ref T.bJ)=some (j == 7)
 k8:W.kitOne K t (.ref T.jc)=some (j == 8)
 k9:W.kitOne K t (.ref T.cw)=some (j == 9)
 jr:W.kitOne K t (.ref T.bZ)=some (j == 10)
def jG.t {T:Tx K mg} {C:Addr} {j:Nat} (x:jG T C j):Av T (.ref C) j:=⟨x.k0,x.k1,x.k2,x.k3,x.k4,x.k5,x.k6,x.k7,x.k8,x.k9,x.jr⟩
def Yh (T:Tx K mg):Av T (.type "NoneType") 11:=⟨T.Wx,T.Sa,T.UZ,T.YA,T.QJ,T.aaY,T.T7,T.Qq,T.SY,T.adM,T.ac3⟩
def gn {σ:St}:kG [] σ []:=⟨rfl,nofun⟩
def cy {j:Nat} {ix:List Nat} {σ:St} {v:V} {vs:List V} (h:σ[j]?=some (some v)) (c:kG ix σ vs):kG (j::ix) σ (v::vs):=⟨P3 (· + 1) c.1,fun i k u h1 h2=>by
 cases i with
 | zero=>cases h1;cases h2;exact h
 | succ i=>exact c.2 i k u h1 h2⟩
def F5 {tt:TT} {te:TE} {H:Hp} {Q:VK} {vs:List V} (m:Nat) (p:Nat->Bool) (f:Nat->V) (hm:m<=1000) (ht:∀ k,k < m->∀ R:Bool->Hp->Prop,R (p k) H->tt (some (.int (k:Int))::vs.map some) H R) (he:∀ k,k < m->∀ R:VK,R (f k) H->te (some (.int (k:Int))::vs.map some) H R)
  (q:∀ l,H l=none->Q (.ref l) (upd H l (.lst (((List.range m).filter p).map f)))):qu (tj 0 ((m:Int)).toNat) 1 vs (fM 0) tt te Q H:=by
 have hsz:m<=sizeLine:=fits hm;refine ⟨fun i zs k H1=>H1=H/\zs=((List.range i).filter p).map f/\i<=m/\k=m - i,⟨_,rfl,rfl,Da _,rfl⟩,?_⟩;rintro i zs k H1 ⟨rfl,rfl,hi,rfl⟩;have hlen:(((List.range i).filter p).map f).length<=i:=by rw [ss];exact wl (Pi _ _) (by simp)
 refine ⟨by omega,?_⟩;by_cases h:i < m
 ·refine .inr ⟨show i < ((m:Int)).toNat by omega,by omega,?_⟩;rintro v H' ⟨rfl,rfl⟩ σ0 hσ0;obtain ⟨a,rfl⟩:=vQ hσ0;have e0:(0+(i:Int))=(i:Int):=by omega
  refine ⟨⟨[some (.int (0+(i:Int)))],rfl,rfl⟩,?_⟩;rw [e0];refine ht i h _ ?_;cases hp:p i with
  | true =>
   rw [At rfl];exact he i h _ ⟨m - (i+1),by omega,rfl,by rw [List.range_succ,_I,Fr];simp [hp],h,rfl⟩
  | false =>
   rw [xL (by decide)];exact ⟨m - (i+1),by omega,rfl,by rw [List.range_succ,_I,Fr];simp [hp],h,rfl⟩
 ·have e:i=m:=by omega
  subst e;exact .inl ⟨show ((i:Int)).toNat<=i by omega,fun l hl=>q l hl⟩
def gD:List Str:=["asker","path","name","rights","text","tree","thing","hold","row","way","deed"]
def adz {j:Nat} (h:j < 11) (f:Nat->V):((List.range 11).filter (fun k=>j == k)).map f=[f j]:=by
 have H:∀ j < 11,(List.range 11).filter (fun k=>j == k)=[j]:=by decide
 rw [H j h];rfl
def VY (T:Tx K mg) (Q:VK) (ev:V) (t:Value) (j:Nat) (H':Hp):Prop:=(j=11/\∀ H2,ah H' H2->Q (.str "none") H2)\/(W.kitOne K t (.type "ValueError")=some true /\
 ((∃ wd:Str,(j,wd)∈[(0,("asker":Str)),(1,"path"),(3,"rights"),(4,"text"),(7,"hold"),(9,"way")]/\∀ H2,ah H' H2->Q (.str wd) H2) \/
   (j=10/\∃ ea d y,ev=.ref ea/\H' ea=some (lb ea T.bZ (some d))/\H' d=some (.xd [("reason",.str y)])/\∀ H2,ah H' H2->Q (.str y) H2)))
def zZ (T:Tx K mg) (Q:VK):XK:=fun C od H'=>∃ c j,C=.ref c/\jG T c j /\
 ((∃ wd:Str,(j,wd)∈[(0,("asker":Str)),(1,"path"),(3,"rights"),(4,"text"),(7,"hold"),(9,"way")]/\∀ H2,ah H' H2->Q (.str wd) H2) \/
   (j=10/\c=T.bZ/\∃ d y,od=some d/\H' d=some (.xd [("reason",.str y)])/\∀ H2,ah H' H2->Q (.str y) H2))
def Iu (T:Tx K mg) (bg:bW):bW:=fun H Q _=>bg H (fun _ H'=>∀ H2,ah H' H2->Q (.str "none") H2) (zZ T Q)
def nq:tw P w K mg base (bC P w) 19 T.dH.f T.dH.d ["_law_ask"] (Dh P w K mg base 18 (Iu T)):=by
 refine T.dH.F.Uc jQ (fun outer s vs H Q E h=>?_) (fun _ A outer s H vs Q E hr h=>?_)
 ·obtain ⟨f,B,bg,rfl,_⟩:=h;rfl
 ·obtain ⟨fl,B,bg,rfl,D0,hB,hf,dD⟩:=h;have D:=D0.m
  replace hf:∀ (H:Hp) (Q:VK) (E:XK),(∃ (Q0:VK) (E0:XK),bg H Q0 E0/\(∀ v H',Q0 v H'->Q v H')/\∀ C od H',E0 C od H'->E C od H')->pC H fl:=fun H Q E ⟨_,_,z,_⟩=>hf H _ _ z
  refine bK (b:=aQ yQ) ((ad (aP 1 jQ.nd aq)
   (ad (Ua 2 (K:=K) rfl ⟨rfl,rfl,rfl⟩ jQ.nd T.Pw T.abi T.Vp (fun _ _=>by exact (ao (aS (Zn 0 D hB hf hr.m TQ)))) (fun _=>by exact (ao (aP 1 jQ.nd (ac 2)))))
   (ad (aP 3 jQ.nd (cr (aa (bQ (g7 (K:=K) rfl) T.dP dJ (aa (ac 1) (aa (dl (.ref T.ck) T.LA rfl) ae))) (aa (bQ (g7 (K:=K) rfl) T.dP dJ (aa (ac 1) (aa (dl (.ref T.cF) T.zM rfl) ae))) (aa (bQ (g7 (K:=K) rfl) T.dP dJ (aa (ac 1) (aa (dl (.ref T.ja) T.OL rfl) ae))) ae)))))
   (ad (aP 3 jQ.nd (db fU (ac 3) (cr (aa (bQ (g7 (K:=K) rfl) T.dP dJ (aa (ac 1) (aa (dl (.ref T.cm) T.zQ rfl) ae))) (aa (bQ (g7 (K:=K) rfl) T.dP dJ (aa (ac 1) (aa (dl (.ref T.cB) T.FF rfl) ae))) (aa (bQ (g7 (K:=K) rfl) T.dP dJ (aa (ac 1) (aa (dl (.ref T.iW) T.YS rfl) ae))) ae))))))
   (ad (aP 3 jQ.nd (db fU (ac 3) (cr (aa (bQ (g7 (K:=K) rfl) T.dP dJ (aa (ac 1) (aa (dl (.ref T.fE) T.IX rfl) ae))) (aa (bQ (g7 (K:=K) rfl) T.dP dJ (aa (ac 1) (aa (dl (.ref T.bJ) T.Mc rfl) ae))) (aa (bQ (g7 (K:=K) rfl) T.dP dJ (aa (ac 1) (aa (dl (.ref T.jc) T.O9 rfl) ae))) ae))))))
   (ad (aP 3 jQ.nd (db fU (ac 3) (cr (aa (bQ (g7 (K:=K) rfl) T.dP dJ (aa (ac 1) (aa (dl (.ref T.cw) T.Lx rfl) ae))) (aa (bQ (g7 (K:=K) rfl) T.dP dJ (aa (ac 1) (aa (dl (.ref T.bZ) T.oh rfl) ae))) ae)))))
   (ad (aP 4 jQ.nd (cr (aa am (aa am (aa am (aa am (aa am (aa am (aa am (aa am (aa am (aa am (aa am ae)))))))))))))
   (ad (K4 5 rfl jQ.nd (TN:=["_law_k"]) (caps:=["_law_some","_law_words"]) (ix:=[3,4]) (Km T.LQ (aa bi ae)) (fun _ _ _ _=>by exact (pG (cQ (ci (bG (K:=K) rfl) (ac 1) (ac 0))))) (fun _ _ _ _=>by exact (ig 0 (show List.Nodup (["_law_k","_law_some","_law_words"]:List Str) by decide))) (fun _ _ _ _=>by exact (ci (bG (K:=K) rfl) (ac 2) (ac 0))) (.of rfl (by exact ⟨rfl,rfl,trivial⟩) (by walk_at "c") rfl (by exact ⟨⟨rfl,rfl,rfl,rfl⟩,⟨rfl,rfl,rfl,rfl⟩,trivial⟩)))
   (ad (aZ (fi (f8 (bt gq (bQ (kX (K:=K) rfl) T.jm Ps (aa (ac 5) ae)) bi) (jd (de (cQ (bQ (g7 (K:=K) rfl) T.dP dJ (aa (ac 1) (aa (iD (.ty "ValueError") T.OD RP rfl) ae)))))))) (ao (aO am)) ce)
   (ad (aZ (bt gi (ci (bG (K:=K) rfl) (ac 5) bi) am) (ao (aO (Pb T.lN (Ll T) (ac 1)))) ce)
   (ao (aO (ci (bG (K:=K) rfl) (ac 5) bi)))))))))))))) ?_
  refine stI [some (.ref fl),none,none,none,none,none] ?_;right;refine c8 (fun σ' H'=>∃ ev t fb j tt,σ'=[some (.ref fl),some ev,tt,none,none,none]/\(∀ H2,ah H' H2->rW K H2 ev t fb)/\Av T t j/\VY T Q ev t j H') ?_ ?_
  ·refine ⟨fun σ' C od H'=>σ'=[some (.ref fl),some .aq,none,none,none,none]/\zZ T Q C od H',?_,?_⟩
   ·left;exact ⟨by trivial,_,_,dD,fun v H' z=>⟨.aq,_,_,11,_,rfl,fun _ _=>.of .aq,Yh T,.inl ⟨rfl,z⟩⟩,fun C od H' z=>⟨rfl,z⟩⟩
   ·rintro σ' C od H' ⟨rfl,z⟩;obtain ⟨c,j,e,xc,z⟩:=z;cases e;refine ⟨xc.l,fun ea hea=>?_⟩;have sE:=ah.upd (o:=lb ea C od) hea;left;refine ⟨.ref ea,_,_,j,_,rfl,fun H2 s2=>.exc (s2 _ _ au) xc.z,xc.t,.inr ⟨xc.v,?_⟩⟩;rcases z with ⟨wd,hw,q⟩ | ⟨rfl,rfl,d,y,rfl,hd,q⟩
    ·exact .inl ⟨wd,hw,fun H2 s2=>q H2 (sE.trans s2)⟩
    ·exact .inr ⟨rfl,ea,d,y,rfl,au,sE _ _ hd,fun H2 s2=>q H2 (sE.trans s2)⟩
  ·rintro σ' H1 ⟨ev,t,fb,j,tt,rfl,ty,xc,z⟩;right;refine ⟨_,_,_,(ty _ (ah.refl _)),.cls xc.k0,_,_,_,(ty _ (ah.refl _)),.cls xc.k1,_,_,_,(ty _ (ah.refl _)),.cls xc.k2,fits (by simp),fun p hp=>?_⟩;refine eC hp fun H2 s2 b2=>?_;right;refine ⟨_,_,_,(ty _ s2),.cls xc.k3,_,_,_,(ty _ s2),.cls xc.k4,_,_,_,(ty _ s2),.cls xc.k5,fits (by simp),fun p3 hU=>?_⟩;simp only [(ah.upd (o:=.lst [V.bl (j == 3),V.bl (j == 4),V.bl (j == 5)]) hU) _ _ b2,au];refine ⟨fits (by simp),fun p4 iV=>?_⟩;have s4:=s2.trans ((ah.upd (o:=.lst [V.bl (j == 3),V.bl (j == 4),V.bl (j == 5)]) hU).trans (ah.upd (o:=.lst ([V.bl (j == 0),V.bl (j == 1),V.bl (j == 2)]++[V.bl (j == 3),V.bl (j == 4),V.bl (j == 5)])) iV));have b4:upd (upd H2 p3 (.lst [V.bl (j == 3),V.bl (j == 4),V.bl (j == 5)])) p4 (.lst ([V.bl (j == 0),V.bl (j == 1),V.bl (j == 2)]++[V.bl (j == 3),V.bl (j == 4),V.bl (j == 5)])) p4=some (.lst ([V.bl (j == 0),V.bl (j == 1),V.bl (j == 2)]++[V.bl (j == 3),V.bl (j == 4),V.bl (j == 5)])):=au;generalize upd (upd H2 p3 (.lst [V.bl (j == 3),V.bl (j == 4),V.bl (j == 5)])) p4 (.lst ([V.bl (j == 0),V.bl (j == 1),V.bl (j == 2)]++[V.bl (j == 3),V.bl (j == 4),V.bl (j == 5)]))=H4 at s4 b4 ⊢;generalize gv:[V.bl (j == 0),V.bl (j == 1),V.bl (j == 2)]++[V.bl (j == 3),V.bl (j == 4),V.bl (j == 5)]=x4 at b4 ⊢;have ky:x4.length=6:=by rw [<- gv];rfl
   clear b2 s2 hU iV hp;right;refine ⟨_,_,_,(ty _ s4),.cls xc.k6,_,_,_,(ty _ s4),.cls xc.k7,_,_,_,(ty _ s4),.cls xc.k8,fits (by simp),fun p5 mU=>?_⟩;simp only [(ah.upd (o:=.lst [V.bl (j == 6),V.bl (j == 7),V.bl (j == 8)]) mU) _ _ b4,au];refine ⟨fits (by simp [ky]),fun p6 u6=>?_⟩;have s6:=s4.trans ((ah.upd (o:=.lst [V.bl (j == 6),V.bl (j == 7),V.bl (j == 8)]) mU).trans (ah.upd (o:=.lst (x4++[V.bl (j == 6),V.bl (j == 7),V.bl (j == 8)])) u6));have b6:upd (upd H4 p5 (.lst [V.bl (j == 6),V.bl (j == 7),V.bl (j == 8)])) p6 (.lst (x4++[V.bl (j == 6),V.bl (j == 7),V.bl (j == 8)])) p6=some (.lst (x4++[V.bl (j == 6),V.bl (j == 7),V.bl (j == 8)])):=au;generalize upd (upd H4 p5 (.lst [V.bl (j == 6),V.bl (j == 7),V.bl (j == 8)])) p6 (.lst (x4++[V.bl (j == 6),V.bl (j == 7),V.bl (j == 8)]))=H6 at s6 b6 ⊢;generalize qU:x4++[V.bl (j == 6),V.bl (j == 7),V.bl (j == 8)]=x6 at b6 ⊢;have Oh:x6.length=9:=by rw [<- qU];simp [ky]
   clear b4 s4 mU u6;right;refine ⟨_,_,_,(ty _ s6),.cls xc.k9,_,_,_,(ty _ s6),.cls xc.jr,fits (by simp),fun p7 hp7=>?_⟩;simp only [(ah.upd (o:=.lst [V.bl (j == 9),V.bl (j == 10)]) hp7) _ _ b6,au];refine ⟨fits (by simp [Oh]),fun p8 hp8=>?_⟩;have MP:x6++[V.bl (j == 9),V.bl (j == 10)]=(List.range 11).map fun i=>V.bl (j == i):=by rw [<- qU,<- gv];rfl
   rw [MP];have s8:=s6.trans ((ah.upd (o:=.lst [V.bl (j == 9),V.bl (j == 10)]) hp7).trans (ah.upd (o:=.lst ((List.range 11).map fun i=>V.bl (j == i))) hp8));have b8:upd (upd H6 p7 (.lst [V.bl (j == 9),V.bl (j == 10)])) p8 (.lst ((List.range 11).map fun i=>V.bl (j == i))) p8=some (.lst ((List.range 11).map fun i=>V.bl (j == i))):=au;generalize upd (upd H6 p7 (.lst [V.bl (j == 9),V.bl (j == 10)])) p8 (.lst ((List.range 11).map fun i=>V.bl (j == i)))=H8 at s8 b8 ⊢;clear b6 s6 hp7 hp8 MP qU gv ky Oh;right;refine ⟨fits (by simp),fun p9 hp9=>?_⟩;have s9:=s8.trans (ah.upd (o:=.lst (gD.map V.str)) hp9);have b9:upd H8 p9 (.lst (gD.map V.str)) p9=some (.lst (gD.map V.str)):=au;have c9:=(ah.upd (o:=.lst (gD.map V.str)) hp9) _ _ b8;change nB _ _ _ _ (upd H8 p9 (.lst (gD.map V.str)));generalize upd H8 p9 (.lst (gD.map V.str))=H9 at s9 b9 c9 ⊢;clear s8 b8 hp9;right;refine ⟨[.ref p8,.ref p9],cy rfl (cy rfl gn),⟨by decide,by decide⟩,F5 11 (fun k=>j == k) (fun k=>V.str ((gD[k]?).getD "")) (by decide) (fun k hk R hR=>?_) (fun k hk R hR=>?_) (fun l hl=>?_)⟩
   ·rw [show ([V.ref p8,V.ref p9]:List V).map some=[some (V.ref p8),some (V.ref p9)] from rfl];left;simp only [bU,c9];rw [oJ (j:=k) (v:=V.bl (j == k)) (by rw [Ev,List.getElem?_range hk];rfl)];exact hR
   ·rw [show ([V.ref p8,V.ref p9]:List V).map some=[some (V.ref p8),some (V.ref p9)] from rfl];left;simp only [bU,b9];have hk':k < gD.length:=hk;rw [oJ (j:=k) (v:=V.str ((gD[k]?).getD "")) (by rw [Ev,ut hk'];rfl)];exact hR
   rcases z with ⟨rfl,q⟩ | ⟨hv,z⟩
   ·have gP:=s9.trans (ah.upd (o:=.lst []) hl);have oQ:upd H9 l (.lst []) l=some (.lst []):=au;change nB _ _ _ _ (upd H9 l (.lst []));generalize upd H9 l (.lst [])=kj at gP oQ ⊢;right;simp only [bU,oQ];exact dG (by simp) (q _ gP)
   ·have hj:j < 11:=by
     rcases z with ⟨wd,hw,_⟩ | ⟨rfl,_⟩
     ·simp only [lv,Jae,mo,wP] at hw;omega
     ·decide
    rw [adz hj];have gP:=s9.trans (ah.upd (o:=.lst [V.str ((gD[j]?).getD "")]) hl);have oQ:upd H9 l (.lst [V.str ((gD[j]?).getD "")]) l=some (.lst [V.str ((gD[j]?).getD "")]):=au;generalize upd H9 l (.lst [V.str ((gD[j]?).getD "")])=kj at gP oQ ⊢;clear s9 b9 c9 hl;right;simp only [bU,oQ];refine cD (by simp) ⟨_,_,_,ty _ gP,.ty hv,cD (by decide) ?_⟩;right;simp only [bU,oQ,iG];rcases z with ⟨wd,hw,q⟩ | ⟨rfl,ea,d,y,rfl,he,hd,q⟩
    ·have MG:(gD[j]?).getD "" = wd/\wd≠("deed":Str):=by
      simp only [lv,Jae,mo,wP] at hw;rcases hw with ⟨rfl,rfl⟩ | ⟨rfl,rfl⟩ | ⟨rfl,rfl⟩ | ⟨rfl,rfl⟩ | ⟨rfl,rfl⟩ | ⟨rfl,rfl⟩ <;> exact ⟨by symm,by symm⟩
     rw [MG.1] at oQ ⊢;refine cD (pi MG.2) ?_;left;exact q _ gP
    ·refine dG (by symm) ?_;exact ⟨ea,d,_,_,rfl,gP _ _ he,gP _ _ hd,rfl,q _ gP⟩
def Cf:Stmt->Expr
 | .If (.Compare (.Call _ (e::_) _ _) _ _ _) _ _ _=>e
 | .Return (some (.Compare (.Call _ (e::_) _ _) _ _ _)) _=>e
 | .Return (some (.BoolOp _ (_::.Compare (.Call _ (e::_) _ _) _ _ _::_) _)) _=>e
 | .Assign _ (.List (e::_) _) _=>e
 | .Expr (.Call _ (e::_) _ _) _=>e
 | _=>.Constant .none 0 ⟨0,0,0,0⟩
def uw:Expr->Scope
 | .Lambda _ _ sc _=>sc
 | _=>az ue
def LP:Expr->Arguments
 | .Lambda a _ _ _=>a
 | _=>fh ue
def AD:Expr->Expr
 | .Lambda _ b _ _=>b
 | e=>e
def LM (e:Expr) (cl:List (Str×Addr)):Lm:=⟨LP e,AD e,uw e,cl⟩
def jq {X:Cx} {k:Nat} {q:Str} {e:Expr} {cl:List (Str×Addr)} {ix:List Nat} {W:List V->bW} (N:List Str) (S:uv N (uw e) cl) (C:vY X N ix cl) (hb:∀ pm cd ct,bindArgs (PySem.W.kla_fn "<lambda>" q (LP e) (AD e) (uw e) cl pm cd ct) ⟨[],[]⟩=pure [])
  (h:∀ (f:Addr) (cdv:Value) (vs:List V) (A:Around) (outer:List Env) (s:Shared) (H:Hp) (Q:VK) (E:XK),bb k (A.deeper (PySem.W.envX q (uw e) s.heap.objs.size f cdv cl))->W vs H Q E->∃ t,PE (nU X.prog X.w X.K X.mg X.base N q (uw e) f cdv cl A outer s H E) (AD e) t/\t (vs.map some) H Q):∃ N',ui X k q (LM e cl) ix W N':=⟨N,S,C,hb,h⟩
abbrev Dl:List Str:=["_law_house","_law_held","_law_text","_law_some"]
abbrev dM:Str := "_law_refused.<locals>.<lambda>"
abbrev tI (k:Nat):Expr:=Cf ((aQ pX).getD k (.Pass ⟨0,0,0,0⟩))
abbrev vg (n:Nat):List (Str×Addr):=[("_law_house",n+1),("_law_held",n+2)]
def sM (n:Nat):Lm:=LM (tI 0) (vg n)
abbrev Zu (n:Nat):List (Str×Addr):=[("_law_text",n+3),("_law_house",n+1),("_law_held",n+2)]
def zX (n:Nat):Lm:=LM (tI 1) (Zu n)
def As (n:Nat):Lm:=LM (tI 2) (vg n)
def yD (n:Nat):Lm:=LM (tI 3) (vg n)
def zh (n:Nat):Lm:=LM (tI 4) (vg n)
abbrev AJ:List Str:=["_law_house","_law_kept","_law_source_here","_law_held","_law_text","_law_due"]
abbrev iw:Str := "_law_text_refused.<locals>.<lambda>"
abbrev HS (k:Nat):Expr:=Cf ((aQ qb).getD k (.Pass ⟨0,0,0,0⟩))
abbrev YI (n:Nat):List (Str×Addr):=[("_law_text",n+3),("_law_house",n+1),("_law_held",n+2)]
def Lk (n:Nat):Lm:=LM (HS 2) (YI n)
abbrev aaj (n:Nat):List (Str×Addr):=[("_law_house",n+1),("_law_held",n+2)]
def Gn (n:Nat):Lm:=LM (HS 4) (aaj n)
abbrev za:List Str:=["_law_house","_law_source_here","_law_path","_law_rights","_law_bad","_law_odd","_law_nobody","_law_due"]
abbrev iz:Str := "_law_hold_refused.<locals>.<lambda>"
abbrev xF (k:Nat):Expr:=Cf ((aQ px).getD k (.Pass ⟨0,0,0,0⟩))
abbrev O4 (n:Nat):List (Str×Addr):=[("_law_odd",n+4),("_law_nobody",n+3),("_law_house",n+1),("_law_bad",n+2)]
def IQ (n:Nat):Lm:=LM (xF 5) (O4 n)
abbrev X0 (n:Nat):List (Str×Addr):=[("_law_odd",n+4),("_law_house",n+1),("_law_bad",n+2)]
def Hh (n:Nat):Lm:=LM (xF 6) (X0 n)
abbrev Yn (n:Nat):List (Str×Addr):=[("_law_path",n+5),("_law_house",n+1),("_law_bad",n+2)]
def Jf (n:Nat):Lm:=LM (xF 7) (Yn n)
abbrev OG (n:Nat):List (Str×Addr):=[("_law_rights",n+6),("_law_path",n+5),("_law_house",n+1)]
def Hr (n:Nat):Lm:=LM (xF 9) (OG n)
def cz (hs:List Hw):List (Key×V):=hs.map fun e=>(.inl (e.no:Int),.str e.rg)
def LY {hs:List Hw} {k:Nat}:(aF (cz hs) (.inl (k:Int))).isSome=hs.any fun e=>e.no == k:=by
 unfold aF cz;rw [_P]
 induction hs with
 | nil=>rfl
 | cons e r ih =>
  rw [wT,PP,Wp,<- ih];by_cases h:e.no=k
  ·subst h;simp
  ·have h':¬ ((e.no:Int)=k):=by omega
   simp [h,h']
def og (hs:List Hw) (c:Nat):List V:=((List.range c).filter fun k=>!(hs.any fun e=>e.no == k)).map fun k:Nat=>V.int (k:Int)
def abr:Sp:=fun vs H Q _=>∃ st kd hs,∃ c:Nat,vs=[.ref st,.int (c:Int),.ref kd]/\c<=100/\Dr st H/\H kd=some (.dK (cz hs))/\(∀ e∈hs,e.no < c)/\∀ v H',iF hs H' v->Dr st H'->eg st H H'->Q v H'
def abm:T.qS.k P w base 3 abr:=by
 refine T.qS.F.ok JU (fun vs H Q E ⟨_,_,_,_,e,_⟩=>by rw [e];rfl) (fun cdv A outer s H vs Q E hr ⟨st,kd,hs,c,e,hc,aJ,hk,bO,q⟩=>?_);subst e;refine bK (b:=aQ zj) ((ad (aP 3 JU.nd (db fU (cr (aa (ac 1) (aa (db fU (ac 1) bi) (aa (io l6 bi) (aa aq (aa dL (aa dL (aa am (aa (db IS bi bi) (aa (cr (aa bi ae)) ae)))))))))) (B9 rfl (TN:=["_law_k"]) (caps:=["_law_kept"]) (ix:=[2]) (Km T.LQ (aa (ac 1) ae)) (fun _ _ _ _=>by exact (pG (BH (er hr) (ac 0) (ac 1)))) (fun _ _ _ _=>by exact (ig 0 (show List.Nodup (["_law_k","_law_kept"]:List Str) by decide))) (fun _ _ _ _=>by exact (ac 0)) (.of rfl (by exact ⟨rfl,trivial⟩) (by walk_at "c") rfl (by exact ⟨⟨rfl,rfl,rfl,rfl⟩,trivial⟩)))))
   (ao (aO (ci (bG (K:=K) rfl) (ac 3) (bn (gQ T) hr.m T.bT.m T.bT.F.kp T.bT.b .nil aC (aa (ac 0) (aa (bQ (kX (K:=K) rfl) T.jm Ps (aa (ac 3) ae)) ae)))))))) ?_
 refine stI [some (V.ref st),some (V.int (c:Int)),some (V.ref kd),none] ?_;right;refine ⟨by constructor <;> decide,fits (by simp),fun p hp=>⟨fits (by simp),fun p1 gO=>?_⟩⟩;have s1:=ah.upd (o:=.lst [V.int 0]) hp;have b1:upd H p (.lst [V.int 0]) p=some (.lst [V.int 0]):=au;generalize upd H p (.lst [V.int 0])=H1 at s1 b1 gO ⊢;generalize qT:[V.int (c:Int),V.int ((c:Int)+1),V.int (-1),V.aq,V.bl true,V.bl false,V.str "0",V.int (10 ^ Int.toNat 30),V.ref p]=xs;refine eC gO fun H2 s2 b2=>?_;have b2':=s2 _ _ b1;have s2':=s1.trans s2;have d2:=aJ.same s2';have k2:=s2' _ _ hk;have n2:p≠st:=aJ.ne hp;refine ⟨[.ref kd],cy rfl gn,⟨by omega,by omega⟩,F5 c (fun k=>!(hs.any fun e=>e.no == k)) (fun k:Nat=>V.int (k:Int)) (by omega) (fun k hk R hR=>?_) (fun k hk R hR=>?_) (fun l hl=>?_)⟩
 ·rw [show ([V.ref kd]:List V).map some=[some (V.ref kd)] from rfl];left;refine ⟨kd,aF (cz hs) (.inl (k:Int)),rfl,.inl ⟨_,.inl (k:Int),.inl k2,rfl,rfl⟩,?_⟩;rw [LY];exact hR
 ·rw [show ([V.ref kd]:List V).map some=[some (V.ref kd)] from rfl];left;exact hR
 rw [show ((List.range c).filter fun k=>!(hs.any fun e=>e.no == k)).map (fun k:Nat=>V.int (k:Int))=og hs c from rfl];have s3:=ah.upd (o:=.lst (og hs c)) hl;have b3:upd H2 l (.lst (og hs c)) l=some (.lst (og hs c)):=au;have hz:(og hs c).length<=c:=by
  unfold og;rw [ss];exact wl (Pi _ _) (by simp)
 generalize hzs:og hs c=zs at hz s3 b3 ⊢;generalize upd H2 l (.lst zs)=H3 at s3 b3 ⊢;have hxl:xs.length=9:=by rw [<- qT];rfl
 simp only [s3 _ _ b2,b3];refine ⟨fits (by omega),fun p4 iV=>?_⟩;refine eC iV fun H4 s4 b4=>?_;have s4':=s2'.trans (s3.trans s4);have n4:=(aJ.same (s2'.trans s3)).ne iV;have b1':=(s3.trans s4) _ _ b2';simp only [bU,b4];refine tM (aJ.same s4') (by simp;omega) (by simp;omega) fun d H5 d0 d1 h5 k5=>?_;obtain ⟨v,hv,e⟩:=pick (xs:=xs++zs) d0 (by omega);simp only [k5 _ _ n4 b4,e];refine q v H5 ?_ h5 ((s4'.keep st).trans k5);have b5:=k5 _ _ n2 b1';rcases Go.mp hv with hv | hv
 ·rw [<- qT] at hv;simp only [lv,mo,wP] at hv;rcases hv with rfl | rfl | rfl | rfl | rfl | rfl | rfl | rfl | rfl
  ·exact fun e he=>by have:=bO e he;omega
  ·exact fun e he=>by have:=bO e he;omega
  ·exact fun e he=>by omega
  ·exact ⟨⟨_,rfl⟩,nofun⟩
  ·exact ⟨⟨_,rfl⟩,nofun⟩
  ·exact ⟨⟨_,rfl⟩,nofun⟩
  ·exact ⟨⟨_,rfl⟩,nofun⟩
  ·intro e he;have:=bO e he;have h30:(1000:Int) < 10 ^ Int.toNat 30:=by decide
   omega
  ·exact ⟨⟨_,L8 b5⟩,nofun⟩
 ·rw [<- hzs] at hv;obtain ⟨k,hk,rfl⟩:=Cl.mp hv;have hk':=(W1.mp hk).2;intro e he z;have:hs.any (fun e=>e.no == k)=true:=_A.mpr ⟨e,he,by simpa using (by omega:e.no=k)⟩;rw [this] at hk';cases hk'
def zK {hs:List Hw} (h:hs.Pairwise fun a b=>a.no < b.no) {e:Hw} (he:e∈hs):aF (cz hs) (.inl (e.no:Int))=some (.str e.rg):=by
 unfold aF cz;rw [T0]
 induction hs with
 | nil=>cases he
 | cons a r ih =>
  rw [wT,PP];by_cases hn:a.no=e.no
  ·rw [HF h (LT) he hn,tz rfl];exact ⟨_,rfl,rfl⟩
  ·rw [pi fun z=>hn (by injection z;omega)];rcases lv.mp he with e1 | he
   ·exact absurd (by rw [e1]) hn
   ·exact ih (Jab.mp h).2 he
def gX {H H':Hp} {Pt:Addr} {q:Str} {es:List Ent} (t:cT H Pt q es) (k:∀ b φ,H b=some (.ext φ)->H' b=some (.ext φ)):cT H' Pt q es:=⟨k _ _ t.tab,fun e he=>k _ _ (t.code e he)⟩
def NX (H H':Hp):Prop:=∀ b o,(∀ φ,o≠.ext φ)->H b=some o->H' b=some o
def jS.dB {CT:Addr} {H H':Hp} {a:Ta} {i:Nat} {t:Th} (h:jS CT H a i t) (k:NX H H'):jS CT H' a i t where
 o:=let ⟨fs,e,r⟩:=h.o;⟨fs,k _ _ (by nofun) e,r⟩
 nm:=k _ _ (by nofun) h.nm
 pl:=k _ _ (by nofun) h.pl
def aI.dB {CH CS CT:Addr} {H H':Hp} {A:Ad} {L:List Ta} {M:Hs} (i:aI CH CS CT H A L M) (k:NX H H'):aI CH CS CT H' A L M where
 h:=let ⟨fs,c,e,r⟩:=i.h;⟨fs,c,k _ _ (by nofun) e,r⟩
 t:=let ⟨fs,c,e,r⟩:=i.t;⟨fs,c,k _ _ (by nofun) e,r⟩
 ml:=k _ _ (by nofun) i.ml
 len:=i.len
 th:=fun j t e=>let ⟨a,e1,h⟩:=i.th j t e;⟨a,e1,h.dB k⟩
 ro:=k _ _ (by nofun) i.ro
 st:=k _ _ (by nofun) i.st
 tr:=k _ _ (by nofun) i.tr
 ov:=k _ _ (by nofun) i.ov
 un:=k _ _ (by nofun) i.un
 nd:=i.nd
def eT.dB {CO:Addr} {H H':Hp} {A:Ad} {L:List Ta} {hs:List Hw} (h:eT CO H A L hs) (k:NX H H'):eT CO H' A L hs:=⟨k _ _ nofun h.d,h.n,fun e he=>k _ _ nofun (h.o e he),h.f,h.lt,h.pw⟩
def bN.dB {N:Cn} {CO:Addr} {H H':Hp} {A:Ad} {L:List Ta} {M:Hs} {hs:List Hw} (h:bN N CO H A L M hs) (k:NX H H'):bN N CO H' A L M hs:=⟨h.1.dB k,h.2.dB k⟩
def JZ {H H':Hp} (s:ah H H'):NX H H':=fun b o _ e=>s b o e
def bN.same {N:Cn} {CO:Addr} {H H':Hp} {A:Ad} {L:List Ta} {M:Hs} {hs:List Hw} (h:bN N CO H A L M hs) (s:ah H H'):bN N CO H' A L M hs:=h.dB (JZ s)
def Hz {H H':Hp} (k:NX H H') {v:V} {ty:String} (h:clsName H v=some ty):clsName H' v=some ty:=by
 cases v with
 | ref p =>
  unfold clsName at h ⊢;dsimp only at h ⊢;cases ho:H p with
  | none=>rw [ho] at h;cases h
  | some o =>
   rw [ho] at h;rw [k p o (fun φ e=>by subst e;cases h) ho];exact h
 | _=>exact h
def iF.dB {hs:List Hw} {H H':Hp} {v:V} (h:iF hs H v) (k:NX H H'):iF hs H' v:=by
 cases v with
 | int n=>exact h
 | _=>obtain ⟨⟨ty,h⟩,h2⟩:=h;exact ⟨⟨ty,Hz k h⟩,h2⟩
def Zl {Pt:Addr} {q:Str} {c:Addr} {H H1:Hp} (L:jL Pt q c H H1):c≠Pt:=fun e=>by
 obtain ⟨es,t⟩:=L.tab;have h:=L.code;rw [e,t.tab] at h;exact FD (Fa h)
structure oq (Pt:Addr) (q:Str) (l:Lm) (c:Addr) (H:Hp) (f:Addr):Prop where
 hf:H f=some (fk f q l c)
 hc:H c=some (lx c q)
 nf:f≠Pt
 nc:c≠Pt
def oq.kp {Pt:Addr} {q:Str} {l:Lm} {c:Addr} {H H':Hp} {f:Addr} (h:oq Pt q l c H f) (k:Kp [Pt] H H'):oq Pt q l c H' f:=⟨k _ _ (by simpa using h.nf) h.hf,k _ _ (by simpa using h.nc) h.hc,h.nf,h.nc⟩
def vF {Pt:Addr} {q:Str} {c:Addr} {H H1:Hp} (L:jL Pt q c H H1):Kp [Pt] H H1:=fun b o n e=>L.Di b o (by simpa using n) e
def Bz {Pt:Addr} {q:Str} {c:Addr} {H H1:Hp} {l:Lm} {f:Addr} {es:List Ent} (L:jL Pt q c H H1) (t:cT H Pt q es) (hf:H f=none) (dF:H1 f=none):oq Pt q l c (upd H1 f (fk f q l c)) f :=
 ⟨au,by rw [ag (fun z=>by (rw [<- z,L.code] at dF;cases dF))];exact L.code,(fun z=>by rw [z,t.tab] at hf;cases hf),Zl L⟩
def aak {K:ν} {l:Addr} {xs:List V} {tt:TT} {te:TE} {H:Hp} {Q:VK} {vs:List V} (hz:xs.length<=1000) (hs:aD K H l xs) (E6:∀ H1,ah H H1->aD K H1 l xs) (ht:∀ x∈xs,∀ H1,ah H H1->∀ R:Bool->Hp->Prop,(∀ H2,ah H H2->R false H2)->tt (some x::vs.map some) H1 R)
  (q:∀ l' H1,ah H H1->H1 l'=none->Q (.ref l') (upd H1 l' (.lst []))):qu (kM K l) 1 vs (fM 0) tt te Q H:=by
 have hsz:xs.length<=sizeLine:=fits hz;refine ⟨fun i zs k H1=>ah H H1/\zs=[]/\i<=xs.length/\k=xs.length - i,⟨_,ah.refl _,rfl,Da _,rfl⟩,?_⟩;rintro i zs k H1 ⟨s1,rfl,hi,rfl⟩;refine ⟨by simp,?_⟩;by_cases h:i < xs.length
 ·have hx:xs[i]?=some xs[i]:=ut h;have hm:=_y h;refine .inr ⟨⟨xs,xs[i],E6 _ s1,hx⟩,by simp;omega,?_⟩;rintro y H' ⟨rfl,hy⟩ σ0 hσ0;obtain ⟨a,rfl⟩:=vQ hσ0;have ey:y=xs[i]:=by
   have:=hy xs (E6 _ s1);rw [hx] at this;cases this;rfl
  subst ey;refine ⟨⟨[some xs[i]],rfl,rfl⟩,?_⟩;refine ht _ hm _ s1 _ fun H2 s2=>?_;rw [xL (by nofun)];exact ⟨xs.length - (i+1),by omega,s2,rfl,h,rfl⟩
 ·have e:i=xs.length:=by omega
  subst e;exact .inl ⟨⟨xs,E6 _ s1,sK _⟩,fun l' hl'=>q _ _ s1 hl'⟩
def lz (T:Tx K mg) {q:Str} {Pe:Addr} {Tb:Lm->List Nat->(List V->bW)->Prop} {l:Lm} {ix:List Nat} {W:List V->bW} {vs:List V} {σ:St} {H:Hp} {Q:VK} {E:XK} {es:List Ent} (tab:cT H Pe q es) (t:Tb l ix W) (hc:kG ix σ vs)
  (h:∀ H1 es',Kp [Pe] H H1->cT H1 Pe q es'->W vs H1 (fun _ H'=>∀ H2,ah H' H2->Q (.str "none") H2) (zZ T Q)):∃ es,cT H Pe q es/\∀ f c H1,jL Pe q c H H1->H f=none->H1 f=none->∃ f' bg,V.ref f=V.ref f'/\Io q Tb σ f' bg/\Iu T bg (upd H1 f (fk f q l c)) Q E:=by
 refine ⟨es,tab,fun f c H1 L hf dF=>⟨f,_,rfl,⟨l,c,ix,W,vs,t,hc,rfl⟩,?_⟩⟩;have la:=Bz (l:=l) L tab hf dF;obtain ⟨es',t'⟩:=L.tab;have s2:=ah.upd (o:=fk f q l c) dF;exact ⟨la.hf,la.hc,h _ es' ((vF L).trans (.of s2)) (gX t' fun b φ e=>s2 _ _ e)⟩
inductive me (T:Tx K mg) (n:Nat):Lm->List Nat->(List V->bW)->Prop
 | a0:me T n (sM n) [0,1] (js T.cn T.bE T.bJ 0)
 | a1:me T n (zX n) [0,1,2] (js T.cn T.bE T.bJ 1)
 | a2:me T n (As n) [0,1] (js T.cn T.bE T.bJ 0)
 | a3:me T n (yD n) [0,1] (js T.cn T.bE T.bJ 0)
 | a4:me T n (zh n) [0,1] (js T.cn T.bE T.bJ 0)
def u9 {N:Cn} {CO CN:Addr} {vs:List V} {H:Hp} {Q:VK} {E:XK} (h:js N CO CN 0 vs H Q E):∃ A L M hs v,vs=[.ref A.a,v]/\bN N CO H A L M hs/\iF hs H v/\∀ H',ah H H'->E (.ref CN) none H':=by
 obtain ⟨A,L,M,hs,v,r,rfl,hr,h⟩:=h;obtain rfl:=Os hr;exact ⟨A,L,M,hs,v,rfl,h⟩
def ZT {N:Cn} {CO CN:Addr} {vs:List V} {H:Hp} {Q:VK} {E:XK} (h:js N CO CN 1 vs H Q E):∃ A L M hs v x,vs=[.ref A.a,v,x]/\bN N CO H A L M hs/\iF hs H v/\∀ H',ah H H'->E (.ref CN) none H':=by
 obtain ⟨A,L,M,hs,v,r,rfl,hr,h⟩:=h;obtain ⟨x,rfl⟩:=List.length_eq_one_iff.mp hr;exact ⟨A,L,M,hs,v,x,rfl,h⟩
section
variable {f:Addr} {cdv:Value} {A:Around} {outer:List Env} {s:Shared} {H:Hp} {E:XK}
def WQ (T:Tx K mg) {l:Lm} {ix:List Nat} {W:List V->bW} (t:me T s.heap.objs.size l ix W):∃ N',ui (df (bC P w) P w K mg base Dl "_law_refused" (az pX) f cdv A outer s H E) 17 dM l ix W N':=by
 cases t with
 | a0 =>
  refine jq ["_law_house","_law_held"] (.of rfl rfl rfl (by symm) (by symm) ⟨fun _=>⟨_,rfl⟩,fun _=>⟨_,rfl⟩,(fun z=>nomatch z),trivial⟩ (by simp)) (.of rfl rfl ⟨⟨rfl,rfl,rfl⟩,⟨rfl,rfl,rfl⟩,trivial⟩ ⟨rfl,rfl,trivial⟩) (fun _ _ _=>rfl) fun f cdv vs A outer s H Q E hr h=>?_;obtain ⟨AA,L,M,hs,v,rfl,h'⟩:=u9 h;refine ⟨_,(bP (ZI T) hr.m T.pE.m T.pE.F.kp T.pE.b .nil jj (aa (ac 0) (aa (ac 1) ae))).h,?_⟩;simp only [wT,IN];left;exact ⟨AA,L,M,hs,v,[],rfl,rfl,h'⟩
 | a1 =>
  refine jq ["_law_house","_law_held","_law_text"] (.of rfl rfl rfl (by symm) (by symm) ⟨fun _=>⟨_,rfl⟩,fun _=>⟨_,rfl⟩,fun _=>⟨_,rfl⟩,(fun z=>nomatch z),trivial⟩ (by simp)) (.of rfl rfl ⟨⟨rfl,rfl,rfl⟩,⟨rfl,rfl,rfl⟩,⟨rfl,rfl,rfl⟩,trivial⟩ ⟨rfl,rfl,rfl,trivial⟩) (fun _ _ _=>rfl) fun f cdv vs A outer s H Q E hr h=>?_;obtain ⟨AA,L,M,hs,v,x,rfl,h'⟩:=ZT h;refine ⟨_,(bP (Bf T) hr.m T.iq.m T.iq.F.kp T.iq.b .nil jj (aa (ac 0) (aa (ac 1) (aa (ac 2) ae)))).h,?_⟩;simp only [wT,IN];left;exact ⟨AA,L,M,hs,v,x,rfl,h'.1,.no h'.2.1 h'.2.2⟩
 | a2 =>
  refine jq ["_law_house","_law_held"] (.of rfl rfl rfl (by symm) (by symm) ⟨fun _=>⟨_,rfl⟩,fun _=>⟨_,rfl⟩,(fun z=>nomatch z),trivial⟩ (by simp)) (.of rfl rfl ⟨⟨rfl,rfl,rfl⟩,⟨rfl,rfl,rfl⟩,trivial⟩ ⟨rfl,rfl,trivial⟩) (fun _ _ _=>rfl) fun f cdv vs A outer s H Q E hr h=>?_;obtain ⟨AA,L,M,hs,v,rfl,h'⟩:=u9 h;refine ⟨_,(bP (Rb T) hr.m T.qC.m T.qC.F.kp T.qC.b .nil jj (aa (ac 0) (aa (ac 1) ae))).h,?_⟩;simp only [wT,IN];left;exact ⟨AA,L,M,hs,v,[],rfl,rfl,h'⟩
 | a3 =>
  refine jq ["_law_house","_law_held"] (.of rfl rfl rfl (by symm) (by symm) ⟨fun _=>⟨_,rfl⟩,fun _=>⟨_,rfl⟩,(fun z=>nomatch z),trivial⟩ (by simp)) (.of rfl rfl ⟨⟨rfl,rfl,rfl⟩,⟨rfl,rfl,rfl⟩,trivial⟩ ⟨rfl,rfl,trivial⟩) (fun _ _ _=>rfl) fun f cdv vs A outer s H Q E hr h=>?_;obtain ⟨AA,L,M,hs,v,rfl,h'⟩:=u9 h;refine ⟨_,(bP (KL T) hr.m T.ly.m T.ly.F.kp T.ly.b .nil jj (aa (ac 0) (aa (ac 1) ae))).h,?_⟩;simp only [wT,IN];left;exact ⟨AA,L,M,hs,v,rfl,h'.1,.inr h'.2⟩
 | a4 =>
  refine jq ["_law_house","_law_held"] (.of rfl rfl rfl (by symm) (by symm) ⟨fun _=>⟨_,rfl⟩,fun _=>⟨_,rfl⟩,(fun z=>nomatch z),trivial⟩ (by simp)) (.of rfl rfl ⟨⟨rfl,rfl,rfl⟩,⟨rfl,rfl,rfl⟩,trivial⟩ ⟨rfl,rfl,trivial⟩) (fun _ _ _=>rfl) fun f cdv vs A outer s H Q E hr h=>?_;obtain ⟨AA,L,M,hs,v,rfl,h'⟩:=u9 h;refine ⟨_,(bP (Aj T) hr.m T.iN.m T.iN.F.kp T.iN.b .nil jj (aa (ac 0) (aa (ac 1) ae))).h,?_⟩;simp only [wT,IN];left;exact ⟨AA,L,M,hs,v,rfl,h'.1,.inr h'.2⟩
end
def Pu (T:Tx K mg) (Pe:Addr):Sp:=fun vs H Q _=>∃ A L M hs v x es,vs=[.ref A.a,v,x]/\bN T.cn T.bE H A L M hs/\iF hs H v/\cT H Pe dM es/\∀ H' es',bN T.cn T.bE H' A L M hs->cT H' Pe dM es'->Kp [Pe] H H'->Q (.bl true) H'
structure wV (T:Tx K mg) (Pe:Addr) (n:Nat) (H0:Hp) (l:Addr) (fs:List Addr) (H:Hp):Prop where
 tab:∃ es,cT H Pe dM es
 hl:H l=some (.lst (fs.map V.ref))
 nl:H0 l=none
 fN:∀ f∈fs,∃ lm c ix m,me T n lm ix (js T.cn T.bE T.bJ m)/\(ix=[0,1]/\m=0\/ix=[0,1,2]/\m=1)/\oq Pe dM lm c H f
 k:Kp [Pe] H0 H
def SH {H:Hp} {Pt:Addr} {q:Str} {es:List Ent} {l:Addr} {xs ys:List V} (t:cT H Pt q es) (hl:H l=some (.lst xs)):cT (upd H l (.lst ys)) Pt q es:=gX t fun b φ e=>by
 rw [ag (fun z=>by rw [z,hl] at e;cases e)];exact e
def K5 {Pt:Addr} {q:Str} {lm:Lm} {c:Addr} {H:Hp} {f l:Addr} {xs ys:List V} (h:oq Pt q lm c H f) (hl:H l=some (.lst xs)):oq Pt q lm c (upd H l (.lst ys)) f :=
 ⟨by rw [ag (fun z=>by have:=h.hf;rw [z,hl] at this;cases this)];exact h.hf,by rw [ag (fun z=>by have:=h.hc;rw [z,hl] at this;cases this)];exact h.hc,h.nf,h.nc⟩
def wV.add {T:Tx K mg} {Pe:Addr} {n:Nat} {H0 H H1:Hp} {l:Addr} {fs:List Addr} (j:wV T Pe n H0 l fs H) {lm:Lm} {c:Addr} {ix:List Nat} {m:Nat} {f:Addr} (t:me T n lm ix (js T.cn T.bE T.bJ m)) (hx:ix=[0,1]/\m=0\/ix=[0,1,2]/\m=1) (Ls:jL Pe dM c H H1) (hf:H f=none) (dF:H1 f=none) :
  (upd H1 f (fk f dM lm c)) l=some (.lst (fs.map V.ref))/\wV T Pe n H0 l (fs++[f]) (upd (upd H1 f (fk f dM lm c)) l (.lst (fs.map V.ref++[.ref f]))):=by
 obtain ⟨es,tab⟩:=j.tab;obtain ⟨es',tab'⟩:=Ls.tab;have s2:=ah.upd (o:=fk f dM lm c) dF;have dC:=s2 _ _ (Ls.Di l _ (fun z=>by have:=tab.tab;rw [<- z,j.hl] at this;cases this) j.hl);have t2:=gX tab' fun b φ e=>s2 _ _ e;refine ⟨dC,⟨_,SH t2 dC⟩,by rw [au,Fr];rfl,j.nl,fun g hg=>?_,fun b o hb e=>?_⟩
 ·rcases Go.mp hg with hg | hg
  ·obtain ⟨lm',c',ix',m',h1,h2,h3⟩:=j.fN g hg;exact ⟨lm',c',ix',m',h1,h2,K5 ((h3.kp (vF Ls)).kp (.of s2)) dC⟩
  ·rw [wf.mp hg];exact ⟨lm,c,ix,m,t,hx,K5 (Bz Ls tab hf dF) dC⟩
 ·rw [ag (fun z=>by rw [z,j.nl] at e;cases e)];exact s2 _ _ (vF Ls _ _ hb (j.k _ _ hb e))
def Vu {Pe:Addr} (C:PySem.W.CodeHd base T.oM Pe) (ic:base.BuiltinsAt mg Pe):aA P w K mg base (bC P w) 20 T.xT T.xZ ["_law_house","_law_held","_law_text"] (Pu T Pe):=by
 refine T.xH.Ax Hf (fun vs H Q E ⟨_,_,_,_,_,_,_,e,_⟩=>by rw [e];rfl) (fun cdv A outer s H vs Q E bo hr ⟨AA,L,M,hs,v,x,es,e,i,nh,tab,q⟩=>?_);subst e;have HD:=De (X:=df (bC P w) P w K mg base Dl "_law_refused" (az pX) T.xT cdv A outer s H E) rfl fun l ix W t=>WQ T t;refine bK (b:=aQ pX) ((ad (aP 3 Hf.nd (cr (aa (jo (q:=dM) (l:=sM s.heap.objs.size) ⟨rfl,rfl,⟨_,bo.symm.trans T.uN,C⟩,ic,by kernel_rfl⟩) ae)))
   (ad (aS (gp AT Ch iL (ac 3) (aa (jo (q:=dM) (l:=zX s.heap.objs.size) ⟨rfl,rfl,⟨_,bo.symm.trans T.uN,C⟩,ic,by kernel_rfl⟩) ae)))
   (ad (aS (gp AT Ch iL (ac 3) (aa (jo (q:=dM) (l:=As s.heap.objs.size) ⟨rfl,rfl,⟨_,bo.symm.trans T.uN,C⟩,ic,by kernel_rfl⟩) ae)))
   (ad (aS (gp AT Ch iL (ac 3) (aa (jo (q:=dM) (l:=yD s.heap.objs.size) ⟨rfl,rfl,⟨_,bo.symm.trans T.uN,C⟩,ic,by kernel_rfl⟩) ae)))
   (ad (aS (gp AT Ch iL (ac 3) (aa (jo (q:=dM) (l:=zh s.heap.objs.size) ⟨rfl,rfl,⟨_,bo.symm.trans T.uN,C⟩,ic,by kernel_rfl⟩) ae)))
   (ao (aO (em (FN (K:=K) rfl hr.kO) (abL rfl (TN:=["_law_ask"]) (caps:=[]) (ix:=[]) (oj (K:=K) rfl (ac 3)) (fun _ Ia fa=>by exact (pG (bt gq (nH (We HD _ Ia fa) (nq T) hr.m T.dH.m T.dH.F.kp T.dH.b eN (ac 0)) am))) (fun _ _ _ _=>by exact (ig 0 (show List.Nodup (["_law_ask"]:List Str) by decide))) (fun _ _ _ _=>by exact (ac 0)) (.of rfl (by exact trivial) (by walk_at "c") rfl (by exact trivial))) (cr ae)))))))))) ?_
 rw [show start Dl [V.ref AA.a,v,x]=[some (V.ref AA.a),some v,some x,none] from rfl];right;refine ⟨es,tab,fun f0 c0 H1 L1 hf0 dF=>⟨fits (by simp),fun l hl=>?_⟩⟩;have s2:=ah.upd (o:=fk f0 dM (sM s.heap.objs.size) c0) dF;have hV:H l=none:=by
  cases e:H l with
  | none=>rfl
  | some o =>
   by_cases z:l=Pe
   ·obtain ⟨xU,t1⟩:=L1.tab;rw [z,s2 _ _ t1.tab] at hl;cases hl
   ·rw [s2 _ _ (L1.Di _ _ z e)] at hl;cases hl
 have j1:wV T Pe s.heap.objs.size H l [f0] (upd (upd H1 f0 (fk f0 dM (sM s.heap.objs.size) c0)) l (.lst [V.ref f0])):=by
  obtain ⟨xU,t1⟩:=L1.tab;have s3:=ah.upd (o:=.lst [V.ref f0]) hl;refine ⟨⟨xU,gX t1 fun b φ e=>s3 _ _ (s2 _ _ e)⟩,au,hV,fun g hg=>?_,((vF L1).trans (.of s2)).trans (.of s3)⟩;rw [wf.mp hg];exact ⟨_,c0,_,0,.a0,.inl ⟨rfl,rfl⟩,(Bz L1 tab hf0 dF).kp (.of s3)⟩
 generalize upd (upd H1 f0 (fk f0 dM (sM s.heap.objs.size) c0)) l (.lst [V.ref f0])=H2 at j1 ⊢;clear hl s2 L1 dF;right;rw [j1.hl];dsimp only;obtain ⟨xU,MR⟩:=j1.tab;refine ⟨xU,MR,fun f1 c1 G1 L1 hf dF=>?_⟩;obtain ⟨dC,j2⟩:=j1.add .a1 (.inr ⟨rfl,rfl⟩) L1 hf dF;rw [dC];refine ⟨fits (by simp),?_⟩;generalize upd (upd G1 f1 (fk f1 dM (zX s.heap.objs.size) c1)) l (.lst _)=H3 at j2 ⊢;clear L1 hf dF dC MR j1;right;rw [j2.hl];dsimp only;obtain ⟨es2,M6⟩:=j2.tab;refine ⟨es2,M6,fun f2 c2 G2 L1 hf dF=>?_⟩;obtain ⟨dC,j3⟩:=j2.add .a2 (.inl ⟨rfl,rfl⟩) L1 hf dF;rw [dC];refine ⟨fits (by simp),?_⟩;generalize upd (upd G2 f2 (fk f2 dM (As s.heap.objs.size) c2)) l (.lst _)=H4 at j3 ⊢;clear L1 hf dF dC M6 j2;right;rw [j3.hl];dsimp only;obtain ⟨uR,NN⟩:=j3.tab;refine ⟨uR,NN,fun f3 c3 G3 L1 hf dF=>?_⟩;obtain ⟨dC,j4⟩:=j3.add .a3 (.inl ⟨rfl,rfl⟩) L1 hf dF;rw [dC];refine ⟨fits (by simp),?_⟩;generalize upd (upd G3 f3 (fk f3 dM (yD s.heap.objs.size) c3)) l (.lst _)=H5 at j4 ⊢;clear L1 hf dF dC NN j3;right;rw [j4.hl];dsimp only;obtain ⟨es4,NW⟩:=j4.tab;refine ⟨es4,NW,fun f4 c4 G4 L1 hf dF=>?_⟩;obtain ⟨dC,j5⟩:=j4.add .a4 (.inl ⟨rfl,rfl⟩) L1 hf dF;rw [dC];refine ⟨fits (by simp),?_⟩;generalize upd (upd G4 f4 (fk f4 dM (zh s.heap.objs.size) c4)) l (.lst _)=H6 at j5 ⊢;clear L1 hf dF dC NW j4;left;have nx:NX H H6:=fun b o no e=>j5.k b o (by rw [wf];exact fun z=>by (rw [z,tab.tab] at e;cases e;exact no _ rfl)) e;have i6:=i.dB nx;have nh6:=nh.dB nx;refine ⟨[],gn,⟨_,aD.of j5.hl⟩,aak (by simp) (aD.of j5.hl) (fun H1 s1=>aD.of (s1 _ _ j5.hl)) (fun y hy H7 s7 R hR=>?_) fun l' H7 s7 hl'=>⟨fits (by simp),fun p hp=>⟨[],[],aD.of ((ah.upd hp) _ _ au),aD.of au,.inl ⟨rfl,?_⟩⟩⟩⟩
 ·obtain ⟨f,hf,rfl⟩:=Cl.mp hy;obtain ⟨lm,c,ix,m,t,hx,la⟩:=j5.fN f hf;left;have yA:=la.kp (.of s7);have i7:=i6.same s7;have Nu:=nh6.dB (JZ s7);rcases hx with ⟨rfl,rfl⟩ | ⟨rfl,rfl⟩
  ·exact ⟨f,_,rfl,⟨lm,c,_,_,[.ref AA.a,v],t,cy rfl (cy rfl gn),rfl⟩,yA.hf,yA.hc,AA,L,M,hs,v,[],rfl,rfl,i7,Nu,fun H' s'=>⟨_,7,rfl,Hi T,.inl ⟨"hold",by symm,fun H2 s2=>show R (!decide (("hold":Str) = "hold")) H2 by rw [tz rfl];exact hR H2 ((s7.trans s').trans s2)⟩⟩⟩
  ·exact ⟨f,_,rfl,⟨lm,c,_,_,[.ref AA.a,v,x],t,cy rfl (cy rfl (cy rfl gn)),rfl⟩,yA.hf,yA.hc,AA,L,M,hs,v,[x],rfl,rfl,i7,Nu,fun H' s'=>⟨_,7,rfl,Hi T,.inl ⟨"hold",by symm,fun H2 s2=>show R (!decide (("hold":Str) = "hold")) H2 by rw [tz rfl];exact hR H2 ((s7.trans s').trans s2)⟩⟩⟩
 ·have s8:=(ah.upd (o:=.lst []) hl').trans (ah.upd (o:=.lst []) hp);have s9:=s7.trans s8;obtain ⟨ng,t5⟩:=j5.tab;exact q _ ng (i6.same s9) (gX t5 fun b φ e=>s9 _ _ e) (j5.k.trans (.of s9))
def mh:List (Str×Nat):=[("own",0),("guest",0)]
def rR:∀ z∈AS,aF (sD mh) (.inr z)=some (.int ((0:Nat):Int)):=by
 intro z hz;simp only [AS,lv,mo,wP] at hz;rcases hz with rfl | rfl <;> symm
def fw (l:List (Str×Nat)):Th:=⟨"folder","own","lgw","lg","",l,[]⟩
def hM (ts:List Th):Hs:={ ts:=ts,ro:=mh,st:=mh,tr:=[("main",0)],ov:=[],un:=[] }
def Gd.IA {M:Hs} (g:Gd M):∀ (n k:Nat) (t:Th),k<=n->M.ts[k]?=some t->gd M 0 k
 | n,k,t,hk,ht=>by
  rcases (g.th k t ht).pl with ⟨rfl,_⟩ | ⟨f,nm,tf,hf,hp,_,cU,_⟩
  ·exact .refl
  ·match n,hk with
   | 0,hk=>omega
   | n+1,hk=>exact .up ht hp (g.IA n f tf (by omega) cU)
section
variable {N:Cn} {H H':Hp} {A:Ad} {L:List Ta} {M:Hs}
def aaO {z kd mi re tx:Str} {t nm:List Nat} {q:List (List Nat)} {f:Nat} {tf t0:Th} {Q:VK} {E:XK} (i:aI N.CH N.CS N.CT H A L M) (g:Gd M) (jC:M.ro=mh) (aJ:M.st=mh) (hn:M.ts.length<=60) (hz:z∈AS) (jv:M.ts[0]?=some t0) (hp:gE t) (hq:told (Tx.words 47 t) t=q++[nm]) (cH:isNm nm=true) (hl:q.length<=4)
  (D:Pass ⟨L,M,z,true,0⟩ 0 (q.map Tx.S++[(".":Str)]) f) (hf:M.ts[f]?=some tf) (hk:tf.kd=("folder":Str)) (hw:bx ("w":Str) (cE tf z)=true) (hv:aF (sD tf.aW) (.inr (Tx.S nm))=none) (uy:mi∈eI) (mJ:re∈eI)
  (mq:∀ a H' a0,L[f]?=some a0->(∀ b∈a.l,H b=none)->aI N.CH N.CS N.CT H' A (L++[a]) { M with ts:=M.ts.set f { tf with aW:=tf.aW++[(Tx.S nm,M.ts.length)] }++[⟨kd,z,mi,re,tx,[],[(f,Tx.S nm)]⟩] }->Kp [A.t,A.ml,a0.nm] H H'->Q (.int (M.ts.length:Nat)) H'):B1 N H A L M z t kd mi re tx Q E:=by
 have rb:=rR z hz;obtain ⟨a0,eZ⟩:=adr i.len hf;have xE:kf ⟨L,M,z,true,0⟩ t (.inr (f,nm)):=abM g i.len (by omega) (by rw [jC];exact rb) (by rw [aJ];exact rb) jv D hq cH (by omega) hf hk (g.IA _ f tf (sK _) hf);refine ⟨i,hp,by rw [jC,rb];rfl,uy,mJ,by rw [i.len];omega,fun f t0 h=>by have:=(g.th f t0 h).nl;omega,0,.inr (f,nm),.free xE cH eZ hf hw hv,nofun,?_⟩;intro f' nm' a1 t1 e ha1 iP a H2 fr i2 k2;cases e;rw [hf] at iP;cases iP;exact mq a H2 a1 ha1 fr i2 k2
end
def c1:List Nat:=[111,110,101]
def c2:List Nat:=[116,119,111]
def c3:List Nat:=[99,108,111,115,101,100]
def cG:List Nat:=[103,111,110,101]
def fx (mi re tx:Str) (nm:List Nat):Th:=⟨"file","own",mi,re,tx,[],[(0,Tx.S nm)]⟩
def oG:List (Str×Nat):=[(Tx.S c1,1),(Tx.S c2,2),(Tx.S c3,3)]
def cb (x:Str):Hs:=hM [fw oG,fx "lgw" "" "one" c1,fx "lgw" "" x c2,fx "g" "lgw" "three" c3]
def g0:Gd (hM [fw []]):=by
 refine ⟨rfl,rfl,rfl,fun z hz=>⟨0,0,rR z hz,rR z hz,.refl,⟨_,rfl,rfl⟩,_,rfl,rfl⟩,by decide,by decide,⟨_,rfl,rfl⟩,fun k t ht=>?_⟩;cases k with
 | zero =>
  cases ht;exact ⟨Da _,.inl rfl,fun e=>absurd (show ("folder":Str) = "lead" from e) (by symm),.inl ⟨rfl,rfl⟩,fun z v h=>by cases h⟩
 | succ k=>simp [hM] at ht
def g1:Gd (hM [fw [(Tx.S c1,1)],fx "lgw" "" "one" c1]):=g0.make (f:=0) (nm:=Tx.S c1) (kd := "file") rfl rfl (by symm) (by symm) (.inr (.inl rfl)) (fun e=>absurd e (by symm))
def g2 (x:Str):Gd (hM [fw [(Tx.S c1,1),(Tx.S c2,2)],fx "lgw" "" "one" c1,fx "lgw" "" x c2]):=g1.make (f:=0) (nm:=Tx.S c2) (kd := "file") rfl rfl (by symm) (by symm) (.inr (.inl rfl)) (fun e=>absurd e (by symm))
def g3 (x:Str):Gd (cb x):=(g2 x).make (f:=0) (nm:=Tx.S c3) (kd := "file") rfl rfl (by symm) (by symm) (.inr (.inl rfl)) (fun e=>absurd e (by symm))
def Bq {z:Str} {l:List (Str×Nat)} (hz:z∈AS):bx ("g":Str) (cE (fw l) z)=true:=by
 simp only [AS,lv,mo,wP] at hz;rcases hz with rfl | rfl
 ·show bx ("g":Str) (if ("own":Str) = "own" then "lgw" else "lg")=true;symm
 ·show bx ("g":Str) (if ("guest":Str) = "own" then "lgw" else "lg")=true;symm
section
variable {L:List Ta} {x z:Str}
def Cz (hL:L.length=4) (hz:z∈AS) {fr:Bool}:tT ⟨L,cb x,z,true,0⟩ fr 0:=by
 have rb:=rR z hz;obtain ⟨a0,eZ⟩:=adr (M:=cb x) hL (k:=0) rfl;exact ⟨rb,0,0,[],a0,_,by cases fr with | true=>exact .inl ⟨rfl,rfl⟩ | false=>exact .inr ⟨rfl,rb⟩,eZ,rfl,(g3 x).dO 0,⟨0,(g3 x).seen hL 0 0 _ (sK _) rfl .refl⟩,rfl⟩
def KU (hL:L.length=4) (hz:z∈AS) {nm:List Nat} {k:Nat} (hk:(nm,k)∈[(c1,1),(c2,2),(c3,3)]):∃ e ns,ef ⟨L,cb x,z,true,0⟩ (47::nm) e/\e.res=.found k ns:=by
 obtain ⟨a0,eZ⟩:=adr (M:=cb x) hL (k:=0) rfl;have key:∀ {nm:List Nat} {k:Nat} {tk:Th},told (Tx.words 47 (47::nm)) (47::nm)=[nm]->(47::nm).length<=2000->(Tx.words 47 (47::nm)).all ej=true->Tx.S nm≠("..":Str)->Tx.S nm≠(".":Str)->fA (.str (Tx.S nm))=true->(Tx.S nm).length<=8->aF (sD oG) (.inr (Tx.S nm))=some (.int ((k:Nat):Int))->(cb x).ts[k]?=some tk->tk.kd=("file":Str)->∃ e ns,ef ⟨L,cb x,z,true,0⟩ (47::nm) e/\e.res=.found k ns:=by
  intro nm k tk h1 h2 h3 h4 h5 h6 h7 h8 h9 h10;have eS:tk.kd≠("folder":Str):=by rw [h10];symm
  obtain ⟨ak,gK⟩:=adr (M:=cb x) hL h9;obtain ⟨ns,cR,iR⟩:=CP (d:=⟨L,cb x,z,true,0⟩) (g3 x) hL (show 4<=90 by decide) (S:=⟨k,some (0,Tx.S nm),1,[0],[],[],0,1⟩) ⟨tk,h9,.inr ⟨eS,0,Tx.S nm,fw oG,rfl,h7,rfl,.refl⟩⟩;refine ⟨_,_,⟨by simp,h2,h3,.found (Cz hL hz) ?_ (.step (l:=[]) ?_ (.go (t:=fw oG) ⟨⟨a0,eZ⟩,rfl,rfl,Bq hz⟩ h4 h5 h6 (by omega) (.fin h8 gK h9 eS (.inl h10))) (.done rfl)) iR⟩,rfl⟩
  ·unfold gZ;rw [h1];exact (show 1<=2500 by decide)
  ·show cP (gZ (47::nm))=_;unfold gZ;rw [h1];rfl
 simp only [lv,Jae,mo,wP] at hk;rcases hk with ⟨rfl,rfl⟩ | ⟨rfl,rfl⟩ | ⟨rfl,rfl⟩
 ·exact key (tk:=fx "lgw" "" "one" c1) (by symm) (by decide) (by symm) (by symm) (by symm) (by symm) (by symm) (by symm) rfl rfl
 ·exact key (tk:=fx "lgw" "" x c2) (by symm) (by decide) (by symm) (by symm) (by symm) (by symm) (by symm) (by symm) rfl rfl
 ·exact key (tk:=fx "g" "lgw" "three" c3) (by symm) (by decide) (by symm) (by symm) (by symm) (by symm) (by symm) (by symm) rfl rfl
def RJ (hL:L.length=4) (hz:z∈AS):∃ e ns,ef ⟨L,cb x,z,true,0⟩ [47] e/\e.res=.found 0 ns:=by
 obtain ⟨ns,cR,iR⟩:=CP (d:=⟨L,cb x,z,true,0⟩) (g3 x) hL (show 4<=90 by decide) (S:=⟨0,none,0,[],[],[],0,0⟩) ⟨fw oG,rfl,.inl ⟨rfl,.refl⟩⟩;exact ⟨_,_,⟨by decide,by decide,by symm,.found (Cz hL hz) (by symm) (.done (by symm)) iR⟩,rfl⟩
def Qd (hL:L.length=4) (hz:z∈AS):∃ e,ef ⟨L,cb x,z,true,0⟩ (47::cG) e/\∀ k ns,e.res≠.found k ns:=by
 obtain ⟨a0,eZ⟩:=adr (M:=cb x) hL (k:=0) rfl;refine ⟨_,⟨by decide,by decide,by symm,.told (Cz hL hz) (by symm) (.fail (l:=[]) (p:=Tx.S cG) (by symm) (.go (t:=fw oG) ⟨⟨a0,eZ⟩,rfl,rfl,Bq hz⟩ (by symm) (by symm) (by symm) (by symm) (.no (by symm))))⟩,nofun⟩
end
def Jd {H:Hp} {st kd:Addr} {hs:List Hw} {Q:VK} {E:XK} (pw:hs.Pairwise fun a b=>a.no < b.no) (cM:hs≠[]) (hn:hs.length < 64) (hk:H kd=some (.dK (cz hs))) (aJ:Dr st H) (q:∀ e∈hs,∀ H',Dr st H'->eg st H H'->Q (.int (e.no:Int)) H') :
  Bt [.ref kd] H fun y H1=>yO [.ref kd] H1 fun n H2=>xi [.ref st,n] H2 (fun d H3=>mS K y d H3 Q) E:=by
 refine ⟨kd,_,hs.map fun e=>(e.no:Int),rfl,hk,by unfold cz;simp,by rw [ss];omega,?_,fun l hl=>?_⟩
 ·rw [List.pairwise_map];exact pw.imp fun h=>by omega
 refine eC hl fun H1 s1 b1=>?_;have nl:=aJ.ne hl;have hV:0 < hs.length:=List.length_pos_iff.mpr cM;refine ⟨kd,_,rfl,s1 _ _ hk,tM (aJ.same s1) (by unfold cz;rw [ss];omega) (by unfold cz;rw [ss];omega) fun d H2 d0 d1 h2 k2=>?_⟩;have d1':d < hs.length:=by unfold cz at d1;rw [ss] at d1;exact d1
 obtain ⟨v,hv,ev⟩:=pick (xs:=(hs.map fun e=>(e.no:Int)).map V.int) d0 (by simpa using d1');simp only [mS,bU,k2 _ _ nl b1,ev];rw [Re] at hv;obtain ⟨e,he,rfl⟩:=Cl.mp hv;exact q e he H2 h2 ((s1.keep st).trans k2)
def HW (A:Ad) (L:List Ta):List Addr:=A.w++L.flatMap Ta.l
def LG (T:Tx K mg):Sp:=fun vs H Q E=>∃ A L M hs v x,vs=[.ref A.a,v,x]/\bN T.cn T.bE H A L M hs/\pF T.cn T.bE T.bJ T.cB H A L M hs v x Q E
inductive zP (T:Tx K mg) (n:Nat):Lm->List Nat->(List V->bW)->Prop
 | a0:zP T n (Lk n) [0,3,4] (LG T)
 | a1:zP T n (Gn n) [0,3] (fun vs H Q E=>∃ h v,vs=[h,v]/\LG T [h,v,.str "text"] H Q E)
section
variable {f:Addr} {cdv:Value} {A:Around} {outer:List Env} {s:Shared} {H:Hp} {E:XK}
def TC (T:Tx K mg) {l:Lm} {ix:List Nat} {W:List V->bW} (t:zP T s.heap.objs.size l ix W):∃ N',ui (df (bC P w) P w K mg base AJ "_law_text_refused" (az qb) f cdv A outer s H E) 17 iw l ix W N':=by
 cases t with
 | a0 =>
  refine jq ["_law_house","_law_held","_law_text"] (.of rfl rfl rfl (by symm) (by symm) ⟨fun _=>⟨_,rfl⟩,fun _=>⟨_,rfl⟩,fun _=>⟨_,rfl⟩,(fun z=>nomatch z),trivial⟩ (by simp)) (.of rfl rfl ⟨⟨rfl,rfl,rfl⟩,⟨rfl,rfl,rfl⟩,⟨rfl,rfl,rfl⟩,trivial⟩ ⟨rfl,rfl,rfl,trivial⟩) (fun _ _ _=>rfl) fun f cdv vs A outer s H Q E hr h=>?_;obtain ⟨AA,L,M,hs,v,x,rfl,h'⟩:=h;refine ⟨_,(bP (Bf T) hr.m T.iq.m T.iq.F.kp T.iq.b .nil jj (aa (ac 0) (aa (ac 1) (aa (ac 2) ae)))).h,?_⟩;simp only [wT,IN];left;exact ⟨AA,L,M,hs,v,x,rfl,h'⟩
 | a1 =>
  refine jq ["_law_house","_law_held"] (.of rfl rfl rfl (by symm) (by symm) ⟨fun _=>⟨_,rfl⟩,fun _=>⟨_,rfl⟩,(fun z=>nomatch z),trivial⟩ (by simp)) (.of rfl rfl ⟨⟨rfl,rfl,rfl⟩,⟨rfl,rfl,rfl⟩,trivial⟩ ⟨rfl,rfl,trivial⟩) (fun _ _ _=>rfl) fun f cdv vs A outer s H Q E hr h=>?_;obtain ⟨hh,v,rfl,h'⟩:=h;refine ⟨_,(bP (Bf T) hr.m T.iq.m T.iq.F.kp T.iq.b .nil jj (aa (ac 0) (aa (ac 1) (aa am ae)))).h,?_⟩;simp only [wT,IN];left;exact h'
end
def WD (T:Tx K mg) (Pe:Addr):Sp:=fun vs H Q _=>∃ A L x hs kd st es,vs=[.ref A.a,.ref kd,.ref st]/\bN T.cn T.bE H A L (cb x) hs/\hs≠[]/\hs.length < 64/\(∀ e∈hs,e.th=2)/\H kd=some (.dK (cz hs))/\kd ∉ HW A L/\Dr st H/\st ∉ HW A L/\cT H Pe iw es /\
 ∀ x' H' es',bN T.cn T.bE H' A L (cb x') hs->cT H' Pe iw es'->Kp (Pe::st::HW A L) H H'->Q (.bl true) H'
def Ux {Pe:Addr} (C:PySem.W.CodeHd base T.oY Pe) (ic:base.BuiltinsAt mg Pe):aA P w K mg base (bC P w) 20 T.xQ T.xX ["_law_house","_law_kept","_law_source_here"] (WD T Pe):=by
 refine T.vA.Ax vZ (fun vs H Q E ⟨_,_,_,_,_,_,_,e,_⟩=>by rw [e];rfl) (fun cdv A outer s H vs Q E bo hr ⟨AA,L,x,hs,kd,st,es,e,i,cM,hn,h2,hk,kdn,aJ,ff,tab,q⟩=>?_);subst e;have HD:=De (X:=df (bC P w) P w K mg base AJ "_law_text_refused" (az qb) T.xQ cdv A outer s H E) rfl fun l ix W t=>TC T t;refine bK (b:=aQ qb) ((ad (aP 3 vZ.nd (ci (bG (K:=K) rfl) (bQ (wQ rfl) T.vT w9 (aa (ac 1) ae)) (bn (gQ T) hr.m T.bT.m T.bT.F.kp T.bT.b .nil aC (aa (ac 2) (aa (bQ JY T.jm Ps (aa (ac 1) ae)) ae)))))
   (ad (aP 4 vZ.nd (ci (bG (K:=K) rfl) (cr (aa (db mH am bi) (aa aq (aa bi (aa dL (aa (cr (aa am ae)) ae)))))) (bn (gQ T) hr.m T.bT.m T.bT.F.kp T.bT.b .nil aC (aa (ac 2) (aa bi ae)))))
   (ad (aZ (bt gq (nH HD (nq T) hr.m T.dH.m T.dH.F.kp T.dH.b eN (jo (q:=iw) (l:=Lk s.heap.objs.size) ⟨rfl,rfl,⟨_,bo.symm.trans T.LN,C⟩,ic,by kernel_rfl⟩)) am) (ao (aO dL)) ce)
   (ad (aP 5 vZ.nd (ci (bG (K:=K) rfl) (cr (aa am (aa am ae))) (xq Mi T.DI Bj (aa (em (pU (K:=K) rfl) am (lW (er hr) (ac 1) (ac 3))) ae))))
   (ao (aO (em gi (nH HD (nq T) hr.m T.dH.m T.dH.F.kp T.dH.b eN (jo (q:=iw) (l:=Gn s.heap.objs.size) ⟨rfl,rfl,⟨_,bo.symm.trans T.LN,C⟩,ic,by kernel_rfl⟩)) (ac 5))))))))) ?_
 rw [show start AJ [V.ref AA.a,V.ref kd,V.ref st]=[some (V.ref AA.a),some (V.ref kd),some (V.ref st),none,none,none] from rfl];refine c8 (fun σ' H'=>∃ e∈hs,σ'=[some (V.ref AA.a),some (V.ref kd),some (V.ref st),some (.int (e.no:Int)),none,none]/\Dr st H'/\eg st H H') ?_ ?_
 ·left;exact Jd i.2.pw cM hn hk aJ fun e he H1 d1 k1=>⟨e,he,rfl,d1,k1⟩
 rintro σ' H1 ⟨e,he,rfl,d1,k1⟩;refine c8 (fun σ' H'=>∃ v,σ'=[some (V.ref AA.a),some (V.ref kd),some (V.ref st),some (.int (e.no:Int)),some v,none]/\wx v=true/\(∃ ty,clsName H' v=some ty)/\Dr st H'/\eg st H H') ?_ ?_
 ·left;refine ⟨Tx.Al [116] 61 (by decide) (by decide),fits (by simp),fun p hp=>md (xs:=[V.str (Txt.mul (Str.ofString "t") 61),V.aq,V.int 7,V.bl true,V.ref p]) (d1.same (ah.upd hp)) rfl (by simp) (by simp) fun v H2 hv d2 k2=>⟨v,rfl,?_,?_,d2,(k1.trans ((ah.upd hp).keep st)).trans k2⟩⟩
  ·simp only [lv,mo,wP] at hv;rcases hv with rfl | rfl | rfl | rfl | rfl
   ·symm
   all_goals rfl
  ·simp only [lv,mo,wP] at hv;rcases hv with rfl | rfl | rfl | rfl | rfl
   ·exact ⟨_,rfl⟩
   ·exact ⟨_,rfl⟩
   ·exact ⟨_,rfl⟩
   ·exact ⟨_,rfl⟩
   ·exact ⟨_,L8 (k2 _ _ (d1.ne hp) au)⟩
 rintro σ' H2 ⟨v,rfl,bv,cv,d2,k2⟩;clear d1 k1 H1;have ik:∀ {H'},eg st H H'->bN T.cn T.bE H' AA L (cb x) hs:=fun {H'} k=>by
  have n2:∀ b,b∈AA.ho::hs.map Hw.x->b≠st:=fun b hb z=>by
   obtain ⟨x1,y1,z1,d⟩:=aJ;rcases lv.mp hb with hb | hb
   ·rw [<- z,hb,i.2.d] at d;cases d
   ·obtain ⟨e,he,rfl⟩:=Cl.mp hb;rw [<- z,i.2.o e he] at d;cases d
  exact ⟨i.1.keep (W:=[st]) (fun b o hb e=>k b o (by simpa using hb) e) fun b hb=>by rw [wf];exact fun z=>ff (z ▸ hb),⟨k _ _ (n2 _ (LT)) i.2.d,i.2.n,fun e he=>k _ _ (n2 _ (Db _ (_9 he))) (i.2.o e he),i.2.f,i.2.lt,i.2.pw⟩⟩
 have i2:=ik k2;have nPst:Pe≠st:=fun z=>by obtain ⟨x1,y1,z1,d⟩:=aJ;rw [<- z,tab.tab] at d;cases d
 have t2:cT H2 Pe iw es:=gX tab fun b φ e=>k2 b _ (fun z=>by obtain ⟨x1,y1,z1,d⟩:=aJ;rw [<- z,e] at d;cases d) e;have nkst:kd≠st:=fun z=>by obtain ⟨x1,y1,z1,d⟩:=aJ;rw [<- z,hk] at d;cases d
 have m5:=k2 _ _ nkst hk;have NZ:Kp [Pe,st] H H2:=fun b o hb e=>k2 b o (fun z=>hb (by simp [z])) e;clear k2 d2 ik;have nx:∀ {H1 H':Hp} {es:List Ent},cT H1 Pe iw es->Kp [Pe] H1 H'->NX H1 H':=fun {H1 H' es} t k b o no e=>k b o (by rw [wf];exact fun z=>by (rw [z,t.tab] at e;cases e;exact no _ rfl)) e;refine c8 (fun σ' H'=>σ'=[some (V.ref AA.a),some (V.ref kd),some (V.ref st),some (V.int e.no),some v,none]/\bN T.cn T.bE H' AA L (cb x) hs/\(∃ es,cT H' Pe iw es)/\H' kd=some (.dK (cz hs))/\Kp [Pe,st] H H') ?_ ?_
 ·left;refine lz T t2 .a0 (cy rfl (cy rfl (cy rfl gn))) fun H3 uR k3 t3=>?_;have n3:=nx t2 k3;refine ⟨AA,L,_,hs,_,_,rfl,i2.dB n3,.text he rfl (let ⟨ty,h⟩:=cv;⟨ty,Hz n3 h⟩) bv fun H' s'=>⟨_,4,rfl,Rk T,.inl ⟨"text",by symm,fun H4 s4=>?_⟩⟩⟩;refine cD (by rw [tz rfl];rfl) ?_;have xO:=s'.trans s4;exact ⟨rfl,(i2.dB n3).same xO,⟨uR,gX t3 fun b φ e=>xO _ _ e⟩,xO _ _ (n3 _ _ nofun m5),(NZ.trans (fun b o hb e=>k3 b o (fun z=>hb (by simp at z;simp [z])) e)).trans (.of xO)⟩
 rintro σ' H3 ⟨rfl,i3,⟨uR,t3⟩,rj,k3⟩;clear i2 t2 m5 NZ cv H2;right;refine ⟨fits (by simp),fun p hp=>?_⟩;refine eC hp fun H4 s4 b4=>?_;refine ⟨kd,.str e.rg,rfl,.inl ⟨_,.inl (e.no:Int),.inl (s4 _ _ rj),rfl,(zK i.2.pw he).symm⟩,?_⟩;dsimp only;simp only [bU,b4];have t4:cT H4 Pe iw uR:=gX t3 fun b φ e=>s4 _ _ e;have k4:=k3.trans (.of s4);have i4:=i3.same s4;have EZ:=h2 e he;have hL:L.length=4:=i.1.len;obtain ⟨a,ha⟩:∃ a,L[2]?=some a:=⟨_,ut (by omega)⟩;have sub:∀ {b:Addr},b ∉ Pe::st::HW AA L->b ∉ [Pe,st]/\b ∉ HW AA L:=fun {b} h=>⟨fun z=>h (by simp at z;rcases z with z | z <;> simp [z]),fun z=>h (by simp [z])⟩;change (match dv [V.str "write",V.str "none"] (if bx ("w":Str) e.rg=true then 1 else 0) with | some v_2=>_ | none=>False);cases hw:bx ("w":Str) e.rg with
 | true =>
  refine lz T t4 .a1 (cy rfl (cy rfl gn)) fun H5 ng k5 t5=>?_;have n5:=nx t4 k5;refine ⟨_,_,rfl,AA,L,_,hs,_,_,rfl,i4.dB n5,.ok (a:=a) (t:=fx "lgw" "" x c2) he rfl rfl (by symm) hw (by rw [EZ];exact ha) (by rw [EZ];rfl) fun H6 i6 o6 k6 H7 s7=>?_⟩;rw [EZ] at i6;show Q (.bl (decide (("none":Str) = "none"))) H7;rw [tz rfl];refine q "text" H7 ng (bN.same ⟨i6,o6⟩ s7) (gX t5 fun b φ e=>s7 _ _ (k6 _ _ (fun z=>?_) e)) fun b o hb e=>?_
  ·simp only [lv,mo,wP] at z;rcases z with rfl | rfl
   ·obtain ⟨gs,c,ht,_⟩:=(i4.dB n5).1.t;rw [ht] at e;cases e
   ·obtain ⟨gs,ht,_⟩:=(gj (i4.dB n5).1 ha (t:=fx "lgw" "" x c2) rfl).o;rw [ht] at e;cases e
  ·have hb':=sub hb;exact s7 _ _ (k6 _ _ (fun z=>hb'.2 (by
    simp only [lv,mo,wP] at z;rcases z with rfl | rfl
    ·simp [HW,Ad.w]
    ·exact wS _ (ir ha (by simp [Ta.l])))) (k5 _ _ (fun z=>hb'.1 (by simp at z;simp [z])) (k4 _ _ hb'.1 e)))
 | false =>
  refine lz T t4 .a1 (cy rfl (cy rfl gn)) fun H5 ng k5 t5=>?_;have n5:=nx t4 k5;refine ⟨_,_,rfl,AA,L,_,hs,_,_,rfl,i4.dB n5,.dY he rfl rfl (by symm) hw ?_⟩;refine fun d H6 s6 hd=>⟨_,10,rfl,vV T,.inr ⟨rfl,rfl,d,_,rfl,hd,fun H7 s7=>?_⟩⟩;show Q (.bl (decide (("write":Str) = "write"))) H7;rw [tz rfl];have Fw:=s6.trans s7;exact q x H7 ng ((i4.dB n5).same Fw) (gX t5 fun b φ e=>Fw _ _ e) fun b o hb e=>Fw _ _ (k5 _ _ (fun z=>(sub hb).1 (by simp at z;simp [z])) (k4 _ _ (sub hb).1 e))
def Bl (T:Tx K mg):Sp:=fun vs H Q E=>∃ A L M hs va vp vr,vs=[.ref A.a,va,vp,vr]/\bN T.cn T.bE H A L M hs/\hs.length<=1000/\oy T H A L M hs va vp vr Q E
def BG (T:Tx K mg):List V->bW:=fun vs H Q E=>∃ h o b,vs=[h,o,b]/\Bl T [h,.str "own",o,b] H Q E
inductive ug (T:Tx K mg) (n:Nat):Lm->List Nat->(List V->bW)->Prop
 | a0:ug T n (IQ n) [0,6,5,4] (Bl T)
 | a1:ug T n (Hh n) [0,5,4] (BG T)
 | a2:ug T n (Jf n) [0,2,4] (BG T)
 | a3:ug T n (Hr n) [0,2,3] (BG T)
section
variable {f:Addr} {cdv:Value} {A:Around} {outer:List Env} {s:Shared} {H:Hp} {E:XK}
def abd (T:Tx K mg) {l:Lm} {ix:List Nat} {W:List V->bW} (t:ug T s.heap.objs.size l ix W):∃ N',ui (df (bC P w) P w K mg base za "_law_hold_refused" (az px) f cdv A outer s H E) 17 iz l ix W N':=by
 cases t with
 | a0 =>
  refine jq ["_law_house","_law_nobody","_law_odd","_law_bad"] (.of rfl rfl rfl (by symm) (by symm) ⟨fun _=>⟨_,rfl⟩,fun _=>⟨_,rfl⟩,fun _=>⟨_,rfl⟩,fun _=>⟨_,rfl⟩,(fun z=>nomatch z),trivial⟩ (by simp)) (.of rfl rfl ⟨⟨rfl,rfl,rfl⟩,⟨rfl,rfl,rfl⟩,⟨rfl,rfl,rfl⟩,⟨rfl,rfl,rfl⟩,trivial⟩ ⟨rfl,rfl,rfl,rfl,trivial⟩) (fun _ _ _=>rfl) fun f cdv vs A outer s H Q E hr h=>?_;obtain ⟨AA,L,M,hs,va,vp,vr,rfl,h'⟩:=h;refine ⟨_,(bP (qE T) hr.m T.eJ.m T.eJ.F.kp T.eJ.b .nil jj (aa (ac 0) (aa (ac 1) (aa (ac 2) (aa (ac 3) ae))))).h,?_⟩;simp only [wT,IN];left;exact ⟨AA,L,M,hs,va,vp,vr,rfl,h'⟩
 | a1 =>
  refine jq ["_law_house","_law_odd","_law_bad"] (.of rfl rfl rfl (by symm) (by symm) ⟨fun _=>⟨_,rfl⟩,fun _=>⟨_,rfl⟩,fun _=>⟨_,rfl⟩,(fun z=>nomatch z),trivial⟩ (by simp)) (.of rfl rfl ⟨⟨rfl,rfl,rfl⟩,⟨rfl,rfl,rfl⟩,⟨rfl,rfl,rfl⟩,trivial⟩ ⟨rfl,rfl,rfl,trivial⟩) (fun _ _ _=>rfl) fun f cdv vs A outer s H Q E hr h=>?_;obtain ⟨hh,o,b,rfl,h'⟩:=h;refine ⟨_,(bP (qE T) hr.m T.eJ.m T.eJ.F.kp T.eJ.b .nil jj (aa (ac 0) (aa am (aa (ac 1) (aa (ac 2) ae))))).h,?_⟩;simp only [wT,IN];left;exact h'
 | a2 =>
  refine jq ["_law_house","_law_path","_law_bad"] (.of rfl rfl rfl (by symm) (by symm) ⟨fun _=>⟨_,rfl⟩,fun _=>⟨_,rfl⟩,fun _=>⟨_,rfl⟩,(fun z=>nomatch z),trivial⟩ (by simp)) (.of rfl rfl ⟨⟨rfl,rfl,rfl⟩,⟨rfl,rfl,rfl⟩,⟨rfl,rfl,rfl⟩,trivial⟩ ⟨rfl,rfl,rfl,trivial⟩) (fun _ _ _=>rfl) fun f cdv vs A outer s H Q E hr h=>?_;obtain ⟨hh,o,b,rfl,h'⟩:=h;refine ⟨_,(bP (qE T) hr.m T.eJ.m T.eJ.F.kp T.eJ.b .nil jj (aa (ac 0) (aa am (aa (ac 1) (aa (ac 2) ae))))).h,?_⟩;simp only [wT,IN];left;exact h'
 | a3 =>
  refine jq ["_law_house","_law_path","_law_rights"] (.of rfl rfl rfl (by symm) (by symm) ⟨fun _=>⟨_,rfl⟩,fun _=>⟨_,rfl⟩,fun _=>⟨_,rfl⟩,(fun z=>nomatch z),trivial⟩ (by simp)) (.of rfl rfl ⟨⟨rfl,rfl,rfl⟩,⟨rfl,rfl,rfl⟩,⟨rfl,rfl,rfl⟩,trivial⟩ ⟨rfl,rfl,rfl,trivial⟩) (fun _ _ _=>rfl) fun f cdv vs A outer s H Q E hr h=>?_;obtain ⟨hh,o,b,rfl,h'⟩:=h;refine ⟨_,(bP (qE T) hr.m T.eJ.m T.eJ.F.kp T.eJ.b .nil jj (aa (ac 0) (aa am (aa (ac 1) (aa (ac 2) ae))))).h,?_⟩;simp only [wT,IN];left;exact h'
end
def bN.drawn {N:Cn} {CO:Addr} {H H':Hp} {A:Ad} {L:List Ta} {M:Hs} {hs:List Hw} {st:Addr} (i:bN N CO H A L M hs) (ff:st ∉ HW A L) (aJ:Dr st H) (k:eg st H H'):bN N CO H' A L M hs:=by
 have n2:∀ b,b∈A.ho::hs.map Hw.x->b≠st:=fun b hb z=>by
  obtain ⟨x1,y1,z1,d⟩:=aJ;rcases lv.mp hb with hb | hb
  ·rw [<- z,hb,i.2.d] at d;cases d
  ·obtain ⟨e,he,rfl⟩:=Cl.mp hb;rw [<- z,i.2.o e he] at d;cases d
 exact ⟨i.1.keep (W:=[st]) (fun b o hb e=>k b o (by simpa using hb) e) fun b hb=>by rw [wf];exact fun z=>ff (z ▸ hb),⟨k _ _ (n2 _ (LT)) i.2.d,i.2.n,fun e he=>k _ _ (n2 _ (Db _ (_9 he))) (i.2.o e he),i.2.f,i.2.lt,i.2.pw⟩⟩
def C7:List V:=[V.str "/one",V.str "/closed",V.str "/",V.str "/gone"]
def Cq:List V:=[V.str "l",V.str "w",V.str "lgw"]
def Bw:List V:=[V.str "gl",V.aq,V.str "L",V.int 3,V.bl true,V.str "lgww"]
def zB:List V:=[V.str "",V.aq,V.str "a b",V.str "....",V.int 4,V.str "/A"]
def yS:List V:=[V.str "",V.aq,V.str "nobody",V.bl true]
def aaD {v:V} (h:v∈Bw) (H:Hp):(∃ ty,clsName H v=some ty)/\nZ v=false:=by
 simp only [Bw,lv,mo,wP] at h;rcases h with rfl | rfl | rfl | rfl | rfl | rfl <;> exact ⟨⟨_,rfl⟩,by symm⟩
def WV {v:V} (h:v∈zB) (H:Hp):vM H v:=by
 simp only [zB,lv,mo,wP] at h;rcases h with rfl | rfl | rfl | rfl | rfl | rfl
 ·exact .inl (by symm)
 ·exact ⟨_,rfl⟩
 ·exact .inr (.inr (by symm))
 ·exact .inr (.inr (by symm))
 ·exact ⟨_,rfl⟩
 ·exact .inr (.inr (by symm))
def Pl {v:V} (h:v∈yS) (H:Hp):(∃ ty,clsName H v=some ty)/\∀ z,v=.str z->aF (sD mh) (.inr z)=none:=by
 simp only [yS,lv,mo,wP] at h;rcases h with rfl | rfl | rfl | rfl
 ·exact ⟨⟨_,rfl⟩,fun z e=>by cases e;symm⟩
 ·exact ⟨⟨_,rfl⟩,nofun⟩
 ·exact ⟨⟨_,rfl⟩,fun z e=>by cases e;symm⟩
 ·exact ⟨⟨_,rfl⟩,nofun⟩
def R3 {v:V} (h:v∈C7):∃ t,v=.str (Tx.S t)/\gE t/\t∈[47::c1,47::c3,[47],47::cG]:=by
 simp only [C7,lv,mo,wP] at h;rcases h with rfl | rfl | rfl | rfl
 ·exact ⟨47::c1,by symm,⟨by decide,by decide,by symm⟩,by decide⟩
 ·exact ⟨47::c3,by symm,⟨by decide,by decide,by symm⟩,by decide⟩
 ·exact ⟨[47],by symm,⟨by decide,by decide,by symm⟩,by decide⟩
 ·exact ⟨47::cG,by symm,⟨by decide,by decide,by symm⟩,by decide⟩
def T6 {v:V} (h:v∈Cq):∃ r:Str,v=.str r/\r∈eI/\r∈[("l":Str),"w","lgw"]:=by
 simp only [Cq,lv,mo,wP] at h;rcases h with rfl | rfl | rfl <;> exact ⟨_,rfl,by symm,by symm⟩
def Mf (t:List Nat) (r:Str) (gx:Str):Prop:=t=47::c1\/(t=[47]/\gx = "folder")\/(t=47::cG/\gx = "way")\/(t=47::c3/\gx=if r=("w":Str) then ("write":Str) else "look")
def Jk (v:V):List (Key×V):=[(.inr ("/":Str),.str "folder"),(.inr ("/gone":Str),.str "way"),(.inr ("/one":Str),.str "none"),(.inr ("/closed":Str),v)]
def VT {t:List Nat} (mt:t∈[47::c1,47::c3,[47],47::cG]) (r:Str):∃ gx,aF (qc [] (Jk (.str (if r=("w":Str) then ("write":Str) else "look")))) (.inr (Tx.S t))=some (.str gx)/\Mf t r gx:=by
 simp only [lv,mo,wP] at mt;rcases mt with rfl | rfl | rfl | rfl
 ·exact ⟨"none",by kernel_rfl,.inl rfl⟩
 ·exact ⟨_,by kernel_rfl,.inr (.inr (.inr ⟨rfl,rfl⟩))⟩
 ·exact ⟨"folder",by kernel_rfl,.inr (.inl ⟨rfl,rfl⟩)⟩
 ·exact ⟨"way",by kernel_rfl,.inr (.inr (.inl ⟨rfl,rfl⟩))⟩
def adu (T:Tx K mg) (Pe:Addr):Sp:=fun vs H Q _=>∃ A L x hs st es,vs=[.ref A.a,.ref st]/\bN T.cn T.bE H A L (cb x) hs/\hs.length<=1000/\Dr st H/\st ∉ HW A L/\cT H Pe iz es /\
 ∀ H' es',bN T.cn T.bE H' A L (cb x) hs->cT H' Pe iz es'->Kp [Pe,st] H H'->Q (.bl true) H'
structure iC (T:Tx K mg) (Pe st:Addr) (H0:Hp) (A:Ad) (L:List Ta) (x:Str) (hs:List Hw) (H:Hp):Prop where
 i:bN T.cn T.bE H A L (cb x) hs
 tab:∃ es,cT H Pe iz es
 k:Kp [Pe,st] H0 H
def iC.same {T:Tx K mg} {Pe st:Addr} {H0 H H':Hp} {A:Ad} {L:List Ta} {x:Str} {hs:List Hw} (j:iC T Pe st H0 A L x hs H) (s:ah H H'):iC T Pe st H0 A L x hs H':=⟨j.i.same s,let ⟨es,t⟩:=j.tab;⟨es,gX t fun b φ e=>s _ _ e⟩,j.k.trans (.of s)⟩
def iC.lam {T:Tx K mg} {Pe st:Addr} {H0 H H':Hp} {A:Ad} {L:List Ta} {x:Str} {hs:List Hw} {es:List Ent} (j:iC T Pe st H0 A L x hs H) (k:Kp [Pe] H H') (t:cT H' Pe iz es):iC T Pe st H0 A L x hs H':=by
 obtain ⟨es0,t0⟩:=j.tab;exact ⟨j.i.dB fun b o no e=>k b o (by rw [wf];exact fun z=>by (rw [z,t0.tab] at e;cases e;exact no _ rfl)) e,⟨es,t⟩,j.k.trans fun b o hb e=>k b o (fun z=>hb (by simp at z;simp [z])) e⟩
def QD {Pe:Addr} (C:PySem.W.CodeHd base T.pj Pe) (ic:base.BuiltinsAt mg Pe):aA P w K mg base (bC P w) 20 T.yk T.ye ["_law_house","_law_source_here"] (adu T Pe):=by
 refine T.vW.Ax n6 (fun vs H Q E ⟨_,_,_,_,_,_,e,_⟩=>by rw [e];rfl) (fun cdv A outer s H vs Q E bo hr ⟨AA,L,x,hs,st,es,e,i,hn,aJ,ff,tab,q⟩=>?_);subst e;have HD:=De (X:=df (bC P w) P w K mg base za "_law_hold_refused" (az px) T.yk cdv A outer s H E) rfl fun l ix W t=>abd T t;refine bK (b:=aQ px) ((ad (aP 2 n6.nd (ci (bG (K:=K) rfl) (cr (aa am (aa am (aa am (aa am ae))))) (bn (gQ T) hr.m T.bT.m T.bT.F.kp T.bT.b .nil aC (aa (ac 1) (aa bi ae)))))
   (ad (aP 3 n6.nd (ci (bG (K:=K) rfl) (cr (aa am (aa am (aa am ae)))) (bn (gQ T) hr.m T.bT.m T.bT.F.kp T.bT.b .nil aC (aa (ac 1) (aa bi ae)))))
   (ad (aP 4 n6.nd (ci (bG (K:=K) rfl) (cr (aa am (aa aq (aa am (aa bi (aa dL (aa am ae))))))) (bn (gQ T) hr.m T.bT.m T.bT.F.kp T.bT.b .nil aC (aa (ac 1) (aa bi ae)))))
   (ad (aP 5 n6.nd (ci (bG (K:=K) rfl) (cr (aa am (aa aq (aa am (aa am (aa bi (aa am ae))))))) (bn (gQ T) hr.m T.bT.m T.bT.F.kp T.bT.b .nil aC (aa (ac 1) (aa bi ae)))))
   (ad (aP 6 n6.nd (ci (bG (K:=K) rfl) (cr (aa am (aa aq (aa am (aa dL ae))))) (bn (gQ T) hr.m T.bT.m T.bT.F.kp T.bT.b .nil aC (aa (ac 1) (aa bi ae)))))
   (ad (aZ (bt gq (nH HD (nq T) hr.m T.dH.m T.dH.F.kp T.dH.b eN (jo (q:=iz) (l:=IQ s.heap.objs.size) ⟨rfl,rfl,⟨_,bo.symm.trans T.wc,C⟩,ic,by kernel_rfl⟩)) am) (ao (aO dL)) ce)
   (ad (aZ (bt gq (nH HD (nq T) hr.m T.dH.m T.dH.F.kp T.dH.b eN (jo (q:=iz) (l:=Hh s.heap.objs.size) ⟨rfl,rfl,⟨_,bo.symm.trans T.wc,C⟩,ic,by kernel_rfl⟩)) am) (ao (aO dL)) ce)
   (ad (aZ (bt gq (nH HD (nq T) hr.m T.dH.m T.dH.F.kp T.dH.b eN (jo (q:=iz) (l:=Jf s.heap.objs.size) ⟨rfl,rfl,⟨_,bo.symm.trans T.wc,C⟩,ic,by kernel_rfl⟩)) am) (ao (aO dL)) ce)
   (ad (aP 7 n6.nd (lW (er hr) (Rg (wD am am (wD am am (wD am am (wD am (ci (bG (K:=K) rfl) (cr (aa am (aa am ae))) (xq Mi T.DI Bj (aa (em gi (ac 3) am) ae))) ZM))))) (ac 2)))
   (ao (aO (Mq (em gi (ac 2) am) (ii (em gi (nH HD (nq T) hr.m T.dH.m T.dH.F.kp T.dH.b eN (jo (q:=iz) (l:=Hr s.heap.objs.size) ⟨rfl,rfl,⟨_,bo.symm.trans T.wc,C⟩,ic,by kernel_rfl⟩)) (ac 7)))))))))))))))) ?_
 rw [show start za [V.ref AA.a,V.ref st]=[some (V.ref AA.a),some (V.ref st),none,none,none,none,none,none] from rfl];right;refine md (xs:=C7) aJ rfl (by decide) (by decide) fun vp H1 hvp d1 k1=>?_;right;refine md (xs:=Cq) d1 rfl (by decide) (by decide) fun vr H2 hvr d2 k2=>?_;right;refine md (xs:=Bw) d2 rfl (by decide) (by decide) fun vb H3 hvb d3 k3=>?_;right;refine md (xs:=zB) d3 rfl (by decide) (by decide) fun vo H4 hvo d4 k4=>?_;right;refine md (xs:=yS) d4 rfl (by decide) (by decide) fun vn H5 hvn d5 k5=>?_;have yh:=(((k1.trans k2).trans k3).trans k4).trans k5;have j5:iC T Pe st H AA L x hs H5:=⟨i.drawn ff aJ yh,⟨es,gX tab fun b φ e=>yh b _ (fun z=>by obtain ⟨x1,y1,z1,d⟩:=aJ;rw [<- z,e] at d;cases d) e⟩,fun b o hb e=>yh b o (fun z=>hb (by simp [z])) e⟩;clear d1 k1 d2 k2 d3 k3 d4 k4 d5 k5 yh H1 H2 H3 H4;have hL:L.length=4:=i.1.len;obtain ⟨t,rfl,pt,mt⟩:=R3 hvp;obtain ⟨r,rfl,jB,yv⟩:=T6 hvr;have Nk:(aF (sD (cb x).ro) (.inr ("own":Str))).isSome=true:=by show (aF (sD mh) (.inr ("own":Str))).isSome=true;symm
 have ga:uG (cb x) (.str "own") (.str (Tx.S t)) "own" t:=⟨rfl,Nk,rfl,pt⟩;refine c8 (fun σ' H'=>σ'=[some (V.ref AA.a),some (V.ref st),some (.str (Tx.S t)),some (.str r),some vb,some vo,some vn,none]/\iC T Pe st H AA L x hs H') ?_ ?_
 ·obtain ⟨ng,t5⟩:=j5.tab;left;refine lz T t5 .a0 (cy rfl (cy rfl (cy rfl (cy rfl gn)))) fun H6 es6 k6 t6=>?_;have j6:=j5.lam k6 t6;have nb:=Pl hvn H6;refine ⟨AA,L,_,hs,_,_,_,rfl,j6.i,hn,.bad (.vx nb.1 nb.2) fun H' s'=>⟨_,0,rfl,ac0 T,.inl ⟨"asker",by symm,fun H7 s7=>?_⟩⟩⟩;refine cD (by rw [tz rfl];rfl) ?_;exact ⟨rfl,j6.same (s'.trans s7)⟩
 rintro σ' H6 ⟨rfl,j6⟩;clear j5 H5;refine c8 (fun σ' H'=>σ'=[some (V.ref AA.a),some (V.ref st),some (.str (Tx.S t)),some (.str r),some vb,some vo,some vn,none]/\iC T Pe st H AA L x hs H') ?_ ?_
 ·obtain ⟨ng,t5⟩:=j6.tab;left;refine lz T t5 .a1 (cy rfl (cy rfl (cy rfl gn))) fun H7 es6 k6 t6=>?_;have j7:=j6.lam k6 t6;refine ⟨_,_,_,rfl,AA,L,_,hs,_,_,_,rfl,j7.i,hn,.bad (.path rfl Nk (WV hvo H7)) fun H' s'=>⟨_,1,rfl,abp T,.inl ⟨"path",by symm,fun H8 s8=>?_⟩⟩⟩;refine cD (by rw [tz rfl];rfl) ?_;exact ⟨rfl,j7.same (s'.trans s8)⟩
 rintro σ' H7 ⟨rfl,j7⟩;clear j6 H6;refine c8 (fun σ' H'=>σ'=[some (V.ref AA.a),some (V.ref st),some (.str (Tx.S t)),some (.str r),some vb,some vo,some vn,none]/\iC T Pe st H AA L x hs H') ?_ ?_
 ·obtain ⟨ng,t5⟩:=j7.tab;left;refine lz T t5 .a2 (cy rfl (cy rfl (cy rfl gn))) fun H8 es6 k6 t6=>?_;have j8:=j7.lam k6 t6;have bd:=aaD hvb H8;refine ⟨_,_,_,rfl,AA,L,_,hs,_,_,_,rfl,j8.i,hn,.FY ga bd.1 bd.2 fun H' s'=>⟨_,3,rfl,Ts T,.inl ⟨"rights",by symm,fun H9 s9=>?_⟩⟩⟩;refine cD (by rw [tz rfl];rfl) ?_;exact ⟨rfl,j8.same (s'.trans s9)⟩
 rintro σ' H8 ⟨rfl,j8⟩;clear j7 H7;refine c8 (fun σ' H'=>∃ gx:Str,σ'=[some (V.ref AA.a),some (V.ref st),some (.str (Tx.S t)),some (.str r),some vb,some vo,some vn,some (.str gx)]/\iC T Pe st H AA L x hs H'/\Mf t r gx) ?_ ?_
 ·left;intro p hp;dsimp only [vj];left;refine ⟨fits (by simp),fun p1 gO=>?_⟩;have b0:upd H8 p (.dK []) p=some (.dK []):=au;have s0:=ah.upd (o:=.dK []) hp;generalize upd H8 p (.dK [])=G0 at b0 s0 gO ⊢;refine eC gO fun G1 s1 b1=>?_;have b01:=s1 _ _ b0;simp only [bU,b1];have El:dv [V.str "look",V.str "write"] (if decide (r=Str.ofString "w")=true then 1 else 0)=some (.str (if r=("w":Str) then ("write":Str) else "look")):=by
   by_cases h:r=("w":Str)
   ·rw [tz h,At rfl,At h];rfl
   ·rw [pi h,xL (by decide),xL h];rfl
  rw [El];obtain ⟨gx,hd1,hd2⟩:=VT mt r;refine ⟨b01,Jk (.str (if r=("w":Str) then ("write":Str) else "look")),rfl,(show 4<=15 by decide),p,.str gx,rfl,.inl ⟨_,.inr (Tx.S t),.inl au,rfl,hd1.symm⟩,gx,rfl,?_,hd2⟩;exact j8.same fun b o e=>by
   rw [ag (fun z=>by rw [z,hp] at e;cases e)];exact s1 _ _ (s0 _ _ e)
 rintro σ' H9 ⟨gx,rfl,j9,hd⟩;clear j8 H8;left;obtain ⟨es9,t9⟩:=j9.tab;have E9:("own":Str)∈AS:=by symm
 have fin:∀ {H':Hp} {y:Str},iC T Pe st H AA L x hs H'->y=gx->Q (.bl (decide (y=gx))) H':=fun {H' y} j e=>by
  rw [tz e];obtain ⟨es',t'⟩:=j.tab;exact q _ es' j.i t' j.k
 rcases hd with rfl | ⟨rfl,rfl⟩ | ⟨rfl,rfl⟩ | ⟨rfl,M9⟩
 ·exact dG (by symm) (q _ es9 j9.i t9 j9.k)
 ·refine cD (by symm) (lz T t9 .a3 (cy rfl (cy rfl (cy rfl gn))) fun kj es10 jr oV=>?_);have lH:=j9.lam jr oV;obtain ⟨e,ns,pw,hf⟩:=RJ (x:=x) hL E9;obtain ⟨a0,eZ⟩:=adr (M:=cb x) hL (k:=0) rfl;exact ⟨_,_,_,rfl,AA,L,_,hs,_,_,_,rfl,lH.i,hn,.folder ga rfl jB pw hf eZ (th:=fw oG) rfl rfl fun d H11 pa hd=>⟨_,10,rfl,vV T,.inr ⟨rfl,rfl,d,_,rfl,hd,fun H12 fF=>fin (lH.same (pa.trans fF)) rfl⟩⟩⟩
 ·refine cD (by symm) (lz T t9 .a3 (cy rfl (cy rfl (cy rfl gn))) fun kj es10 jr oV=>?_);have lH:=j9.lam jr oV;obtain ⟨e,pw,hf⟩:=Qd (x:=x) hL E9;exact ⟨_,_,_,rfl,AA,L,_,hs,_,_,_,rfl,lH.i,hn,.way ga rfl jB pw hf fun fd d H11 pa _ hd=>⟨_,9,rfl,Tt T,.inl ⟨"way",by symm,fun H12 fF=>fin (lH.same (pa.trans fF)) rfl⟩⟩⟩
 ·refine cD (by symm) (lz T t9 .a3 (cy rfl (cy rfl (cy rfl gn))) fun kj es10 jr oV=>?_);have lH:=j9.lam jr oV;obtain ⟨e,ns,pw,hf⟩:=KU (x:=x) hL E9 (nm:=c3) (k:=3) (by decide);obtain ⟨a3,ha3⟩:=adr (M:=cb x) hL (k:=3) rfl;have m1:cE (fx "g" "lgw" "three" c3) "own" = "g" := At rfl;refine ⟨_,_,_,rfl,AA,L,_,hs,_,_,_,rfl,lH.i,hn,.file ga rfl jB pw hf ha3 (th:=fx "g" "lgw" "three" c3) rfl (by symm) (fun h1 _ d H11 pa hd=>⟨_,10,rfl,vV T,.inr ⟨rfl,rfl,d,_,rfl,hd,fun H12 fF=>fin (lH.same (pa.trans fF)) ?_⟩⟩) (fun h1 _ _ d H11 pa hd=>⟨_,10,rfl,vV T,.inr ⟨rfl,rfl,d,_,rfl,hd,fun H12 fF=>fin (lH.same (pa.trans fF)) ?_⟩⟩) fun h1 h2=>?_⟩
  ·rw [M9,xL];rintro rfl;exact absurd h1 (by symm)
  ·rw [m1] at h1;rw [M9,At];simp only [lv,mo,wP] at yv;rcases yv with rfl | rfl | rfl
   ·exact absurd (h1 (by symm)) (by symm)
   ·rfl
   ·exact absurd (h1 (by symm)) (by symm)
  ·rw [m1] at h1 h2;simp only [lv,mo,wP] at yv;rcases yv with rfl | rfl | rfl
   ·exact absurd (h1 (by symm)) (by symm)
   ·exact absurd (h2 (by symm)) (by symm)
   ·exact absurd (h1 (by symm)) (by symm)
def Hl (xs:List V):Prop:=∀ v∈xs,∀ a,v≠V.ref a
def Ig (zs:List Int):Hl (zs.map V.int):=fun v hv a=>by obtain ⟨z,_,rfl⟩:=Cl.mp hv;nofun
def sL:HO->Prop
 | .lst xs=>Hl xs
 | .cO _ _=>True
 | .tup _=>True
 | .ext _=>True
 | _=>False
def lQ (H H':Hp):Prop:=∀ c o,sL o->H c=some o->H' c=some o
def lQ.trans {H H1 H2:Hp} (a:lQ H H1) (b:lQ H1 H2):lQ H H2:=fun c o h e=>b c o h (a c o h e)
section
variable {CH CS CT:Addr} {H H':Hp} {A:Ad} {L:List Ta} {M:Hs}
def aI.vK (i:aI CH CS CT H A L M) (h0:M.ts≠[]) {b:Addr} {o:HO} (hb:b∈A.w++L.flatMap Ta.l) (hx:sL o) (e:H b=Option.some o):False:=by
 rcases Go.mp hb with h | h
 ·simp only [Ad.w,lv,mo,wP] at h;rcases h with rfl | rfl | rfl | rfl | rfl | rfl | rfl | rfl
  ·obtain ⟨_,_,e',_⟩:=i.h;rw [e'] at e;cases e;exact hx
  ·obtain ⟨_,_,e',_⟩:=i.t;rw [e'] at e;cases e;exact hx
  ·rw [i.ml] at e;cases e;cases L with
   | nil=>exact h0 (Tm.mp i.len.symm)
   | cons a r=>exact hx (.ref a.th) (by simp) a.th rfl
  ·rw [i.ro] at e;cases e;exact hx
  ·rw [i.st] at e;cases e;exact hx
  ·rw [i.tr] at e;cases e;exact hx
  ·rw [i.ov] at e;cases e;exact hx
  ·rw [i.un] at e;cases e;exact hx
 ·obtain ⟨a,ha,h⟩:=List.mem_flatMap.mp h;obtain ⟨j,ha⟩:=List.getElem?_of_mem ha;have bO:j < M.ts.length:=by rw [<- i.len];exact (ul.mp ha).1
  obtain ⟨a',e1,t⟩:=i.th j _ (ut bO);rw [ha] at e1;cases e1;simp only [Ta.l,lv,mo,wP] at h;rcases h with rfl | rfl | rfl
  ·obtain ⟨_,e',_⟩:=t.o;rw [e'] at e;cases e;exact hx
  ·rw [t.nm] at e;cases e;exact hx
  ·rw [t.pl] at e;cases e;exact hx
def aI.off (i:aI CH CS CT H A L M) (h0:M.ts≠[]) {W:List Addr} (hW:∀ b∈W,b∈A.w++L.flatMap Ta.l) (k:Kp W H H'):lQ H H':=fun c o ho e=>k c _ (fun hc=>i.vK h0 (hW c hc) ho e) e
end
def TS (tl:List (Addr×Str)) (H:Hp):Prop:=∀ p∈tl,∃ es,cT H p.1 p.2 es
def TS.kp {tl:List (Addr×Str)} {H H':Hp} (h:TS tl H) (k:∀ c φ,H c=some (.ext φ)->H' c=some (.ext φ)):TS tl H':=fun p hp=>let ⟨es,t⟩:=h p hp;⟨es,gX t k⟩
def TS.ka {tl:List (Addr×Str)} {H H':Hp} (h:TS tl H) (k:lQ H H'):TS tl H':=h.kp fun _ _ e=>k _ _ trivial e
def TS.step {tl:List (Addr×Str)} {H H':Hp} {P:Addr} {q:Str} (h:TS tl H) (nd:(tl.map (·.1)).Nodup) (hm:(P,q)∈tl) (k:∀ c φ,c≠P->H c=some (.ext φ)->H' c=some (.ext φ)) (t':∃ es,cT H' P q es):TS tl H':=fun p hp=>by
 by_cases e:p.1=P
 ·obtain rfl:p=(P,q):=by
   obtain ⟨a,ha,h1⟩:=_h hp;obtain ⟨b,hb,h2⟩:=_h hm;have:a=b:=by
    rcases Nat.lt_trichotomy a b with h | h | h
    ·exact ((List.pairwise_iff_getElem.mp nd) a b (by simpa using ha) (by simpa using hb) h (by rw [_W,_W,h1,h2];exact e)).elim
    ·exact h
    ·exact ((List.pairwise_iff_getElem.mp nd) b a (by simpa using hb) (by simpa using ha) h (by rw [_W,_W,h1,h2];exact e.symm)).elim
   subst this;exact h1.symm.trans h2
  exact t'
 ·obtain ⟨es,t⟩:=h p hp;obtain ⟨es0,t0⟩:=h _ hm;exact ⟨es,k _ _ e t.tab,fun x hx=>k _ _ (fun z=>by
   have c:=t.code x hx;rw [z,t0.tab] at c;exact FD (Fa c)) (t.code x hx)⟩
def TS.ne {tl:List (Addr×Str)} {H:Hp} (h:TS tl H) {p:Addr×Str} (hp:p∈tl) {b:Addr} {o:HO} (no:∀ φ,o≠.ext φ) (e:H b=some o):b≠p.1:=fun z=>by
 obtain ⟨es,t⟩:=h p hp;rw [z,t.tab] at e;cases e;exact no _ rfl
def y6 (K:ν) (tabs:nS):Sp:=lL fun a H Q _=>A3 (∃ ns:List Int,aD K H a (ns.map V.int)) (oz tabs H) (∀ H',xb tabs H'->Q (.bl true) H')
def n8 (K:ν) (H:Hp) (a:Addr) (ns:List Int):Prop:=(∀ J,aD K J a (ns.map V.int))\/∃ o,H a=some (.cO o (.lst (ns.map V.int)))
def n8.sq {H:Hp} {a:Addr} {ns:List Int} (h:n8 K H a ns):aD K H a (ns.map V.int):=by
 rcases h with h | h
 ·exact h H
 ·exact .inl (.inr h)
def n8.kp {H H':Hp} {a:Addr} {ns:List Int} (h:n8 K H a ns) (k:∀ o,H a=some (.cO o (.lst (ns.map V.int)))->H' a=some (.cO o (.lst (ns.map V.int)))):n8 K H' a ns:=by
 rcases h with h | ⟨o,h⟩
 ·exact .inl h
 ·exact .inr ⟨o,k _ h⟩
def Z9 (ns:List Int) (lo:Option Int) (k:Nat):∃ ms:List Int,gA (ns.map V.int) lo (some (k:Int))=ms.map V.int/\ms.length<=k:=by
 refine ⟨((ns.drop (HT.dR (ns.map V.int).length 0 lo)).take (HT.dR (ns.map V.int).length (ns.map V.int).length (some (k:Int)) - HT.dR (ns.map V.int).length 0 lo)),?_,?_⟩
 ·unfold gA;rw [<- List.map_drop,<- List.map_take]
 ·rw [_x,HT.Az];omega
structure LJ (T:Tx K mg) (tl:List (Addr×Str)) (kd ll:Addr) (zs:List Int) (A:Ad) (L:List Ta) (c:Nat) (hs:List Hw) (x:Str) (H:Hp):Prop where
 i:bN T.cn T.bE H { A with hg:=c } L (cb x) hs
 th:∀ e∈hs,e.th=2
 d:H kd=some (.dK (cz hs))
 nk:kd ∉ HW A L
 kT:kd≠A.ho
 nc:c<=39
 m:hs.length<=c
 ts:TS tl H
 l:H ll=some (.lst (zs.map V.int))
section
variable {T:Tx K mg} {tl:List (Addr×Str)} {kd ll:Addr} {zs:List Int} {A:Ad} {L:List Ta} {c:Nat} {hs:List Hw} {x:Str} {H H':Hp}
def LJ.same (j:LJ T tl kd ll zs A L c hs x H) (s:ah H H'):LJ T tl kd ll zs A L c hs x H':=⟨j.i.same s,j.th,s _ _ j.d,j.nk,j.kT,j.nc,j.m,j.ts.kp fun _ _ e=>s _ _ e,s _ _ j.l⟩
def LJ.ff (j:LJ T tl kd ll zs A L c hs x H) {st:Addr} (h:H st=none):st ∉ HW A L:=fun hb=>by
 obtain ⟨o,ho⟩:=j.i.1.some st hb;rw [h] at ho;cases ho
def LJ.drawn (j:LJ T tl kd ll zs A L c hs x H) {st:Addr} (ff:st ∉ HW A L) (nl:ll≠st) (d:Dr st H) (k:eg st H H'):LJ T tl kd ll zs A L c hs x H':=by
 have n2:∀ {b:Addr} {o:HO},(∀ xs,o≠.lst xs)->H b=some o->b≠st:=fun {b o} no e z=>by
  obtain ⟨x1,y1,z1,d⟩:=d;rw [z,d] at e;cases e;exact no _ rfl
 exact ⟨j.i.drawn ff d k,j.th,k _ _ (n2 (by nofun) j.d) j.d,j.nk,j.kT,j.nc,j.m,j.ts.kp fun b φ e=>k _ _ (n2 (by nofun) e) e,k _ _ nl j.l⟩
def LJ.off (j:LJ T tl kd ll zs A L c hs x H) {W:List Addr} (hW:∀ b∈W,b∈A.ho::HW A L) (k:Kp W H H'):H' kd=some (.dK (cz hs))/\TS tl H'/\H' ll=some (.lst (zs.map V.int)):=by
 have key:∀ {b:Addr} {o:HO},sL o->H b=some o->b ∉ W:=fun {b o} ho e hb=>by
  rcases lv.mp (hW b hb) with z | z
  ·rw [z,j.i.2.d] at e;cases e;exact ho
  ·exact j.i.1.vK (by nofun) z ho e
 exact ⟨k _ _ (fun z=>by rcases lv.mp (hW _ z) with z | z;exact j.kT z;exact j.nk z) j.d,j.ts.kp fun b φ e=>k _ _ (key (o:=.ext φ) trivial e) e,k _ _ (key (show sL (.lst _) from Ig zs) j.l) j.l⟩
end
def Qi {hs:List Hw} {e:Hw} (h:∀ u∈hs,u.no < e.no):putK (cz hs) (.inl (e.no:Int)) (.str e.rg)=cz (hs++[e]):=by
 rw [Gh _ (by
  cases hv:aF (cz hs) (.inl (e.no:Int)) with
  | none=>rfl
  | some v =>
   have h1:(aF (cz hs) (.inl (e.no:Int))).isSome=true:=by rw [hv];rfl
   rw [LY,_A] at h1;obtain ⟨u,hu,z⟩:=h1;have:=h u hu;have z':u.no=e.no:=by simpa using z
   omega)]
 unfold cz;rw [Fr];rfl
def adj {hs:List Hw} {n:Nat}:jJ (cz hs) (.inl (n:Int))=cz (hs.filter fun u=>u.no != n):=by
 unfold jJ cz;rw [List.filter_map]
 congr 1
 refine List.filter_congr fun u _=>?_;show decide ((Sum.inl (u.no:Int):Key)≠.inl (n:Int))=(u.no != n);by_cases h:u.no=n
 ·subst h;simp
 ·have h':¬ ((u.no:Int)=n):=by omega
  simp [h,h']
def QU {hs:List Hw} {c:Nat} (h:∀ e∈hs,e.no < c) {y:Hw} (hy:y.no=c):(hs++[y]).filter (fun u=>u.no != c)=hs:=by
 rw [_I,List.filter_eq_self.mpr fun e he=>by have:=h e he;simpa using (by omega:e.no≠c)];simp [hy]
def Ca {N:Cn} {CO:Addr} {H:Hp} {A:Ad} {L:List Ta} {Q:VK} {E:XK} {nm:List Nat} {mi re tx:Str} {l:List (Str×Nat)} {r:List Th} (i:bN N CO H A L (hM (fw l::r)) []) (g:Gd (hM (fw l::r))) (hp:gE (47::nm)) (hq:told (Tx.words 47 (47::nm)) (47::nm)=[]++[nm]) (cH:isNm nm=true) (hv:aF (sD l) (.inr (Tx.S nm))=none) (uy:mi∈eI) (mJ:re∈eI) (hl:r.length<=50)
  (q:∀ v L' H',bN N CO H' A L' (hM (fw (l++[(Tx.S nm,r.length+1)])::(r++[fx mi re tx nm]))) []->lQ H H'->Q v H'):B1 N H A L (hM (fw l::r)) "own" (47::nm) "file" mi re tx Q E:=by
 have h0:(hM (fw l::r)).ts[0]?=some (fw l):=rfl;refine aaO i.1 g rfl rfl (show r.length+1<=60 by omega) (by symm) h0 hp hq cH (by decide) (.dot h0 rfl (Bq (show ("own":Str)∈AS by symm)) .nil) h0 rfl (show bx ("w":Str) (if ("own":Str) = "own" then "lgw" else "lg")=true by symm) hv uy mJ fun a H' a0 eZ fr i' k'=>q _ _ H' ⟨i',?_⟩ ?_
 ·have nW:A.ho ∉ [A.t,A.ml,a0.nm]:=fun z=>i.2.n (by
   simp only [lv,mo,wP] at z;rcases z with z | z | z
   ·rw [z];simp [Ad.w]
   ·rw [z];simp [Ad.w]
   ·rw [z];exact wS _ (ir eZ (by simp [Ta.l])))
  refine ⟨k' _ _ nW i.2.d,fun z=>?_,nofun,nofun,nofun,.nil⟩;rw [List.flatMap_append,<- _O] at z;rcases Go.mp z with z | z
  ·exact i.2.n z
  ·have:=fr _ (by simpa using z);rw [i.2.d] at this;cases this
 ·exact i.1.off (by nofun) (fun b hb=>by
   simp only [lv,mo,wP] at hb;rcases hb with rfl | rfl | rfl
   ·simp [Ad.w]
   ·simp [Ad.w]
   ·exact wS _ (ir eZ (by simp [Ta.l]))) k'
def GX {T:Tx K mg} {tl:List (Addr×Str)} {kd ll:Addr} {zs:List Int} {A:Ad} {L:List Ta} {c:Nat} {hs:List Hw} {x z y:Str} {H:Hp} {t nm:List Nat} {k:Nat} {Q:VK} {E:XK} (j:LJ T tl kd ll zs A L c hs x H) (hz:z∈AS) (hk:(nm,k)∈[(c1,1),(c2,2)]) (ht:t=47::nm) (hp:gE t) (hy:y∈eI) (hm:y=("":Str)\/z=("own":Str))
  (q:∀ u du H',bN T.cn T.bE H' { A with hg:=c+1 } L (cb x) (hs++[⟨c,u,du,k,y⟩])->Kp [A.a,A.ho] H H'->Q (.int (c:Nat)) H'):Bl T [.ref A.a,.str z,.str (Tx.S t),.str y] H Q E:=by
 subst ht;have hL:L.length=4:=j.i.1.len;have h3:(nm,k)∈[(c1,1),(c2,2),(c3,3)]:=by
  rcases lv.mp hk with h | h
  ·rw [h];simp
  ·rw [wf.mp h];simp
 obtain ⟨e,ns,pw,hf⟩:=KU (x:=x) hL hz h3;have tk:∃ tk,(cb x).ts[k]?=some tk/\tk.kd=("file":Str)/\tk.ow=("own":Str)/\tk.mi=("lgw":Str):=by
  simp only [lv,Jae,mo,wP] at hk;rcases hk with ⟨_,rfl⟩ | ⟨_,rfl⟩
  ·exact ⟨fx "lgw" "" "one" c1,rfl,rfl,rfl,rfl⟩
  ·exact ⟨fx "lgw" "" x c2,rfl,rfl,rfl,rfl⟩
 obtain ⟨tk,rm,m5,rj,hk4⟩:=tk;obtain ⟨a,ha⟩:=adr (M:=cb x) hL rm;have all:∀ s:Str,s∈[("l":Str),"w"]->bx s y=true->bx s (cE tk z)=true:=fun s hs' h=>by
  rcases hm with rfl | rfl
  ·simp only [lv,mo,wP] at hs';rcases hs' with rfl | rfl <;> exact absurd h (by symm)
  ·rw [show cE tk "own" = tk.mi from At rj.symm,hk4];simp only [lv,mo,wP] at hs';rcases hs' with rfl | rfl <;> symm
 have al:=all "l" (by simp);have aw:=all "w" (by simp);refine ⟨{ A with hg:=c },L,cb x,hs,_,_,_,rfl,j.i,by have:=j.m;have:=j.nc;omega,.file ⟨rfl,by show (aF (sD mh) (.inr z)).isSome=true;rw [rR z hz];rfl,rfl,hp⟩ rfl hy pw hf ha rm (by rw [m5];symm) (fun h1 h2=>by rw [al h1] at h2;cases h2) (fun _ h1 h2=>by rw [aw h1] at h2;cases h2) fun _ _ u du H' _ i' k'=>q u du H' i' k'⟩
section
variable {T:Tx K mg} {tl:List (Addr×Str)} {kd ll:Addr} {zs:List Int} {A:Ad} {L:List Ta} {c:Nat} {hs:List Hw} {x:Str} {H H':Hp}
def hoW {W:List Addr} (h:W=[A.a,A.ho]\/W=[A.ho]):∀ b∈W,b∈A.ho::HW A L:=fun b hb=>by
 rcases h with rfl | rfl
 ·simp only [lv,mo,wP] at hb;rcases hb with rfl | rfl <;> simp [HW,Ad.w]
 ·rw [wf.mp hb];simp
def LJ.go {c':Nat} {hs':List Hw} {W:List Addr} (j:LJ T tl kd ll zs A L c hs x H) (h:W=[A.a,A.ho]\/W=[A.ho]) (k:Kp W H H') (i':bN T.cn T.bE H' { A with hg:=c' } L (cb x) hs') (th:∀ e∈hs',e.th=2) (nc:c'<=39) (m:hs'.length<=c') :
  H' kd=some (.dK (cz hs))/\LJ T tl kd ll zs A L c' hs' x (upd H' kd (.dK (cz hs'))):=by
 obtain ⟨d,ts,l⟩:=j.off (hoW h) k;have nn:∀ {b:Addr} {o:HO},(∀ kvs,o≠.dK kvs)->H' b=some o->b≠kd:=fun {b o} no e z=>by rw [z,d] at e;cases e;exact no _ rfl
 have kk:Kp [kd] H' (upd H' kd (.dK (cz hs'))):=fun b o hb e=>by rw [ag (by simpa using hb)];exact e
 refine ⟨d,⟨i'.1.keep kk fun b hb=>by rw [wf];exact fun z=>j.nk (z ▸ hb),kk _ _ (by rw [wf];exact pp j.kT) i'.2.d,i'.2.n,fun e he=>kk _ _ (by rw [wf];exact nn (by nofun) (i'.2.o e he)) (i'.2.o e he),i'.2.f,i'.2.lt,i'.2.pw⟩,th,au,j.nk,j.kT,nc,m,ts.kp fun b φ e=>kk _ _ (by rw [wf];exact nn (by nofun) e) e,kk _ _ (by rw [wf];exact nn (by nofun) l) l⟩
end
def chain {b1 b2 b3 b4 b5:L2.TS} {k:Ends} {o0 o1 o4 o5 o7 o8 o9:Option V} {kd:Addr} {hs:List Hw} {H:Hp} {wy c:Nat} (hk:H kd=some (.dK (cz hs))) (h1:wy < 2->c < 38->b1 k [o0,o1,some (.ref kd),some (.int (c:Int)),o4,o5,some (.int (wy:Int)),o7,o8,o9] H) (h2:hs≠[]->∀ H',ah H H'->b2 k [o0,o1,some (.ref kd),some (.int (c:Int)),o4,o5,some (.int (wy:Int)),o7,o8,o9] H') (h3:∀ H',ah H H'->b3 k [o0,o1,some (.ref kd),some (.int (c:Int)),o4,o5,some (.int (wy:Int)),o7,o8,o9] H') (h4:hs≠[]->∀ H',ah H H'->b4 k [o0,o1,some (.ref kd),some (.int (c:Int)),o4,o5,some (.int (wy:Int)),o7,o8,o9] H') (h5:∀ H',ah H H'->b5 k [o0,o1,some (.ref kd),some (.int (c:Int)),o4,o5,some (.int (wy:Int)),o7,o8,o9] H') :
  eW (gT (cN (cL (ee fun i j=>decide (i < j)) (cI 6) (tC (V.int 2)))) (cN (cL (ee fun i j=>decide (i < j)) (cI 3) (tC (V.int 38))))) b1
   (eW (gT (cN (cL (mF false) (cI 6) (tC (V.int 2)))) (cN (cL iM (cI 2) ij))) b2
    (eW (cN (cL (ee fun i j=>decide (i < j)) (cI 6) (tC (V.int 5)))) b3
     (eW (gT (cN (cL (ee fun i j=>decide (i < j)) (cI 6) (tC (V.int 7)))) (cN (cL iM (cI 2) ij))) b4 b5))) k [o0,o1,some (.ref kd),some (.int (c:Int)),o4,o5,some (.int (wy:Int)),o7,o8,o9] H:=by
 have n7:∀ {t u:L2.TS} {H1:Hp},ah H H1->(hs≠[]->∀ H',ah H H'->t k [o0,o1,some (.ref kd),some (.int (c:Int)),o4,o5,some (.int (wy:Int)),o7,o8,o9] H')->(∀ H',ah H H'->u k [o0,o1,some (.ref kd),some (.int (c:Int)),o4,o5,some (.int (wy:Int)),o7,o8,o9] H')->∀ p,H1 p=none->∃ kvs,upd H1 p (.dK []) kd=some (.dK kvs)/\upd H1 p (.dK []) p=some (.dK [])/\(if (!kvs.isEmpty)=true then t k [o0,o1,some (.ref kd),some (.int (c:Int)),o4,o5,some (.int (wy:Int)),o7,o8,o9] (upd H1 p (.dK [])) else u k [o0,o1,some (.ref kd),some (.int (c:Int)),o4,o5,some (.int (wy:Int)),o7,o8,o9] (upd H1 p (.dK []))):=fun {t u H1} s1 ht hu p hp=>by
  have s2:=s1.trans (ah.upd (o:=.dK []) hp);refine ⟨cz hs,s2 _ _ hk,au,?_⟩;cases hs with
  | nil=>exact cD rfl (hu _ s2)
  | cons e r=>exact dG rfl (ht nofun _ s2)
 have r5:∀ H',ah H H'->eW (gT (cN (cL (ee fun i j=>decide (i < j)) (cI 6) (tC (V.int 7)))) (cN (cL iM (cI 2) ij))) b4 b5 k [o0,o1,some (.ref kd),some (.int (c:Int)),o4,o5,some (.int (wy:Int)),o7,o8,o9] H':=fun H' s=>by
  left;by_cases h:(wy:Int) < 7
  ·exact dG (tz h) (n7 s h4 h5)
  ·exact cD (pi h) (aY (h5 _ s))
 have r4:∀ H',ah H H'->eW (cN (cL (ee fun i j=>decide (i < j)) (cI 6) (tC (V.int 5)))) b3 (eW (gT (cN (cL (ee fun i j=>decide (i < j)) (cI 6) (tC (V.int 7)))) (cN (cL iM (cI 2) ij))) b4 b5) k [o0,o1,some (.ref kd),some (.int (c:Int)),o4,o5,some (.int (wy:Int)),o7,o8,o9] H':=fun H' s=>by
  unfold eW;left;by_cases h:(wy:Int) < 5
  ·exact dG (tz h) (h3 _ s)
  ·exact cD (pi h) (r5 _ s)
 have r3:∀ H',ah H H'->eW (gT (cN (cL (mF false) (cI 6) (tC (V.int 2)))) (cN (cL iM (cI 2) ij))) b2 (eW (cN (cL (ee fun i j=>decide (i < j)) (cI 6) (tC (V.int 5)))) b3 (eW (gT (cN (cL (ee fun i j=>decide (i < j)) (cI 6) (tC (V.int 7)))) (cN (cL iM (cI 2) ij))) b4 b5)) k [o0,o1,some (.ref kd),some (.int (c:Int)),o4,o5,some (.int (wy:Int)),o7,o8,o9] H':=fun H' s=>by
  generalize (eW (cN (cL (ee fun i j=>decide (i < j)) (cI 6) (tC (V.int 5)))) b3 (eW (gT (cN (cL (ee fun i j=>decide (i < j)) (cI 6) (tC (V.int 7)))) (cN (cL iM (cI 2) ij))) b4 b5))=u at r4 ⊢;left;by_cases h:(wy:Int)=2
  ·exact dG (tz h) (n7 s h2 r4)
  ·exact cD (pi h) (aY (r4 _ s))
 generalize (eW (gT (cN (cL (mF false) (cI 6) (tC (V.int 2)))) (cN (cL iM (cI 2) ij))) b2 (eW (cN (cL (ee fun i j=>decide (i < j)) (cI 6) (tC (V.int 5)))) b3 (eW (gT (cN (cL (ee fun i j=>decide (i < j)) (cI 6) (tC (V.int 7)))) (cN (cL iM (cI 2) ij))) b4 b5)))=u at r3 ⊢;left;by_cases h:(wy:Int) < 2
 ·refine dG (tz h) ?_;by_cases h':(c:Int) < 38
  ·exact dG (tz h') (h1 (by omega) (by omega))
  ·exact cD (pi h') (r3 _ (ah.refl _))
 ·exact cD (pi h) (aY (r3 _ (ah.refl _)))
def LJ.tabs {T:Tx K mg} {tl:List (Addr×Str)} {kd ll st P:Addr} {zs:List Int} {A:Ad} {L:List Ta} {c:Nat} {hs:List Hw} {x x' q:Str} {H H':Hp} (j:LJ T tl kd ll zs A L c hs x H) (nd:(tl.map (·.1)).Nodup) (hm:(P,q)∈tl) (d:Dr st H) (nl:ll≠st) (k:Kp (P::st::HW A L) H H') (i':bN T.cn T.bE H' { A with hg:=c } L (cb x') hs) (t':∃ es,cT H' P q es):LJ T tl kd ll zs A L c hs x' H':=by
 have n2:∀ {b:Addr} {o:HO},(∀ xs,o≠.lst xs)->H b=some o->b≠st:=fun {b o} no e z=>by
  obtain ⟨x1,y1,z1,d⟩:=d;rw [z,d] at e;cases e;exact no _ rfl
 have nb:∀ {b:Addr},b≠P->b≠st->b ∉ HW A L->b ∉ P::st::HW A L:=fun {b} h1 h2 h3 z=>by
  simp only [lv] at z;rcases z with z | z | z
  ·exact h1 z
  ·exact h2 z
  ·exact h3 z
 exact ⟨i',j.th,k _ _ (nb (j.ts.ne hm (by nofun) j.d) (n2 (by nofun) j.d) j.nk) j.d,j.nk,j.kT,j.nc,j.m,j.ts.step nd hm (fun b φ n e=>k _ _ (nb n (n2 (by nofun) e) fun z=>j.i.1.vK (by nofun) z (o:=.ext φ) trivial e) e) t',k _ _ (nb (j.ts.ne hm (by nofun) j.l) nl fun z=>j.i.1.vK (by nofun) z (show sL (.lst _) from Ig zs) j.l) j.l⟩
def SG {H:Hp} {x:V} (h:di x=true):∀ n,DE K H n x x:=by
 have e:fR x x=true:=by
  cases x <;> first | rfl | (simp [fR];done) | exact absurd (show false=true from h) ww
 intro n;cases n with
 | zero=>exact ⟨h,h,e⟩
 | succ n=>exact .inl ⟨h,h,e⟩
def SN {H:Hp} {xs:List V} {n:Nat} (h:xs.all di=true):∀ i (h1:i < xs.length) (h2:i < xs.length),DE K H n xs[i] xs[i]:=fun i h1 _=>SG (LE.mp h _ (_y h1)) n
def R6:List V:=[V.str "l",V.str "w",V.str "lw",V.str "lgw",V.str "",V.str "g"]
def ado {v:V} (h:v∈R6):∃ r:Str,v=.str r/\r∈eI:=by
 simp only [R6,lv,mo,wP] at h;rcases h with rfl | rfl | rfl | rfl | rfl | rfl <;> exact ⟨_,rfl,by symm⟩
def WI {Pr Pt Ph:Addr} (C0:PySem.W.CodeHd base T.oM Pr) (b0:base.BuiltinsAt mg Pr) (C1:PySem.W.CodeHd base T.oY Pt) (b1:base.BuiltinsAt mg Pt) (C2:PySem.W.CodeHd base T.pj Ph) (b2:base.BuiltinsAt mg Ph) (u7:[Pr,Pt,Ph].Nodup) :
  aA P w K mg base (bC P w) 21 T.D3 T.xS ["_law_script"] (y6 K [(T.oM,Pr),(T.oY,Pt),(T.pj,Ph)]):=by
 have G_l_refused:=Vu (P:=P) (w:=w) (base:=base) T C0 b0;have G_l_text_refused:=Ux (P:=P) (w:=w) (base:=base) T C1 b1;have G_l_hold_refused:=QD (P:=P) (w:=w) (base:=base) T C2 b2;refine T.wC.c7 iK (fun vs H Q E h=>?_) (fun _ A _ s H vs Q E hr h=>?_)
 ·exact gG h fun _ _=>rfl
 ·refine gG h fun a h=>?_;obtain ⟨⟨ns,hS⟩,hO,q⟩:=h;refine bK (b:=aQ ue) ((ad (aP 1 iK.nd (im T.abN (PR T) hr.m T.aai T.sZ.b .nil aC (aa am ae)))
  (ad (aS (bI T.aN T.su.h (acv T) hr.m T.su.b .nil aC (ac 1) (aa am ae)))
  (ad (aS (bP (BY T) hr.m T.yU T.pY.kp T.vX (.cons (show RelV (.str "lgw") _ from ⟨_,rfl⟩) (.cons (show RelV (.str "") _ from ⟨_,rfl⟩) .nil)) cA (aa (ac 1) (aa am (aa am (aa am ae))))))
  (ad (aS (bP (BY T) hr.m T.yU T.pY.kp T.vX (.cons (show RelV (.str "lgw") _ from ⟨_,rfl⟩) (.cons (show RelV (.str "") _ from ⟨_,rfl⟩) .nil)) cA (aa (ac 1) (aa am (aa am (aa am ae))))))
  (ad (aS (bP (BY T) hr.m T.yU T.pY.kp T.BL .nil cA (aa (ac 1) (aa am (aa am (aa am (aa am (aa am ae))))))))
  (ad (aP 2 iK.nd jH)
  (ad (aP 3 iK.nd bi)
  (ad (HP UD rfl (oj (K:=K) rfl (kt (uH (K:=K) rfl) (ac 0) uJ (sd bi))) (ig 4 iK.nd) (ad (aP 5 iK.nd (bn (Pm T) hr.m T.qm.m T.qm.F.kp T.qm.b .nil aC (aa (ac 4) ae)))
  (ad (aP 6 iK.nd (bn (gQ T) hr.m T.bT.m T.bT.F.kp T.bT.b .nil aC (aa (ac 5) (aa bi ae))))
  (ad (aP 7 iK.nd (ci (bG (K:=K) rfl) (cr (aa am (aa am (aa am (aa am (aa am (aa am ae))))))) (bn (gQ T) hr.m T.bT.m T.bT.F.kp T.bT.b .nil aC (aa (ac 5) (aa bi ae)))))
  (ad (aZ (fi (jp (bt pW (ac 6) bi) (nR (bt pW (ac 3) bi)))) (ad (aZ (bt gq (bP (qE T) hr.m T.eJ.m T.eJ.F.kp T.eJ.b .nil cA (aa (ac 1) (aa (ci (bG (K:=K) rfl) (cr (aa am (aa am ae))) (ac 6)) (aa (ci (bG (K:=K) rfl) (cr (aa am (aa am ae))) (db mH (bn (gQ T) hr.m T.bT.m T.bT.F.kp T.bT.b .nil aC (aa (ac 5) (aa bi ae))) (db Vk bi (ac 6)))) (aa am ae))))) (ac 3)) (ao (aO dL)) ce)
  (ad (aS (bP (Aj T) hr.m T.iN.m T.iN.F.kp T.iN.b .nil cA (aa (ac 1) (aa (ac 3) ae))))
  (ad (aP 3 iK.nd (db fU (ac 3) bi))
  (ad (aZ (bt gq (bP (qE T) hr.m T.eJ.m T.eJ.F.kp T.eJ.b .nil cA (aa (ac 1) (aa am (aa am (aa (ac 7) ae))))) (ac 3)) (ao (aO dL)) ce)
  (ad (nY (er hr) (ac 2) (ac 3) (ac 7))
  (ao (aP 3 iK.nd (db fU (ac 3) bi)))))))) (ao (aZ (fi (jp (bt gi (ac 6) bi) (nR (bt (J2 hr.kO) (ac 2) jH)))) (ad (aP 8 iK.nd (ci (bG (K:=K) rfl) (bQ (wQ rfl) T.vT w9 (aa (ac 2) ae)) (bn (gQ T) hr.m T.bT.m T.bT.F.kp T.bT.b .nil aC (aa (ac 5) (aa (bQ JY T.jm Ps (aa (ac 2) ae)) ae)))))
  (ad (aS (bP (Aj T) hr.m T.iN.m T.iN.F.kp T.iN.b .nil cA (aa (ac 1) (aa (ac 8) ae))))
  (ao (aS (KS (ac 2) (ac 8)))))) (ao (aZ (bt pW (ac 6) bi) (ad (aP 9 iK.nd (ci (bG (K:=K) rfl) (cr (aa am (aa (db mH am bi) (aa (db mH am bi) (aa aq ae))))) (bn (gQ T) hr.m T.bT.m T.bT.F.kp T.bT.b .nil aC (aa (ac 5) (aa bi ae)))))
  (ao (aZ (de (cQ (bP G_l_refused hr.m T.S5 T.xH.kp T.CI .nil cA (aa (ac 1) (aa (bn (abm T) hr.m T.qS.m T.qS.F.kp T.qS.b .nil aC (aa (ac 5) (aa (ac 3) (aa (ac 2) ae)))) (aa (ac 9) ae)))))) (ao (aO dL)) ce))) (ao (aZ (fi (jp (bt pW (ac 6) bi) (nR (bt (J2 hr.kO) (ac 2) jH)))) (ao (aZ (de (cQ (bP G_l_text_refused hr.m T.Qk T.vA.kp T.Dq .nil cA (aa (ac 1) (aa (ac 2) (aa (ac 5) ae)))))) (ao (aO dL)) ce)) (ao (aZ (de (cQ (bP G_l_hold_refused hr.m T.adH T.vW.kp T.AR .nil cA (aa (ac 1) (aa (ac 5) ae))))) (ao (aO dL)) ce)))))))))
  (ao (aZ (fi (f8 (bt (ZG (K:=K) 4 rfl hr.V9) (bn (VX T) hr.m T.qO.m T.qO.F.kp T.qO.b .nil aC (aa (ac 1) ae)) (bQ (wQ rfl) T.vT w9 (aa (ac 2) ae))) (jd (bt (JE (K:=K) rfl hr.kO) (Dn (B9 rfl (TN:=["_law_k"]) (caps:=["_law_house","_law_kept"]) (ix:=[1,2]) (acj (ac 2)) (fun _ _ _ _=>by exact (pG (bt gq (bP (KL T) hr.m T.ly.m T.ly.F.kp T.ly.b .nil eN (aa (ac 1) (aa (ac 0) ae))) (lW (er hr) (ac 2) (ac 0))))) (fun _ _ _ _=>by exact (ig 0 (show List.Nodup (["_law_k","_law_house","_law_kept"]:List Str) by decide))) (fun _ _ _ _=>by exact (ac 0)) (.of rfl (by exact ⟨rfl,rfl,trivial⟩) (by walk_at "c") rfl (by exact ⟨⟨rfl,rfl,rfl,rfl⟩,⟨rfl,rfl,rfl,rfl⟩,trivial⟩)))) (cr ae))))) (ao (aO dL)) ce)))))))
  (ao (aO (qN (em gi (bI T.aN T.jl.h (xu T) hr.m T.jl.b .nil aC (ac 1) (aa bi ae)) am) (ii (em gi (bI T.aN T.jl.h (xu T) hr.m T.jl.b .nil aC (ac 1) (aa bi ae)) am)))))))))))))) ?_
  refine stI [some (.ref a),none,none,none,none,none,none,none,none,none] ?_;obtain ⟨tl,qZ⟩:∃ tl:List (Addr×Str),tl=[(Pr,dM),(Pt,iw),(Ph,iz)]:=⟨_,rfl⟩;have nd:(tl.map (·.1)).Nodup:=by rw [qZ];exact u7
  have m1:(Pr,dM)∈tl:=by rw [qZ];simp
  have m2:(Pt,iw)∈tl:=by rw [qZ];simp
  have m3:(Ph,iz)∈tl:=by rw [qZ];simp
  have NK:TS tl H:=fun p hp=>by
   rw [qZ] at hp;simp only [lv,mo,wP] at hp;rcases hp with rfl | rfl | rfl
   ·exact ⟨[],hO.ok (c:=T.oM) _ (by simp)⟩
   ·exact ⟨[],hO.ok (c:=T.oY) _ (by simp)⟩
   ·exact ⟨[],hO.ok (c:=T.pj) _ (by simp)⟩
  have fin:∀ {H':Hp},TS tl H'->Q (.bl true) H':=fun {H'} h=>q H' fun qq hq=>by
   rw [qZ] at h;simp only [lv,mo,wP] at hq;rcases hq with rfl | rfl | rfl
   ·exact let ⟨es,t⟩:=h (Pr,dM) (by simp);⟨es,t.tab⟩
   ·exact let ⟨es,t⟩:=h (Pt,iw) (by simp);⟨es,t.tab⟩
   ·exact let ⟨es,t⟩:=h (Ph,iz) (by simp);⟨es,t.tab⟩
  have Ng:n8 K H a ns:=by
   rcases hS with hS | hS
   ·rcases hS with hS | hS
    ·rcases hO.all a with z | ⟨o,xs,z⟩ | ⟨qq,hq,z⟩
     ·rw [z] at hS;cases hS
     ·rw [z] at hS;cases hS
     ·have z2:=hO.tab qq hq;rw [<- z,hS] at z2;cases z2
    ·exact .inr hS
   ·exact .inl fun J=>.inr hS
  right;intro hx dx hhx lB cM;refine ⟨⟨dx,au⟩,by symm,by symm,fun A1 L1 H2 hA1 fv i2 oN i0=>⟨rfl,?_⟩⟩;subst hA1;have k2:lQ H H2:=fun b o ho e=>i0 _ _ (by rw [wf];exact aG e hhx) (by rw [ag (aG e hhx),ag (aG e lB)];exact e);obtain ⟨ra,gc,gh,rD,gu⟩:=i2.h;right;refine mI gh gu ⟨A1,L1,_,i2,rfl,by symm,by symm,by decide,by decide,by symm,by symm,fun H3 i3 k3=>?_⟩;have rC:A1.ho ∉ [A1.a,A1.ro,A1.st]:=fun z=>fv.n (by
   simp only [lv,mo,wP] at z;rcases z with z | z | z <;> rw [z] <;> simp [Ad.w])
  have i3':bN T.cn T.bE H3 A1 L1 (hM [fw []]) []:=⟨i3,k3 _ _ rC fv.c,fv.n,nofun,nofun,nofun,.nil⟩;have k3':=k2.trans (i2.off (by nofun) (W:=[A1.a,A1.ro,A1.st]) (fun b hb=>by
   simp only [lv,mo,wP] at hb;rcases hb with rfl | rfl | rfl <;> simp [Ad.w]) k3)
  have hg0:=fv.g;clear i2 i3 k2 k3 gh gu i0 oN fv rC;right;refine ⟨A1,L1,_,47::c1,by symm,Ca (l:=[]) (r:=[]) i3' g0 ⟨by symm,by symm,by symm⟩ (by symm) (by symm) (by symm) (by symm) (by symm) (by decide) (fun v4 L4 H4 i4 k4=>?_),rfl,by symm⟩;have k4':=k3'.trans k4;clear i3' k3' k4;right;refine ⟨A1,L4,_,47::c2,by symm,Ca (l:=[(Tx.S c1,1)]) (r:=[fx "lgw" "" "one" c1]) i4 g1 ⟨by symm,by symm,by symm⟩ (by symm) (by symm) (by symm) (by symm) (by symm) (by decide) (fun v5 L5 H5 i5 k5=>?_),rfl,by symm⟩;have k5':=k4'.trans k5;clear i4 k4' k5;right;refine ⟨A1,L5,_,47::c3,by symm,Ca (l:=[(Tx.S c1,1),(Tx.S c2,2)]) (r:=[fx "lgw" "" "one" c1,fx "lgw" "" "two" c2]) i5 (g2 "two") ⟨by symm,by symm,by symm⟩ (by symm) (by symm) (by symm) (by symm) (by symm) (by decide) (fun v6 L6 H6 i6 k6=>?_),rfl,by symm⟩;have k6':=k5'.trans k6;have i6':bN T.cn T.bE H6 A1 L6 (cb "two") []:=i6;clear i5 k5' k6 i6;have NT:=NK.ka k6';have NY:=Ng.kp fun o e=>k6' _ _ trivial e;right;intro kd dg;have j7:bN T.cn T.bE (upd H6 kd (.dK [])) A1 L6 (cb "two") []/\TS tl (upd H6 kd (.dK []))/\n8 K (upd H6 kd (.dK [])) a ns/\upd H6 kd (.dK []) kd=some (.dK (cz [])):=by
   have s7:=ah.upd (o:=.dK []) dg;exact ⟨i6'.same s7,NT.kp fun _ _ e=>s7 _ _ e,NY.kp fun o e=>s7 _ _ e,au⟩
  have nk:kd ∉ HW A1 L6:=fun z=>by
   obtain ⟨o,ho⟩:=i6'.1.some _ z;rw [dg] at ho;cases ho
  have kT:kd≠A1.ho:=fun z=>by rw [z,i6'.2.d] at dg;cases dg
  generalize upd H6 kd (.dK [])=H7 at j7 ⊢;obtain ⟨i7,Ow,NU,d7⟩:=j7;clear i6' NT NY dg k6' Ng NK;right;refine c8 (fun σ' H'=>(∃ ll zs c hs x,LJ T tl kd ll zs A1 L6 c hs x H')/\∃ t1 t2 t3 t4 t5 t6 t7,σ'=[some (.ref a),some (.ref A1.a),some (.ref kd),t1,t2,t3,t4,t5,t6,t7]) ?_ ?_
  ·left;refine ⟨_,NU.sq,fun ll hll=>⟨⟨_,aD.of au⟩,?_⟩⟩;obtain ⟨zs,ez,hzl⟩:=Z9 ns none 50;rw [show ((50:Nat):Int)=50 from rfl] at ez;rw [ez];have s8:=ah.upd (o:=.lst (zs.map V.int)) hll;have j8:LJ T tl kd ll zs A1 L6 0 [] "two" (upd H7 ll (.lst (zs.map V.int))):=⟨by have:=i7.same s8;cases A1;cases hg0;exact this,nofun,s8 _ _ d7,nk,kT,by decide,sK _,Ow.kp fun _ _ e=>s8 _ _ e,au⟩;generalize upd H7 ll (.lst (zs.map V.int))=H8 at j8 ⊢;refine JB (xs:=zs.map V.int) (fun i σ' H'=>∃ c hs x,LJ T tl kd ll zs A1 L6 c hs x H'/\∃ t1 t2 t3 t4 t5 t6,σ'=[some (.ref a),some (.ref A1.a),some (.ref kd),some (.int (c:Int)),t1,t2,t3,t4,t5,t6]) ⟨_,_,_,j8,_,_,_,_,_,_,rfl⟩ (fun i σ' H' _ ⟨_,_,_,j,_⟩=>aD.of j.l) ?_ (fun σ' H' ⟨c,hs,x,j,t1,t2,t3,t4,t5,t6,e⟩=>⟨⟨ll,zs,c,hs,x,j⟩,_,t1,t2,t3,t4,t5,t6,e⟩);clear j8 s8 hll i7 Ow NU d7;rintro i y σ' H3 hy ⟨c,hs,x,j3,t1,t2,t3,t4,t5,t6,rfl⟩;obtain ⟨m,hm,rfl⟩:=Cl.mp (NE hy);right;intro st a0 b0 c0 aJ;have ff:=j3.ff aJ;have nl:ll≠st:=fun z=>by have:=j3.l;rw [z,aJ] at this;cases this
   have j4:=j3.same (ah.upd (o:=.lst [.int a0,.int b0,.int c0]) aJ);have d4:Dr st (upd H3 st (.lst [.int a0,.int b0,.int c0])):=⟨a0,b0,c0,au⟩;generalize upd H3 st (.lst [.int a0,.int b0,.int c0])=H4 at j4 d4 ⊢;clear j3 aJ;right;refine tM d4 (by decide) (by decide) fun dw H5 w0 w1 d5 k5=>?_;obtain ⟨wy,rfl⟩:=_L w0;have j5:=j4.drawn ff nl d4 k5;clear j4 d4 k5 H4;right;refine md (xs:=R6) d5 rfl (by decide) (by decide) fun vr H6 hvr d6 k6=>?_;have j6:=j5.drawn ff nl d5 k6;obtain ⟨r,rfl,hr6⟩:=ado hvr;clear j5 d5 k6 H5;refine c8 (fun σ' H'=>∃ c' hs' x',LJ T tl kd ll zs A1 L6 c' hs' x' H'/\∃ t5 t6,σ'=[some (.ref a),some (.ref A1.a),some (.ref kd),some (.int (c':Int)),some (.int m),some (.ref st),some (.int (wy:Int)),some (.str r),t5,t6]) ?_ ?_
   ·have hL:L6.length=4:=j6.i.1.len;refine chain j6.d (fun h1 h1'=>?_) (fun cM H7 s7=>?_) (fun H7 s7=>?_) (fun cM H7 s7=>?_) (fun H7 s7=>?_)
    ·refine c8 (fun σ' H'=>σ'=[some (.ref a),some (.ref A1.a),some (.ref kd),some (.int (c:Int)),some (.int m),some (.ref st),some (.int (wy:Int)),some (.str r),t5,t6]/\∃ u du H0 k,LJ T tl kd ll zs A1 L6 c hs x H0/\Kp [A1.a,A1.ho] H0 H'/\bN T.cn T.bE H' { A1 with hg:=c+1 } L6 (cb x) (hs++[⟨c,u,du,k,""⟩])) ?_ ?_
     ·left;refine ⟨fits (by simp),fun p hp=>?_⟩;obtain ⟨zz,hz1,hz2⟩:∃ zz:Str,dv [V.str "own",V.str "guest"] (wy:Int)=some (.str zz)/\zz∈AS:=by
       rcases (by omega:wy=0\/wy=1) with rfl | rfl <;> exact ⟨_,rfl,by symm⟩
      refine eC hp fun H7 s7 b7=>?_;simp only [bU,b7,hz1];refine ⟨fits (by simp),fun p1 gO=>?_⟩;have s8:=s7.trans (ah.upd (o:=.lst [V.str "/one",V.str "/two"]) gO);have b8:upd H7 p1 (.lst [V.str "/one",V.str "/two"]) p1=some (.lst [V.str "/one",V.str "/two"]):=au;have np:=(d6.same s7).ne gO;generalize upd H7 p1 (.lst [V.str "/one",V.str "/two"])=H8 at s8 b8 ⊢;refine tM (d6.same s8) (by decide) (by decide) fun dd H9 e0 e1 d9 k9=>?_;obtain ⟨nm,k,gO,rm,m5⟩:∃ nm k,dv [V.str "/one",V.str "/two"] (dd * (1 - (wy:Int)))=some (.str (Tx.S (47::nm)))/\(nm,k)∈[(c1,1),(c2,2)]/\gE (47::nm):=by
       have q1:gE (47::c1):=⟨by decide,by decide,by symm⟩;have q2:gE (47::c2):=⟨by decide,by decide,by symm⟩;rcases (by omega:wy=0\/wy=1) with rfl | rfl <;> rcases (by omega:dd=0\/dd=1) with rfl | rfl
       ·exact ⟨c1,1,by symm,by simp,q1⟩
       ·exact ⟨c2,2,by symm,by simp,q2⟩
       ·exact ⟨c1,1,by symm,by simp,q1⟩
       ·exact ⟨c1,1,by symm,by simp,q1⟩
      simp only [bU,k9 _ _ np b8,gO];refine ⟨?_,?_⟩
      ·exact .inl ⟨by omega,by omega⟩
      have j9:=(j6.same s8).drawn ff nl (d6.same s8) k9;exact GX j9 hz2 rm rfl m5 (by symm) (.inl rfl) fun u du H' i' k'=>cD (by rw [tz rfl];rfl) ⟨by trivial,u,du,_,k,j9,k',i'⟩
     rintro σ' H7 ⟨rfl,u,du,H0,k,j0,k7,i7⟩;have N3:=j0.i.2.lt;right;refine ⟨{ A1 with hg:=c+1 },L6,_,_,_,rfl,i7,.inl ⟨_,wS _ (wf.mpr rfl),rfl,fun H8 i8 k8=>?_⟩⟩;rw [QU N3 rfl] at i8;have Nb:Kp [A1.a,A1.ho] H0 H8:=k7.trans fun b o hb e=>k8 b o (fun z=>hb (by simp at z;simp [z])) e;obtain ⟨d8,j8⟩:=j0.go (c':=c+1) (hs':=hs) (.inl rfl) Nb i8 j0.th (by omega) (by have:=j0.m;omega);rw [show upd H8 kd (.dK (cz hs))=H8 from funext fun b=>by
      by_cases z:b=kd
      ·rw [z,au,d8]
      ·rw [ag z]] at j8
     clear k7 i7 k8 i8 Nb d8 N3 j0 H0 j6;right;refine c8 (fun σ' H'=>σ'=[some (.ref a),some (.ref A1.a),some (.ref kd),some (.int ((c:Int)+1)),some (.int m),some (.ref st),some (.int (wy:Int)),some (.str r),t5,t6]/\∃ u du,Kp [A1.a,A1.ho] H8 H'/\bN T.cn T.bE H' { A1 with hg:=c+1+1 } L6 (cb x) (hs++[⟨c+1,u,du,2,r⟩])) ?_ ?_
     ·left;rw [show Str.ofString "/two" = Tx.S (47::c2) from by symm];exact GX j8 (by symm) (nm:=c2) (k:=2) (by simp) rfl ⟨by decide,by decide,by symm⟩ hr6 (.inr rfl) fun u du H' i' k'=>cD (by rw [tz (by omega)];rfl) ⟨rfl,u,du,k',i'⟩
     rintro σ' H9 ⟨rfl,u,du,k9,i9⟩;obtain ⟨d9,j9⟩:=j8.go (c':=c+1+1) (.inl rfl) k9 i9 (fun e he=>by
      rcases Go.mp he with he | he
      ·exact j8.th e he
      ·rw [wf.mp he]) (by omega) (by have:=j8.m;rw [xz];exact Nat.succ_le_succ this)
     have lt8:=j8.i.2.lt;right;refine ⟨kd,_,rfl,gR.k (k:=.inl ((c:Int)+1)) d9 (jO (by unfold cz;rw [ss];have:=j8.m;omega)),?_⟩;have ek:=Qi (hs:=hs) (e:=⟨c+1,u,du,2,r⟩) lt8;rw [show (((⟨c+1,u,du,2,r⟩:Hw).no:Nat):Int)=(c:Int)+1 from by show ((c+1:Nat):Int)=_;omega] at ek;rw [ek];left;exact ⟨c+1+1,_,x,j9,_,_,by rw [show ((c+1+1:Nat):Int)=(c:Int)+1+1 from by omega]⟩
    ·have j7:=j6.same s7;have d7:=d6.same s7;clear j6 d6 s7;refine c8 (fun σ' H'=>∃ e∈hs,σ'=[some (.ref a),some (.ref A1.a),some (.ref kd),some (.int (c:Int)),some (.int m),some (.ref st),some (.int (wy:Int)),some (.str r),some (.int (e.no:Int)),t6]/\LJ T tl kd ll zs A1 L6 c hs x H') ?_ ?_
     ·left;exact Jd j7.i.2.pw cM (by have:=j7.m;have:=j7.nc;omega) j7.d d7 fun e he H8 d8 k8=>⟨e,he,rfl,j7.drawn ff nl d7 k8⟩
     rintro σ' H8 ⟨e,he,rfl,j8⟩;right;refine ⟨{ A1 with hg:=c },L6,_,hs,_,rfl,j8.i,.inl ⟨e,he,rfl,fun H9 i9 k9=>?_⟩⟩;obtain ⟨d9,j9⟩:=j8.go (.inr rfl) k9 i9 (fun u hu=>j8.th u (W1.mp hu).1) j8.nc (wl (Pi _ _) j8.m);left;exact ⟨kd,rfl,.inl ⟨_,.inl d9⟩,_,.inl (e.no:Int),_,d9,rfl,zK j8.i.2.pw he,c,_,x,by rw [adj];exact j9,_,_,rfl⟩
    ·have j7:=j6.same s7;have d7:=d6.same s7;clear j6 d6 s7;refine c8 (fun σ' H'=>∃ v,σ'=[some (.ref a),some (.ref A1.a),some (.ref kd),some (.int (c:Int)),some (.int m),some (.ref st),some (.int (wy:Int)),some (.str r),t5,some v]/\LJ T tl kd ll zs A1 L6 c hs x H'/\Dr st H') ?_ ?_
     ·left;refine ⟨Tx.Al [116] 60 (by decide) (by decide),Tx.Al [116] 61 (by decide) (by decide),md (xs:=[V.str "",V.str (Txt.mul (Str.ofString "t") 60),V.str (Txt.mul (Str.ofString "t") 61),V.aq]) d7 rfl (by simp) (by simp) fun v H8 _ d8 k8=>⟨v,rfl,j7.drawn ff nl d7 k8,d8⟩⟩
     rintro σ' H8 ⟨v,rfl,j8,d8⟩;left;refine ⟨st,kd,hs,c,rfl,by have:=j8.nc;omega,d8,j8.d,j8.i.2.lt,fun y H9 nh d9 k9=>?_⟩;have j9:=j8.drawn ff nl d8 k9;obtain ⟨es,t9⟩:=j9.ts _ m1;refine ⟨{ A1 with hg:=c },L6,_,hs,y,v,es,rfl,j9.i,nh,t9,fun kj es' EN oV jr=>cD rfl ⟨c,hs,x,j9.tabs nd m1 d9 nl (fun b o hb e=>jr b o (fun z=>hb (by simp at z;simp [z])) e) EN ⟨es',oV⟩,_,_,rfl⟩⟩
    ·have j7:=j6.same s7;have d7:=d6.same s7;clear j6 d6 s7;obtain ⟨es,t7⟩:=j7.ts _ m2;left;exact ⟨{ A1 with hg:=c },L6,x,hs,kd,st,es,rfl,j7.i,cM,by have:=j7.m;have:=j7.nc;omega,j7.th,j7.d,j7.nk,d7,ff,t7,fun x' H8 es' i8 t8 k8=>cD rfl ⟨c,hs,x',j7.tabs nd m2 d7 nl k8 i8 ⟨es',t8⟩,_,_,rfl⟩⟩
    ·have j7:=j6.same s7;have d7:=d6.same s7;clear j6 d6 s7;obtain ⟨es,t7⟩:=j7.ts _ m3;left;exact ⟨{ A1 with hg:=c },L6,x,hs,st,es,rfl,j7.i,by have:=j7.m;have:=j7.nc;omega,d7,ff,t7,fun H8 es' i8 t8 k8=>cD rfl ⟨c,hs,x,j7.tabs nd m3 d7 nl (fun b o hb e=>k8 b o (fun z=>hb (by simp at z;rcases z with z | z <;> simp [z])) e) i8 ⟨es',t8⟩,_,_,rfl⟩⟩
   ·rintro σ' H7 ⟨c',hs',x',j7,t5',t6',rfl⟩;clear j6 d6;left;have D7:hs'.length < 64:=by have:=j7.m;have:=j7.nc;omega
    refine ⟨{ A1 with hg:=c' },L6,_,hs',rfl,j7.i,D7,fun l8 H8 s8 _ m8=>?_⟩;have j8:=j7.same s8;clear s8 j7;refine ⟨kd,_,hs'.map fun e=>(e.no:Int),rfl,j8.d,by unfold cz;simp,by rw [ss];omega,by rw [List.pairwise_map];exact j8.i.2.pw.imp fun h=>by omega,fun l9 hl9=>?_⟩;have s9:=ah.upd (o:=.lst ((hs'.map fun e=>(e.no:Int)).map V.int)) hl9;have b9:upd H8 l9 (.lst ((hs'.map fun e=>(e.no:Int)).map V.int)) l9=some (.lst (hs'.map fun e=>V.int (e.no:Int))):=by rw [au,Re];rfl
    have j9:=j8.same s9;have c9:=s9 _ _ m8;generalize upd H8 l9 (.lst ((hs'.map fun e=>(e.no:Int)).map V.int))=H9 at b9 j9 c9 ⊢;clear s9 j8 m8 hl9 H8;refine ⟨.inr ⟨l8,l9,_,_,rfl,rfl,.inl ⟨aD.of c9,aD.of b9⟩,rfl,SN (LE.mpr fun y hy=>by obtain ⟨z,_,rfl⟩:=Cl.mp hy;rfl)⟩,aY ⟨kd,_,j9.d,[.ref A1.a,.ref kd],cy rfl (cy rfl gn),kd,_,rfl,.inl j9.d,fun o=>?_⟩⟩;have kk:Kp [kd] H9 (upd H9 kd (.cO o (.dK (cz hs')))):=fun b o hb e=>by rw [ag (by simpa using hb)];exact e
    have nn:∀ {b:Addr} {o:HO},(∀ kvs,o≠.dK kvs)->H9 b=some o->b≠kd:=fun {b o} no e z=>by rw [z,j9.d] at e;cases e;exact no _ rfl
    have EN:bN T.cn T.bE (upd H9 kd (.cO o (.dK (cz hs')))) { A1 with hg:=c' } L6 (cb x') hs':=⟨j9.i.1.keep kk fun b hb=>by rw [wf];exact fun z=>j9.nk (z ▸ hb),kk _ _ (by rw [wf];exact pp j9.kT) j9.i.2.d,j9.i.2.n,fun e he=>kk _ _ (by rw [wf];exact nn (by nofun) (j9.i.2.o e he)) (j9.i.2.o e he),j9.i.2.f,j9.i.2.lt,j9.i.2.pw⟩;refine Sj (fun H'=>H'=upd H9 kd (.cO o (.dK (cz hs')))) rfl (fun H1 e=>by rw [e,au]) ?_ ?_
    ·rintro t ht H1 rfl R hR;unfold cz at ht;rw [Re] at ht;obtain ⟨e,he,rfl⟩:=Cl.mp ht;rw [show ([V.ref A1.a,V.ref kd]:List V).map some=[some (V.ref A1.a),some (V.ref kd)] from rfl];left;refine ⟨{ A1 with hg:=c' },L6,_,hs',_,rfl,EN,.inl ⟨e,he,rfl,kd,.str e.rg,rfl,.inl ⟨_,.inl (e.no:Int),.inr ⟨o,au⟩,rfl,(zK j9.i.2.pw he).symm⟩,?_⟩⟩;show R (!decide (e.rg=e.rg)) _;rw [tz rfl];exact hR _ rfl
    ·rintro H1 l10 rfl hl10;have Eo:l10≠kd:=fun z=>by rw [z,au] at hl10;cases hl10
     refine ⟨o,by rw [ag (pp Eo),au],fits (by simp),fun p hp=>⟨[],[],aD.of ?_,aD.of au,.inl ⟨rfl,aY ?_⟩⟩⟩
     ·exact (ah.upd hp) _ _ (by rw [ag Eo,au])
     ·refine ⟨c',hs',x',j9.same fun b o' e=>?_,_,_,_,_,_,_,rfl⟩;refine (ah.upd hp) _ _ ?_;by_cases z:b=kd
      ·rw [z,j9.d] at e;cases e;rw [z,au]
      ·rw [ag z,ag (fun z'=>by rw [ag Eo,<- z',e] at hl10;cases hl10),ag z];exact e
  ·rintro σ' H5 ⟨⟨ll,zs,c,hs,x,j⟩,t1,t2,t3,t4,t5,t6,t7,rfl⟩;left;obtain ⟨ra,gc,gh,rD,gu⟩:=j.i.1.h;obtain ⟨e1,he1⟩:=adr (M:=cb x) j.i.1.len (k:=1) rfl;obtain ⟨e3,he3⟩:=adr (M:=cb x) j.i.1.len (k:=3) rfl;refine mI gh gu ⟨_,L6,_,1,e1,_,j.i.1,rfl,rfl,he1,rfl,dG (by symm) (mI gh gu ⟨_,L6,_,3,e3,_,j.i.1,rfl,rfl,he3,rfl,?_⟩)⟩;show Q (.bl (decide (("three":Str) = "three"))) H5;rw [tz rfl];exact fin j.ts
end
def Qm {K:ν} {a:Addr} {od:Option Addr} {tk:Nat} {sl:Array (Option Value)} {t0 t1:Tok} (l:K.lookup a=some ⟨.type "tuple",od,.seq ([.str "." t0,.str ".." t1]:List Value).toArray tk,sl⟩) (H:Hp):cJ K H a [.str ".",.str ".."]:=.inr ⟨_,_,_,l,rfl,rfl,fits (by simp),(.cons ⟨_,rfl⟩ (.cons ⟨_,rfl⟩ .nil))⟩
def acp {K:ν} {a:Addr} {od:Option Addr} {tk:Nat} {sl:Array (Option Value)} {t0 t1 t2 t3 t4 t5 t6 t7:Tok} (l:K.lookup a=some ⟨.type "tuple",od,.seq ([.str "" t0,.str "l" t1,.str "g" t2,.str "w" t3,.str "lg" t4,.str "lw" t5,.str "gw" t6,.str "lgw" t7]:List Value).toArray tk,sl⟩) (H:Hp):cJ K H a [.str "",.str "l",.str "g",.str "w",.str "lg",.str "lw",.str "gw",.str "lgw"]:=.inr ⟨_,_,_,l,rfl,rfl,fits (by simp),(.cons ⟨_,rfl⟩ (.cons ⟨_,rfl⟩ (.cons ⟨_,rfl⟩ (.cons ⟨_,rfl⟩ (.cons ⟨_,rfl⟩ (.cons ⟨_,rfl⟩ (.cons ⟨_,rfl⟩ (.cons ⟨_,rfl⟩ .nil))))))))⟩
def adv {K:ν} {a:Addr} {od:Option Addr} {tk:Nat} {sl:Array (Option Value)} {t0 t1 t2:Tok} (l:K.lookup a=some ⟨.type "tuple",od,.seq ([.str "l" t0,.str "g" t1,.str "w" t2]:List Value).toArray tk,sl⟩) (H:Hp):cJ K H a [.str "l",.str "g",.str "w"]:=.inr ⟨_,_,_,l,rfl,rfl,fits (by simp),(.cons ⟨_,rfl⟩ (.cons ⟨_,rfl⟩ (.cons ⟨_,rfl⟩ .nil)))⟩
def R0 {K:ν} {H:Hp} {a:Addr} {ns:List Int} {tabs:nS} (hO:oz tabs H) (hS:aD K H a (ns.map V.int)):y6 K tabs [.ref a] H (fun v H'=>v=.bl true/\xb tabs H') fun _ _ _=>False:=⟨⟨ns,hS⟩,hO,fun H' t=>⟨rfl,t⟩⟩
def RC {P:Program} {w:World} {outer:List Env} {H:Hp} {s s':Shared} {e:Value} (z:bC P w outer H s (fun _ _ _=>False) e s'):False:=by
 obtain ⟨_,_,_,_,_,_,z⟩:=z;exact z
def aa4 {l:W.OpenLaw} {q:Program} {loose:List Str} {XP:(Str->Option Value)->Heap->Prop} {YP:World->Heap->Prop} {d:DefRec} {K:Params->ν} {c0 p0 c1 p1 c2 p2:Addr} (hn:l.most=some 63) (u3:d.params.defaults=[]) (jA:d.name = "law")
  (hY:∀ (w:World) (h:Heap),YP w h->(K w.params).In h) (oT:∀ w:World,W.noTabs (K w.params)=true)
  (jv:∀ w:World,∃ e,(recsOf q).find? (fun e=>e.name == ("_law_refused":Str))=some e/\W.tabIn (K w.params) "_law_refused" = some (c0,p0))
  (iP:∀ w:World,∃ e,(recsOf q).find? (fun e=>e.name == ("_law_text_refused":Str))=some e/\W.tabIn (K w.params) "_law_text_refused" = some (c1,p1))
  (iT:∀ w:World,∃ e,(recsOf q).find? (fun e=>e.name == ("_law_hold_refused":Str))=some e/\W.tabIn (K w.params) "_law_hold_refused" = some (c2,p2))
  (u7:[p0,p1,p2].Nodup)
  (F:∀ (w:World) (mg:Str->Option Value) (h:Heap),(K w.params).In h->h.Ns mainGlobals mg->∃ T:Tx (K w.params) mg,T.oM=c0/\T.oY=c1/\T.pj=c2) :
  W.WalkO q loose XP YP l.row.toRowW d [] (fun f vs=>PySem.call f vs) :=
 L2.UL (n:=63) (k:=21) (x := "_law_script") (CX:=fun w=>bC l.prog w) (sp:=fun w=>y6 (K w.params) [(c0,p0),(c1,p1),(c2,p2)]) (tabs:=[(c0,p0),(c1,p1),(c2,p2)]) hn (by decide) u3 ⟨rfl,by decide,by decide⟩ hY oT
  (fun w t ht=>by
   simp only [lv,mo,wP] at ht;rcases ht with rfl | rfl | rfl
   ·exact let ⟨e,h1,h2⟩:=jv w;⟨_,e,h1,h2⟩
   ·exact let ⟨e,h1,h2⟩:=iP w;⟨_,e,h1,h2⟩
   ·exact let ⟨e,h1,h2⟩:=iT w;⟨_,e,h1,h2⟩)
  (fun w mg fa h KX G hfa=>by
   obtain ⟨T,rfl,rfl,rfl⟩:=F w mg h KX G;rw [jA] at hfa;have e:=hfa.symm.trans T.RS;cases e;refine ⟨T.xS,fun s u=>by obtain ⟨oc,od,kV,doc,pm,an,cdv,ct,dA,e,_⟩:=T.wC.ex;rw [e];exact .of_eq rfl,fun base _ _ hb=>?_⟩;have g0:=hb (T.oM,p0) (by simp);have g1:=hb (T.oY,p1) (by simp);have g2:=hb (T.pj,p2) (by simp);exact WI T g0.1 g0.2 g1.1 g1.2 g2.1 g2.2 u7)
  (fun _ _ a ns _ hO hS=>R0 hO hS) fun _ _ _ _ _ z=>RC z
end L2.bS

open PySem PySem.W PyProof.Rows
local macro_rules | `(tactic| walk_at "fa")=>`(tactic| (refine' L2.FA.mk ?n ?l ?c ?k;(case n=>k_is);(case l=>k_is);(case c=>k_is);(case k=>k_is)))
local macro_rules | `(tactic| walk_at "ma")=>`(tactic| (refine' L2.MA.mk ?n ?l ?c ?k ?t;(case n=>k_is);(case l=>k_is);(case c=>k_is);(case k=>k_is);(case t=>k_is)))
local macro_rules | `(tactic| walk_at "ar")=>`(tactic| (intro _ _ _ _ _ _;first | (refine L2.KI ?_;exact fun _=>rfl) | (refine L2.Jg ?_;exact fun _ _=>rfl) | (refine L2.yC ?_;exact fun _ _ _=>rfl) | (refine L2.wt ?_;exact fun _ _ _ _=>rfl) | (refine L2.Ay ?_;exact fun _ _ _ _ _=>rfl) | (refine L2.AM ?_;exact fun _ _ _ _ _ _=>rfl) | (refine L2.YN ?_;exact fun _ _ _ _ _ _ _=>rfl) | (refine L2.Gu ?_;exact rfl)))
local macro_rules | `(tactic| walk_at "mg")=>`(tactic| (refine' PySem.W.mg_of (by assumption) (by assumption) ?n;(case n=>k_is)))
local macro_rules | `(tactic| walk_at "mn")=>`(tactic| (refine' PySem.W.mg_none_of (by assumption) (by assumption) ?n;(case n=>k_is)))
local macro_rules | `(tactic| walk_at "ft")=>`(tactic| (refine' Classical.choice (L2.FA.gt (by assumption) (by assumption) ?b ?a);(case a=>walk_at "fa");(case b=>walk_at "ar")))
local macro_rules | `(tactic| walk_at "mt")=>`(tactic| (refine' Classical.choice (L2.MA.gt ?b ?a);(case a=>walk_at "ma");(case b=>walk_at "ar")))
local macro_rules | `(tactic| walk_at "mk")=>`(tactic| (refine' L2.Zr ?a ?b;(case a=>k_is);(case b=>k_is)))
local macro_rules | `(tactic| walk_at "xf")=>`(tactic| (refine' L2.Wb ?a ?b ?c ?d ?e ?f ?g;(case a=>kernel_rfl);(case b=>k_is);(case c=>k_is);(case d=>k_is);(case e=>k_is);(case f=>k_is);(case g=>k_is)))
local macro_rules | `(tactic| walk_at "cl")=>`(tactic| (refine' L2.cX.mk ?a ?b ?c ?d;(case a=>k_is);(case b=>k_is);(case c=>k_is);(case d=>k_is)))
local macro_rules | `(tactic| walk_at "fu")=>`(tactic| (refine' L2.y4 ?l ?c ?k;(case l=>k_is);(case c=>k_is);(case k=>k_is)))
local macro_rules | `(tactic| walk_at "fd")=>`(tactic| (refine' L2.Ql ?l ?c ?k ?d ?h;(case l=>k_is);(case c=>k_is);(case k=>k_is);(case d=>k_is);(case h=>exact rfl)))
set_option maxRecDepth 100000 in
set_option maxHeartbeats 0 in
theorem PySem.Challenge.cw_leadnames_k62_holds_that_are_none_holds : PySem.Challenge.rw_leadnames_k62_holds_that_are_none.Holds := by
 refine L2.bS.hd0 ?_;unfold L2.bS.fC
 k_fill
 refine L2.bS.aa4 (l:=PySem.Challenge.rw_leadnames_k62_holds_that_are_none) (c0:=?z0) (p0:=?y0) (c1:=?z1) (p1:=?y1) (c2:=?z2) (p2:=?y2) rfl rfl rfl (fun w h Y=>W.km_in_of (e:=fun _=>by kernel_rfl) Y) ?oT ?jv ?iP ?iT ?u7 ?F
 case oT=>intro w;first | kernel_rfl | exact rfl
 case jv =>
  intro w;refine' ⟨_,rfl,L2.Cd ?n0 ?l0 ?c0 ?lc0 ?v0⟩
  (case n0=>k_is)
  (case l0=>k_is)
  (case c0=>exact rfl)
  (case lc0=>k_is)
  (case v0=>exact rfl)
 case iP =>
  intro w;refine' ⟨_,rfl,L2.Cd ?n1 ?l1 ?c1 ?lc1 ?v1⟩
  (case n1=>k_is)
  (case l1=>k_is)
  (case c1=>exact rfl)
  (case lc1=>k_is)
  (case v1=>exact rfl)
 case iT =>
  intro w;refine' ⟨_,rfl,L2.Cd ?n2 ?l2 ?c2 ?lc2 ?v2⟩
  (case n2=>k_is)
  (case l2=>k_is)
  (case c2=>exact rfl)
  (case lc2=>k_is)
  (case v2=>exact rfl)
 case u7=>decide
 case F =>
  intro w mg h KX G;refine' ⟨L2.bS.Tx.mk ?_ ?_ ?_ ?_ ?_ ?_ ?_ ?_ ?_ ?_ ?_ ?_ ?_ ?_ ?_ ?_ ?_ ?_ ?wG ?_ ?Jp ?AK ?_ ?_ ?_ ?_ ?_ ?_ ?_ ?_ ?_ ?_ ?_ ?_ ?pY ?_ ?BL ?G7 ?vX ?_ ?_ ?_ ?_ ?_ ?_ ?_ ?_ ?_ ?_ ?_ ?_ ?_ ?xH ?_ ?CI ?vA ?_ ?Dq ?vW ?_ ?AR ?wC ?_ ?FV ?_ ?B6 ?_ ?_ ?_ ?_ ?_ ?_ ?_ ?_ ?_ ?_ ?_ ?_ ?_ ?_ ?_ ?_ ?_ ?_ ?_ ?_ ?_ ?_ ?_ ?_ ?_ ?xx ?_ ?_ ?Bh ?_ ?_ ?_ ?_ ?_ ?_ ?_ ?_ ?_ ?_ ?_ ?_ ?_ ?_ ?_ ?_ ?_ ?_ ?_ ?_ ?_ ?_ ?_ ?_ ?_ ?_ ?_ ?_ ?_ ?_ ?_ ?_ ?_ ?_ ?_ ?_ ?_ ?_ ?_ ?_ ?_ ?_ ?_ ?_ ?_ ?_ ?_ ?_ ?_ ?_ ?_ ?_ ?_ ?_ ?_ ?_ ?_ ?_ ?_ ?_ ?_ ?_ ?_ ?_ ?_ ?_ ?_ ?_ ?_ ?_ ?_ ?_ ?_ ?_ ?_ ?_ ?_ ?_ ?_ ?_ ?_ ?_ ?_ ?_ ?_ ?_ ?_ ?_ ?_ ?_ ?_ ?_ ?_ ?_ ?_ ?_ ?_ ?_ ?_ ?_ ?_ ?_ ?_ ?_ ?_ ?_ ?_ ?_ ?_ ?_ ?_ ?_ ?_ ?_ ?_ ?_ ?_ ?_ ?_ ?_ ?_ ?_ ?_ ?_ ?_ ?_ ?_ ?_ ?_ ?_ ?_ ?_ ?_ ?_ ?_ ?_ ?_ ?_ ?_ ?_ ?_ ?_ ?_ ?_ ?_ ?_ ?_ ?_ ?_ ?_ ?_ ?_ ?_ ?_ ?_ ?_ ?_ ?_ ?_ ?_ ?_ ?_ ?_ ?_ ?_ ?_ ?_ ?_ ?_ ?_ ?_ ?_ ?_ ?_ ?_ ?_ ?_ ?_ ?_ ?_ ?_ ?_ ?_ ?_ ?_ ?_ ?_ ?_ ?_ ?_ ?_ ?_ ?_ ?_ ?_ ?_ ?_ ?_ ?_ ?_ ?_ ?_ ?_ ?_ ?_ ?_ ?_ ?_ ?_ ?_ ?_ ?_ ?_ ?_ ?_ ?_ ?_ ?_ ?_ ?_ ?_ ?_ ?_ ?_ ?_ ?_ ?_ ?_ ?_ ?_ ?_ ?_ ?_ ?_ ?_ ?_ ?_ ?_ ?_ ?_ ?_ ?_ ?_ ?_ ?_ ?_ ?_ ?_ ?_ ?_ ?_ ?_ ?_ ?_ ?_ ?_ ?_ ?_ ?_ ?_ ?_ ?_ ?_ ?_ ?_ ?_ ?_ ?_ ?_ ?_ ?_ ?_ ?_ ?_ ?_ ?_ ?_ ?_ ?_ ?_ ?_ ?_ ?_ ?_ ?_ ?_ ?_ ?_ ?_ ?_ ?_ ?_ ?_ ?_ ?_ ?_ ?_ ?_ ?_ ?_ ?_ ?_ ?_,rfl,rfl,rfl⟩

  all_goals try (first | walk_at "mg" | walk_at "ft" | walk_at "mt" | k_is | (show W.findIn _ _ _=some none;k_is) | walk_at "mn" | kit_is | k_exc | walk_at "mk" | walk_at "cl" | walk_at "xf" | exact rfl | kernel_rfl)
  (case B6=>(refine' L2.bS.Qm ?l_DOTS;(case l_DOTS=>k_is)))
  (case xx=>(refine' L2.bS.acp ?l_RIGHTS;(case l_RIGHTS=>k_is)))
  (case Bh=>(refine' L2.bS.adv ?l_SINGLE_RIGHTS;(case l_SINGLE_RIGHTS=>k_is)))
  (case wG=>walk_at "fd")
  (case Jp=>exact L2.sO (x := "walk") (y := "walk") (st:=L2.bS.sS) (ds:=[.bool true]) 1 (by k_is) (by exact rfl) (fun _ _ _ _ _ _ _ us hl=>by (have e:us.length=4:=(by have h:=hl;rw [List.length_append] at h;simp at h;omega));clear hl;revert us;refine L2.wt ?_;exact fun _ _ _ _=>⟨_,rfl,rfl⟩))
  (case AK=>exact L2.sO (x := "walk") (y := "walk") (st:=L2.bS.sS) (ds:=[.bool true]) 0 (by k_is) (by exact rfl) (fun _ _ _ _ _ _ _ us hl=>by (have e:us.length=3:=(by have h:=hl;rw [List.length_append] at h;simp at h;omega));clear hl;revert us;refine L2.yC ?_;exact fun _ _ _=>⟨_,rfl,rfl⟩))
  (case pY=>walk_at "fd")
  (case BL=>exact L2.sO (x := "make_file") (y := "make_file") (st:=L2.bS.qB) (ds:=[.str "lgw" _,.str "" _]) 2 (by k_is) (by exact rfl) (fun _ _ _ _ _ _ _ us hl=>by (have e:us.length=6:=(by have h:=hl;rw [List.length_append] at h;simp at h;omega));clear hl;revert us;refine L2.AM ?_;exact fun _ _ _ _ _ _=>⟨_,rfl,rfl⟩))
  (case G7=>exact L2.sO (x := "make_file") (y := "make_file") (st:=L2.bS.qB) (ds:=[.str "lgw" _,.str "" _]) 1 (by k_is) (by exact rfl) (fun _ _ _ _ _ _ _ us hl=>by (have e:us.length=5:=(by have h:=hl;rw [List.length_append] at h;simp at h;omega));clear hl;revert us;refine L2.Ay ?_;exact fun _ _ _ _ _=>⟨_,rfl,rfl⟩))
  (case vX=>exact L2.sO (x := "make_file") (y := "make_file") (st:=L2.bS.qB) (ds:=[.str "lgw" _,.str "" _]) 0 (by k_is) (by exact rfl) (fun _ _ _ _ _ _ _ us hl=>by (have e:us.length=4:=(by have h:=hl;rw [List.length_append] at h;simp at h;omega));clear hl;revert us;refine L2.wt ?_;exact fun _ _ _ _=>⟨_,rfl,rfl⟩))
  (case xH=>walk_at "fu")
  (case CI=>exact L2.Binds.all (fun us hl=>match us,hl with | [_,_,_],_=>rfl))
  (case vA=>walk_at "fu")
  (case Dq=>exact L2.Binds.all (fun us hl=>match us,hl with | [_,_,_],_=>rfl))
  (case vW=>walk_at "fu")
  (case AR=>exact L2.Binds.all (fun us hl=>match us,hl with | [_,_],_=>rfl))
  (case wC=>walk_at "fu")
  (case FV=>exact L2.Binds.all (fun us hl=>match us,hl with | [_],_=>rfl))
  all_goals try (first | walk_at "mg" | walk_at "ft" | walk_at "mt" | k_is | (show W.findIn _ _ _=some none;k_is) | walk_at "mn" | kit_is | k_exc | walk_at "mk" | walk_at "cl" | walk_at "xf" | exact rfl | kernel_rfl)

