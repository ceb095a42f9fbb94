import PyProof.Rows.All
import Wide.All
import OpenK.AllK
import Wide.FinOn
import Lean
import PyProof.EqAt
import PyProof.EqKinds
import PyProof.TupleCall
import PyProof.NsDelKeeps
import PyProof.InstStoreFacts
import KE.KLam
import KE.KRevIter
import PyProof.ZipIter
import KE.KUnpack
import PyProof.Conv_int_bool
import PyProof.CallStr
import KE.KRevSl
import PyProof.NeKinds
import PyProof.AttrMissHeap
import KE.KDictOf
import PySem.Challenge.RW_leadnames_k34_rings_of_leads
set_option Elab.async false
set_option linter.all false
set_option maxRecDepth 100000
namespace L2
open PySem PySem.W
def qD (tb:String->Option Builtin) (p:Program) (w:World) (n₀:Nat) (ann:Option Value):Nat->SharedT->Thread->Option SharedT
 | 0,_,_=>none
 | n+1,s,t=>match through t with
  | true=>some s
  | false=>match stepOk n₀ ann t with
   | false=>none
   | true=>match stepT (denote tb) p w s t with
    | some (s',t')=>qD tb p w n₀ ann n s' t'
    | none=>none
theorem IB {tb:String->Option Builtin} {p:Program} {w:World} {n₀:Nat} {ann:Option Value}:∀ {n:Nat} {s s':SharedT} {t:Thread},qD tb p w n₀ ann n s t=some s'->topRun tb p w n₀ ann n s.abs t=some s'.abs
 | 0,_,_,_,h=>by cases h
 | n+1,s,s',t,h=>by
  unfold qD at h;unfold topRun;cases he:through t with
  | true=>rw [he] at h; cases h; rfl
  | false =>
   rw [he] at h;cases hk:stepOk n₀ ann t with
   | false=>rw [hk] at h; cases h
   | true =>
    rw [hk] at h;cases hs:stepT (denote tb) p w s t with
    | none=>rw [hs] at h; cases h
    | some r=>obtain ⟨s₂,t₂⟩:=r; rw [hs] at h; rw [stepT_spec hs]; exact IB h
def treeOf:List Obj->Nat->BT->BT
 | [],_,t=>t
 | o::r,n,t=>treeOf r (n+1) (t.ins n o)
theorem LeftO.PR {p q:Program} {loose:List Str} {Xt:Shared->Bool} {α:Type} {Yf:Shared->α} {Ya:World->α} {N:Nat} {g0:Bool} {H₀:Params->Heap} {T₀:Params->BT} {n₀:Nat} {life:Life} {nq:Array GenState} {d₀:Drawn} {k₀:Nat} {ann:Option Value}
  (Fc:∀ w:World,(fencedOpening treeTable p w N).map (fun s=>(s.heap,s.gens,s.drawn,s.toks))=some (H₀ w.params,nq,d₀,k₀))
  (tr:∀ P:Params,absHeap (T₀ P) n₀ life=H₀ P)
  (size:∀ P:Params,((H₀ P).isNs mainGlobals && nq.size == 0,(H₀ P).objs.size,(H₀ P).nsMap mainGlobals "__annotations__")=(true,n₀,ann))
  (run:∀ (w:World) (os:OsState),(qD treeTable p w n₀ ann N ⟨T₀ w.params,n₀,life,nq,d₀,k₀,os⟩ (topStub p)).map (fun s=>((staticsOk (importedModules p.main.body) (H₀ w.params) s.abs.heap && namesBound p s.abs.heap && gensDone s.abs && laidKept (H₀ w.params) s.abs.heap),
    openSeen q loose (importedModules p.main.body) Xt g0 s.abs,Yf s.abs))=some (true,openGood q loose,Ya w)):LeftO p q loose Xt Yf Ya N g0:=fun w=>by
 obtain ⟨⟨h,gs,d,k,os⟩,e,e'⟩:=Option.map_eq_some_iff.mp (Fc w);obtain ⟨rfl,rfl,rfl,rfl⟩:h=H₀ w.params/\gs=nq/\d=d₀/\k=k₀:=by simpa using e'
 obtain ⟨z1,z2,z3⟩:_/\_/\_:=by simpa only [Prod.mk.injEq] using size w.params
 obtain ⟨s₁,r1,r2⟩:=Option.map_eq_some_iff.mp (run w os);obtain ⟨l1,l2,l3⟩:_/\_/\_:=by simpa only [Prod.mk.injEq] using r2
 have r:=IB r1;have ea:SharedT.abs ⟨T₀ w.params,n₀,life,gs,d,k,os⟩=⟨H₀ w.params,gs,d,k,os⟩:=by
  unfold SharedT.abs;rw [tr]
 rw [ea] at r;have t:topFrom treeTable p w N ⟨H₀ w.params,gs,d,k,os⟩=some s₁.abs:=by
  unfold topFrom;dsimp only;rw [z1,z2,z3,r];show (match staticsOk (importedModules p.main.body) (H₀ w.params) s₁.abs.heap && namesBound p s₁.abs.heap && gensDone s₁.abs && laidKept (H₀ w.params) s₁.abs.heap with | true=>_ | false=>_)=_;rw [l1]
 unfold openEnds;rw [e];show (topFrom treeTable p w N _).map _=_;rw [t];exact congrArg some (Prod.ext l2 l3)
def eV (ok:Nat->Option Value->Thread->Bool) (st:SharedT->Thread->Option (SharedT×Thread)) (n₀:Nat) (ann:Option Value):Nat->SharedT->Thread->Option SharedT
 | 0,_,_=>none
 | n+1,s,t=>match through t with
  | true=>some s
  | false=>match ok n₀ ann t with
   | false=>none
   | true=>match st s t with
    | some (s',t')=>eV ok st n₀ ann n s' t'
    | none=>none
theorem I0 {tb:String->Option Builtin} {p:Program} {w:World} {n₀:Nat} {ann:Option Value}:∀ (n:Nat) (s:SharedT) (t:Thread),eV stepOk (stepT (denote tb) p w) n₀ ann n s t=qD tb p w n₀ ann n s t
 | 0,_,_=>rfl
 | n+1,s,t=>by
  unfold eV qD;cases through t with
  | true=>rfl
  | false =>
   cases stepOk n₀ ann t with
   | false=>rfl
   | true =>
    cases stepT (denote tb) p w s t with
    | none=>rfl
    | some r=>exact I0 n r.1 r.2
theorem LeftO.TM {p q:Program} {loose:List Str} {Xt:Shared->Bool} {α:Type} {Yf:Shared->α} {Ya:World->α} {N:Nat} {g0:Bool} {H₀:Params->Heap} {T₀:Params->BT} {n₀:Nat} {life:Life} {nq:Array GenState} {d₀:Drawn} {k₀:Nat} {ann:Option Value}
  {ok:Nat->Option Value->Thread->Bool} {st:(Code->Sem Fin)->Program->World->SharedT->Thread->Option (SharedT×Thread)} {den:(String->Option Builtin)->Code->Sem Fin} {tb:String->Option Builtin}
  (e1:stepOk=ok) (e2:stepT=st) (e3:denote=den) (e4:treeTable=tb)
  (Fc:∀ w:World,(fencedOpening treeTable p w N).map (fun s=>(s.heap,s.gens,s.drawn,s.toks))=some (H₀ w.params,nq,d₀,k₀))
  (tr:∀ P:Params,absHeap (T₀ P) n₀ life=H₀ P)
  (size:∀ P:Params,((H₀ P).isNs mainGlobals && nq.size == 0,(H₀ P).objs.size,(H₀ P).nsMap mainGlobals "__annotations__")=(true,n₀,ann))
  (run:∀ (w:World) (os:OsState),(eV ok (st (den tb) p w) n₀ ann N ⟨T₀ w.params,n₀,life,nq,d₀,k₀,os⟩ (topStub p)).map (fun s=>((staticsOk (importedModules p.main.body) (H₀ w.params) s.abs.heap && namesBound p s.abs.heap && gensDone s.abs && laidKept (H₀ w.params) s.abs.heap),
    openSeen q loose (importedModules p.main.body) Xt g0 s.abs,Yf s.abs))=some (true,openGood q loose,Ya w)):LeftO p q loose Xt Yf Ya N g0:=by
 subst e1 e2 e3 e4;refine LeftO.PR Fc tr size fun w os=>?_;rw [<- I0];exact run w os
noncomputable def fK (P:Params):BT:=treeOf (boot_heap P).objs.toList 0 .nil
end L2

namespace L2
open PySem PySem.W PyProof.Rows
theorem abC {α β γ:Type} {o:Option α} {F:α->β×γ} {G:β×γ} (h1:o.map (fun s=>(F s).1)=some G.1) (h2:o.map (fun s=>(F s).2)=some G.2):o.map F=some G:=by
 cases o with
 | none=>cases h1
 | some a=>injection h1 with h1; injection h2 with h2; exact congrArg some (Prod.ext h1 h2)
theorem atS {α β:Type} {o:Option α} {s:α} {f:α->β} {g:β} (hs:o=some s) (h:o.map f=some g):f s=g:=by
 subst hs; exact Option.some.inj h
theorem jH {α β:Type} {a b:α} {c d:β} (h:a=b) (k:c=d):(a,c)=(b,d):=by rw [h,k]
def F0 (p:Program) (H₀:Heap) (s:SharedT):Bool:=staticsOk (importedModules p.main.body) H₀ s.abs.heap && namesBound p s.abs.heap && gensDone s.abs && laidKept H₀ s.abs.heap
def F3 (p q:Program) (loose:List Str) (Xt:Shared->Bool) (g0:Bool) (s:SharedT):Bool:=s.abs.heap.keysOk (looseW q loose) ((recsOf q).map (·.name)) ((litsOf q).map (·.1)) ((clssOf q (looseW q loose)).map (·.name)) && s.abs.heap.accountedOkI (importedModules p.main.body) && s.abs.heap.isNs mainGlobals && s.abs.heap.isNs builtinsNs && tablesOk q s.abs.heap && Xt s.abs && (if g0 then s.abs.gens.size == 0 else !leftWithCleanup s.abs.gens)
def F1 (q:Program) (s:SharedT):=seen ((recsOf q).map (·.name)) (ownsOf q) [] { s.abs with gens:=#[] }
theorem Vj {p q:Program} {loose:List Str} {Xt:Shared->Bool} {α:Type} {Yf:Shared->α} {Ya:World->α} {g0:Bool} {H₀:Heap} {o:Option SharedT} {w:World}
  (q0:o.map (F0 p H₀)=some true) (q1:o.map (F1 q)=some (expectedOf q)) (q2:o.map (fun s:SharedT=>s.abs.heap.bltView)=some bltViewBooted)
  (q3:o.map (F3 p q loose Xt g0)=some true) (q4:o.map (fun s:SharedT=>tabsOk q s.abs)=some true) (q5:o.map (fun s:SharedT=>pinSeenD q (drecsOf q) s.abs)=some (pinGoodD (drecsOf q)))
  (q6:o.map (fun s:SharedT=>plainSeenE q (looseW q loose) s.abs)=some (plainGoodE q (looseW q loose))) (q7:o.map (fun s:SharedT=>plainSeenD q loose s.abs)=some (plainGoodD q loose))
  (q8:o.map (fun s:SharedT=>wideSeen q s.abs)=some (wideGood q)) (q9:o.map (fun s:SharedT=>clsSeenW q loose s.abs)=some (clsGoodW q loose))
  (kJ:o.map (fun s:SharedT=>Yf s.abs)=some (Ya w)) :
  o.map (fun s:SharedT=>(F0 p H₀ s,openSeen q loose (importedModules p.main.body) Xt g0 s.abs,Yf s.abs))=some (true,openGood q loose,Ya w):=by
 obtain ⟨s,hs,a0⟩:=Option.map_eq_some_iff.mp q0;have a1:=atS hs q1;have a2:=atS hs q2;have a3:=atS hs q3;have a4:=atS hs q4;have a5:=atS hs q5;have a6:=atS hs q6;have a7:=atS hs q7;have a8:=atS hs q8;have a9:=atS hs q9;have vU:=atS hs kJ;clear q0 q1 q2 q3 q4 q5 q6 q7 q8 q9 kJ;subst hs;show some _=some _;refine congrArg some (jH a0 (jH ?_ vU));unfold openSeen openGood;exact jH a1 (jH a2 (jH a3 (jH a4 (jH a5 (jH a6 (jH a7 (jH a8 a9)))))))
theorem yA {α β γ:Type} {o:Option α} {f:α->β} {g:α->γ} {b:β} {c:γ} (h:o.map (fun s=>(f s,g s))=some (b,c)):o.map f=some b:=by
 cases o with
 | none=>cases h
 | some a=>injection h with h; exact congrArg some (congrArg Prod.fst h)
theorem kc {α β γ:Type} {o:Option α} {f:α->β} {g:α->γ} {b:β} {c:γ} (h:o.map (fun s=>(f s,g s))=some (b,c)):o.map g=some c:=by
 cases o with
 | none=>cases h
 | some a=>injection h with h; exact congrArg some (congrArg Prod.snd h)
theorem uv {α β γ:Type} {o:Option α} {l:List β} {f:α->β->γ} {g:β->γ} (n:Nat) (h1:o.map (fun s=>(l.take n).map (f s))=some ((l.take n).map g)) (h2:o.map (fun s=>(l.drop n).map (f s))=some ((l.drop n).map g)):o.map (fun s=>l.map (f s))=some (l.map g):=by
 cases o with
 | none=>cases h1
 | some a =>
  injection h1 with h1;injection h2 with h2;refine congrArg some ?_;show l.map (f a)=l.map g;rw [<- List.take_append_drop n l,List.map_append,List.map_append];exact congr (congrArg _ h1) h2
theorem WX {K:Params->Frag} {as:List Addr} {e:∀ P,as=(K P).map (·.1)} {o:Option SharedT} {w:World} (h:o.map (fun s=>(K w.params).map fun p=>s.abs.heap.get? p.1)=some ((K w.params).map fun p=>some p.2)) :
  o.map (fun s=>(kHook K as e).obs s.abs)=some ((kHook K as e).val w):=by
 show o.map (fun s:SharedT=>as.map s.abs.heap.get?)=some ((K w.params).map fun p=>some p.2);rw [e w.params];simp only [List.map_map];exact h
end L2

section
open PySem PySem.W PyProof.Rows
namespace L2.bW
theorem sa:(PySem.Challenge.rw_leadnames_k34_rings_of_leads).row.wellSaid=true:=by kernel_rfl
theorem JU:(PySem.Challenge.rw_leadnames_k34_rings_of_leads).wellSaid=true:=by
 unfold OpenLaw.wellSaid
 iterate 18 refine look_both ?_ ?_
 ·exact sa
 all_goals kernel_rfl
noncomputable def QV:Program:=view (PySem.Challenge.rw_leadnames_k34_rings_of_leads).prog [0,2,3,4,5,7,8,9,10,11,12,13,14,15,17,18,19,20,21,22,23,24,25,26,27,28,29,30,31,32,34,35,36,37,38,40,41,42,43,44,45,46,47,48,49,53,54,56,57,58,59,60,61,62,63,64,65,66,68,69,71,72,73,74,75,76,77,78,79,80,81,82,83,84,85,86,87,88]
theorem kG:∀ w:World,(fencedOpening treeTable (PySem.Challenge.rw_leadnames_k34_rings_of_leads).prog w 15484).map (fun s=>(s.heap,s.gens,s.drawn,s.toks))=some (boot_heap w.params,Array.mk [],boot_drawn,boot_toks):=boot_open rfl rfl (fun _=>rfl)
theorem cB:∀ P:Params,absHeap (L2.fK P) 11 {}=boot_heap P:=by intro P; kernel_rfl
theorem gC:∀ P:Params,((boot_heap P).isNs mainGlobals && (Array.mk ([]:List GenState)).size == 0,(boot_heap P).objs.size,(boot_heap P).nsMap mainGlobals "__annotations__")=(true,11,some (.ref 6)):=by intro P; kernel_rfl
set_option maxHeartbeats 0
theorem qL (w:World) (os:OsState):((eV PySem.W.Fast.tw6613529449190102663 (PySem.W.Fast.tw10156331382660048174 (PySem.W.Fast.tw11892475500146522536 PySem.W.Fast.tw14364793385576792824) (PySem.Challenge.rw_leadnames_k34_rings_of_leads).prog w) 11 (some (.ref 6)) 15484 ⟨L2.fK w.params,11,{},Array.mk [],boot_drawn,boot_toks,os⟩ (topStub (PySem.Challenge.rw_leadnames_k34_rings_of_leads).prog))).map (fun s=>(((staticsOk (importedModules (PySem.Challenge.rw_leadnames_k34_rings_of_leads).prog.main.body) (boot_heap w.params) s.abs.heap && namesBound (PySem.Challenge.rw_leadnames_k34_rings_of_leads).prog s.abs.heap && gensDone s.abs && laidKept (boot_heap w.params) s.abs.heap)),s.abs.heap.bltView,pinSeenD QV (drecsOf QV) s.abs,plainSeenD QV [PySem.Str.ofString "walk",PySem.Str.ofString "asked_of",PySem.Str.ofString "make_folder"] s.abs,clsSeenW QV [PySem.Str.ofString "walk",PySem.Str.ofString "asked_of",PySem.Str.ofString "make_folder"] s.abs))=some ((true,bltViewBooted,pinGoodD (drecsOf QV),plainGoodD QV [PySem.Str.ofString "walk",PySem.Str.ofString "asked_of",PySem.Str.ofString "make_folder"],clsGoodW QV [PySem.Str.ofString "walk",PySem.Str.ofString "asked_of",PySem.Str.ofString "make_folder"])):=by kernel_rfl
theorem qMa (w:World) (os:OsState):((eV PySem.W.Fast.tw6613529449190102663 (PySem.W.Fast.tw10156331382660048174 (PySem.W.Fast.tw11892475500146522536 PySem.W.Fast.tw14364793385576792824) (PySem.Challenge.rw_leadnames_k34_rings_of_leads).prog w) 11 (some (.ref 6)) 15484 ⟨L2.fK w.params,11,{},Array.mk [],boot_drawn,boot_toks,os⟩ (topStub (PySem.Challenge.rw_leadnames_k34_rings_of_leads).prog))).map (fun s=>seen ((recsOf QV).map (·.name)) (ownsOf QV) [] { s.abs with gens:=#[] })=some (expectedOf QV):=by kernel_rfl
theorem W8 (w:World) (os:OsState):((eV PySem.W.Fast.tw6613529449190102663 (PySem.W.Fast.tw10156331382660048174 (PySem.W.Fast.tw11892475500146522536 PySem.W.Fast.tw14364793385576792824) (PySem.Challenge.rw_leadnames_k34_rings_of_leads).prog w) 11 (some (.ref 6)) 15484 ⟨L2.fK w.params,11,{},Array.mk [],boot_drawn,boot_toks,os⟩ (topStub (PySem.Challenge.rw_leadnames_k34_rings_of_leads).prog))).map (fun s=>wideSeen QV s.abs)=some (wideGood QV):=by kernel_rfl
theorem q3 (w:World) (os:OsState):((eV PySem.W.Fast.tw6613529449190102663 (PySem.W.Fast.tw10156331382660048174 (PySem.W.Fast.tw11892475500146522536 PySem.W.Fast.tw14364793385576792824) (PySem.Challenge.rw_leadnames_k34_rings_of_leads).prog w) 11 (some (.ref 6)) 15484 ⟨L2.fK w.params,11,{},Array.mk [],boot_drawn,boot_toks,os⟩ (topStub (PySem.Challenge.rw_leadnames_k34_rings_of_leads).prog))).map (fun s=>(s.abs.heap.keysOk (looseW QV [PySem.Str.ofString "walk",PySem.Str.ofString "asked_of",PySem.Str.ofString "make_folder"]) ((recsOf QV).map (·.name)) ((litsOf QV).map (·.1)) ((clssOf QV (looseW QV [PySem.Str.ofString "walk",PySem.Str.ofString "asked_of",PySem.Str.ofString "make_folder"])).map (·.name)) && s.abs.heap.accountedOkI (importedModules (PySem.Challenge.rw_leadnames_k34_rings_of_leads).prog.main.body) && s.abs.heap.isNs mainGlobals && s.abs.heap.isNs builtinsNs && tablesOk QV s.abs.heap && (fun s=>xlAt QV [] s && recOk (RowW.records (OpenRow.toRowW (PySem.Challenge.rw_leadnames_k34_rings_of_leads).row)) s) s.abs && (if true then s.abs.gens.size == 0 else !leftWithCleanup s.abs.gens)))=some (true):=by kernel_rfl
theorem q4 (w:World) (os:OsState):((eV PySem.W.Fast.tw6613529449190102663 (PySem.W.Fast.tw10156331382660048174 (PySem.W.Fast.tw11892475500146522536 PySem.W.Fast.tw14364793385576792824) (PySem.Challenge.rw_leadnames_k34_rings_of_leads).prog w) 11 (some (.ref 6)) 15484 ⟨L2.fK w.params,11,{},Array.mk [],boot_drawn,boot_toks,os⟩ (topStub (PySem.Challenge.rw_leadnames_k34_rings_of_leads).prog))).map (fun s=>tabsOk QV s.abs)=some (true):=by kernel_rfl
theorem WY {h:Heap} {c:ClsRec} (n:Nat) (h1:h.plainShapeAt { c with meths:=c.meths.take n }=some (ClsRec.plainShape { c with meths:=c.meths.take n })) (h2:h.plainShapeAt { c with meths:=c.meths.drop n }=some (ClsRec.plainShape { c with meths:=c.meths.drop n })):h.plainShapeAt c=some c.plainShape:=by
 unfold Heap.plainShapeAt at h1 h2 ⊢;dsimp only [ClsRec.plainShape,ClsRec.quiet] at h1 h2 ⊢;cases e:h.clsAt mainGlobals c.name with
 | none=>rw [e] at h1; cases h1
 | some x =>
  rw [e] at h1 h2;simp only [Option.map_some,Option.some.injEq,PlainShape.mk.injEq] at h1 h2 ⊢;obtain ⟨a1,a2,a3,a4,a5,a6,a7,a8,a9,vU,a11⟩:=h1;obtain ⟨_,_,_,_,_,_,_,_,_,b10,b11⟩:=h2;refine ⟨a1,a2,a3,a4,a5,a6,a7,a8,a9,?_,?_⟩
  ·rw [<- List.take_append_drop n c.meths,List.map_append,List.map_append,vU,b10]
  ·rw [<- List.take_append_drop n c.meths,List.all_append,a11,b11]; rfl
theorem S6 {α:Type} {o:Option α} {l:List ClsRec} {F:α->Heap} (n:Nat) (h1:o.map (fun s=>l.map fun c=>(F s).plainShapeAt { c.withCmp with meths:=c.withCmp.meths.take n })=some (l.map fun c=>some (ClsRec.plainShape { c.withCmp with meths:=c.withCmp.meths.take n }))) (h2:o.map (fun s=>l.map fun c=>(F s).plainShapeAt { c.withCmp with meths:=c.withCmp.meths.drop n })=some (l.map fun c=>some (ClsRec.plainShape { c.withCmp with meths:=c.withCmp.meths.drop n }))):o.map (fun s=>l.map fun c=>(F s).plainShapeAt c.withCmp)=some (l.map fun c=>some c.withCmp.plainShape):=by
 cases o with
 | none=>cases h1
 | some a =>
  injection h1 with h1;injection h2 with h2;exact congrArg some (List.map_congr_left fun c hc=>WY n (List.map_inj_left.mp h1 c hc) (List.map_inj_left.mp h2 c hc))
theorem P2 (w:World) (os:OsState):((eV PySem.W.Fast.tw6613529449190102663 (PySem.W.Fast.tw10156331382660048174 (PySem.W.Fast.tw11892475500146522536 PySem.W.Fast.tw14364793385576792824) (PySem.Challenge.rw_leadnames_k34_rings_of_leads).prog w) 11 (some (.ref 6)) 15484 ⟨L2.fK w.params,11,{},Array.mk [],boot_drawn,boot_toks,os⟩ (topStub (PySem.Challenge.rw_leadnames_k34_rings_of_leads).prog))).map (fun s=>((plainsOf QV (looseW QV [PySem.Str.ofString "walk",PySem.Str.ofString "asked_of",PySem.Str.ofString "make_folder"])).take 4).map fun c=>s.abs.heap.plainShapeAt c.withCmp)=some (((plainsOf QV (looseW QV [PySem.Str.ofString "walk",PySem.Str.ofString "asked_of",PySem.Str.ofString "make_folder"])).take 4).map fun c=>some (ClsRec.plainShape c.withCmp)):=by kernel_rfl
theorem q6v (w:World) (os:OsState):((eV PySem.W.Fast.tw6613529449190102663 (PySem.W.Fast.tw10156331382660048174 (PySem.W.Fast.tw11892475500146522536 PySem.W.Fast.tw14364793385576792824) (PySem.Challenge.rw_leadnames_k34_rings_of_leads).prog w) 11 (some (.ref 6)) 15484 ⟨L2.fK w.params,11,{},Array.mk [],boot_drawn,boot_toks,os⟩ (topStub (PySem.Challenge.rw_leadnames_k34_rings_of_leads).prog))).map (fun s=>(((plainsOf QV (looseW QV [PySem.Str.ofString "walk",PySem.Str.ofString "asked_of",PySem.Str.ofString "make_folder"])).drop 4).take 1).map fun c=>s.abs.heap.plainShapeAt { c.withCmp with meths:=c.withCmp.meths.take 20 })=some ((((plainsOf QV (looseW QV [PySem.Str.ofString "walk",PySem.Str.ofString "asked_of",PySem.Str.ofString "make_folder"])).drop 4).take 1).map fun c=>some (ClsRec.plainShape { c.withCmp with meths:=c.withCmp.meths.take 20 })):=by kernel_rfl
theorem Tj (w:World) (os:OsState):((eV PySem.W.Fast.tw6613529449190102663 (PySem.W.Fast.tw10156331382660048174 (PySem.W.Fast.tw11892475500146522536 PySem.W.Fast.tw14364793385576792824) (PySem.Challenge.rw_leadnames_k34_rings_of_leads).prog w) 11 (some (.ref 6)) 15484 ⟨L2.fK w.params,11,{},Array.mk [],boot_drawn,boot_toks,os⟩ (topStub (PySem.Challenge.rw_leadnames_k34_rings_of_leads).prog))).map (fun s=>(((plainsOf QV (looseW QV [PySem.Str.ofString "walk",PySem.Str.ofString "asked_of",PySem.Str.ofString "make_folder"])).drop 4).take 1).map fun c=>s.abs.heap.plainShapeAt { c.withCmp with meths:=c.withCmp.meths.drop 20 })=some ((((plainsOf QV (looseW QV [PySem.Str.ofString "walk",PySem.Str.ofString "asked_of",PySem.Str.ofString "make_folder"])).drop 4).take 1).map fun c=>some (ClsRec.plainShape { c.withCmp with meths:=c.withCmp.meths.drop 20 })):=by kernel_rfl
theorem ZF (w:World) (os:OsState):((eV PySem.W.Fast.tw6613529449190102663 (PySem.W.Fast.tw10156331382660048174 (PySem.W.Fast.tw11892475500146522536 PySem.W.Fast.tw14364793385576792824) (PySem.Challenge.rw_leadnames_k34_rings_of_leads).prog w) 11 (some (.ref 6)) 15484 ⟨L2.fK w.params,11,{},Array.mk [],boot_drawn,boot_toks,os⟩ (topStub (PySem.Challenge.rw_leadnames_k34_rings_of_leads).prog))).map (fun s=>(((plainsOf QV (looseW QV [PySem.Str.ofString "walk",PySem.Str.ofString "asked_of",PySem.Str.ofString "make_folder"])).drop 4).drop 1).map fun c=>s.abs.heap.plainShapeAt c.withCmp)=some ((((plainsOf QV (looseW QV [PySem.Str.ofString "walk",PySem.Str.ofString "asked_of",PySem.Str.ofString "make_folder"])).drop 4).drop 1).map fun c=>some (ClsRec.plainShape c.withCmp)):=by kernel_rfl
theorem q6 (w:World) (os:OsState):((eV PySem.W.Fast.tw6613529449190102663 (PySem.W.Fast.tw10156331382660048174 (PySem.W.Fast.tw11892475500146522536 PySem.W.Fast.tw14364793385576792824) (PySem.Challenge.rw_leadnames_k34_rings_of_leads).prog w) 11 (some (.ref 6)) 15484 ⟨L2.fK w.params,11,{},Array.mk [],boot_drawn,boot_toks,os⟩ (topStub (PySem.Challenge.rw_leadnames_k34_rings_of_leads).prog))).map (fun s=>plainSeenE QV (looseW QV [PySem.Str.ofString "walk",PySem.Str.ofString "asked_of",PySem.Str.ofString "make_folder"]) s.abs)=some (plainGoodE QV (looseW QV [PySem.Str.ofString "walk",PySem.Str.ofString "asked_of",PySem.Str.ofString "make_folder"])):=L2.uv 4 (P2 w os) (L2.uv 1 (S6 20 (q6v w os) (Tj w os)) (ZF w os))
end L2.bW
end
section
open PySem PySem.W PyProof.Rows
local macro_rules | `(tactic| o_head $H)=>`(tactic| (refine (by assumption:∀ h':PySem.W.Hook,h'=_->PySem.W.OpenRow.Holds _) $H ?_; rfl))
set_option maxHeartbeats 0 in
noncomputable def L2.bW.fw:(h:Hook) ×' ((∀ h':Hook,h'=h->(PySem.Challenge.rw_leadnames_k34_rings_of_leads).row.Holds)->(PySem.Challenge.rw_leadnames_k34_rings_of_leads).row.Holds):=by
 refine' ⟨_,fun x=>_⟩
 rotate_left
 k_head
end
section
open PySem PySem.W PyProof.Rows
namespace L2.bW
set_option maxHeartbeats 0
theorem ya (w:World) (os:OsState):((eV PySem.W.Fast.tw6613529449190102663 (PySem.W.Fast.tw10156331382660048174 (PySem.W.Fast.tw11892475500146522536 PySem.W.Fast.tw14364793385576792824) (PySem.Challenge.rw_leadnames_k34_rings_of_leads).prog w) 11 (some (.ref 6)) 15484 ⟨L2.fK w.params,11,{},Array.mk [],boot_drawn,boot_toks,os⟩ (topStub (PySem.Challenge.rw_leadnames_k34_rings_of_leads).prog))).map (fun s=>(((fw.heap_1 w.params).take 360).take 180).map fun p=>s.abs.heap.get? p.1)=some ((((fw.heap_1 w.params).take 360).take 180).map fun p=>some p.2):=by kernel_rfl
theorem yb (w:World) (os:OsState):((eV PySem.W.Fast.tw6613529449190102663 (PySem.W.Fast.tw10156331382660048174 (PySem.W.Fast.tw11892475500146522536 PySem.W.Fast.tw14364793385576792824) (PySem.Challenge.rw_leadnames_k34_rings_of_leads).prog w) 11 (some (.ref 6)) 15484 ⟨L2.fK w.params,11,{},Array.mk [],boot_drawn,boot_toks,os⟩ (topStub (PySem.Challenge.rw_leadnames_k34_rings_of_leads).prog))).map (fun s=>(((fw.heap_1 w.params).take 360).drop 180).map fun p=>s.abs.heap.get? p.1)=some ((((fw.heap_1 w.params).take 360).drop 180).map fun p=>some p.2):=by kernel_rfl
theorem yc (w:World) (os:OsState):((eV PySem.W.Fast.tw6613529449190102663 (PySem.W.Fast.tw10156331382660048174 (PySem.W.Fast.tw11892475500146522536 PySem.W.Fast.tw14364793385576792824) (PySem.Challenge.rw_leadnames_k34_rings_of_leads).prog w) 11 (some (.ref 6)) 15484 ⟨L2.fK w.params,11,{},Array.mk [],boot_drawn,boot_toks,os⟩ (topStub (PySem.Challenge.rw_leadnames_k34_rings_of_leads).prog))).map (fun s=>(((fw.heap_1 w.params).drop 360).take 180).map fun p=>s.abs.heap.get? p.1)=some ((((fw.heap_1 w.params).drop 360).take 180).map fun p=>some p.2):=by kernel_rfl
theorem yd (w:World) (os:OsState):((eV PySem.W.Fast.tw6613529449190102663 (PySem.W.Fast.tw10156331382660048174 (PySem.W.Fast.tw11892475500146522536 PySem.W.Fast.tw14364793385576792824) (PySem.Challenge.rw_leadnames_k34_rings_of_leads).prog w) 11 (some (.ref 6)) 15484 ⟨L2.fK w.params,11,{},Array.mk [],boot_drawn,boot_toks,os⟩ (topStub (PySem.Challenge.rw_leadnames_k34_rings_of_leads).prog))).map (fun s=>(((fw.heap_1 w.params).drop 360).drop 180).map fun p=>s.abs.heap.get? p.1)=some ((((fw.heap_1 w.params).drop 360).drop 180).map fun p=>some p.2):=by kernel_rfl
theorem kJ (w:World) (os:OsState):((eV PySem.W.Fast.tw6613529449190102663 (PySem.W.Fast.tw10156331382660048174 (PySem.W.Fast.tw11892475500146522536 PySem.W.Fast.tw14364793385576792824) (PySem.Challenge.rw_leadnames_k34_rings_of_leads).prog w) 11 (some (.ref 6)) 15484 ⟨L2.fK w.params,11,{},Array.mk [],boot_drawn,boot_toks,os⟩ (topStub (PySem.Challenge.rw_leadnames_k34_rings_of_leads).prog))).map (fun s=>Hook.obs fw.1 s.abs)=some (Hook.val fw.1 w) :=
 L2.WX (K:=fw.heap_1) (e:=fun _=>by kernel_rfl) (L2.uv 360 (L2.uv 180 (ya w os) (yb w os)) (L2.uv 180 (yc w os) (yd w os)))
end L2.bW
local macro_rules | `(tactic| o_law)=>`(tactic| refine PySem.W.holds_law L2.bW.JU fun JU=>?_)
local macro_rules | `(tactic| k_head)=>`(tactic| (
 refine holds_open (q:=L2.bW.QV) (loose:=[PySem.Str.ofString "walk",PySem.Str.ofString "asked_of",PySem.Str.ofString "make_folder"]) (Xt:=fun s=>xlAt L2.bW.QV [] s && recOk (RowW.records (OpenRow.toRowW (PySem.Challenge.rw_leadnames_k34_rings_of_leads).row)) s) (XP:=XL L2.bW.QV []) (Yf:=Hook.obs L2.bW.fw.1) (Ya:=Hook.val L2.bW.fw.1) (YP:=Hook.says L2.bW.fw.1) (N:=15484) ?hl (Hook.of L2.bW.fw.1) (Hook.keeps L2.bW.fw.1) (fun s e=>xl_of s (Bool.and_eq_true_iff.mp e).1) XL.keeps (by rfl) (by rfl) (by rfl) (fun s e=>recFacts_of (Bool.and_eq_true_iff.mp e).2) (by rfl) (by first | assumption | decide +kernel) (by decide +kernel) ⟨rfl,rfl,rfl,rfl,rfl,by decide +kernel⟩ ?hw ?hc
 case hl =>
  refine L2.LeftO.TM PySem.W.Fast.te6613529449190102663 PySem.W.Fast.te10156331382660048174 PySem.W.Fast.te11892475500146522536 PySem.W.Fast.te14364793385576792824 L2.bW.kG L2.bW.cB L2.bW.gC (fun w os=>?_);exact L2.Vj (L2.yA (L2.bW.qL w os)) (L2.bW.qMa w os) (L2.yA (L2.kc (L2.bW.qL w os))) (L2.bW.q3 w os) (L2.bW.q4 w os) (L2.yA (L2.kc (L2.kc (L2.bW.qL w os)))) (L2.bW.q6 w os) (L2.yA (L2.kc (L2.kc (L2.kc (L2.bW.qL w os))))) (L2.bW.W8 w os) (L2.kc (L2.kc (L2.kc (L2.kc (L2.bW.qL w os))))) (L2.bW.kJ w os)))
set_option maxHeartbeats 0 in
open_top L2.bW.hd0 for PySem.Challenge.rw_leadnames_k34_rings_of_leads
end
section
set_option compiler.extract_closed false
set_option hygiene false
local macro_rules (kind:=Lean.Parser.Command.declaration)
 | x=>do
  let d:=x[1]
  let n:=d[0].getTrailingSize
  let k:=d.getKind
  let D:=`Lean.Parser.Command.definition
  if n==1 && k==D && d[2][1].getNumArgs==1 then pure (x.setArg 1 (.node .none `Lean.Parser.Command.theorem #[Lean.mkAtom "theorem",d[1],.node .none `Lean.Parser.Command.declSig #[d[2][0],d[2][1][0]],d[3]])) else if n != 0 && (k==D || k==`Lean.Parser.Command.abbrev) then pure ((x.setArg 1 (d.setArg 0 (Lean.mkAtom (if k==D then "def" else "abbrev")))).setArg 0 (x[0].setArg 4 (Lean.mkNullNode #[.node .none `Lean.Parser.Command.noncomputable #[Lean.mkAtom "noncomputable"]]))) else Lean.Macro.throwUnsupported
local macro_rules (kind:=Lean.Parser.Term.fun)
 | `(fun $xs*=>$b)=>do
  let .some i:=xs.findIdx? (·.raw.isOfKind `«term#[_,]») | Lean.Macro.throwUnsupported
  let ps:=xs[i]!.raw[1].getSepArgs
  let h:=Lean.mkIdent (←Lean.Macro.addMacroScope `h)
  let r:=xs.extract (i+1) xs.size
  let b←if r.isEmpty then pure b else `(fun $r*=>$b)
  let q:=if ps.size==2 then ps[1]! else .node .none `«term#[_,]» #[Lean.mkAtom "#[",Lean.mkNullNode (Lean.mkSepArray (ps.extract 1 ps.size) (Lean.mkAtom ",")),Lean.mkAtom "]"]
  let ys:=(xs.extract 0 i).push ⟨h⟩
  `(fun $ys*=>($h).elim fun $(⟨ps[0]!⟩) $(⟨q⟩)=>$b)
local macro_rules | `(tactic|let ⟨$xs,*⟩:=$e)=>do
 let p←`(⟨$xs,*⟩)
 let N:=Lean.Syntax.node .none
 let M:=fun y=>N `Lean.Parser.Tactic.rcasesPatMed #[Lean.mkNullNode #[y]]
 let q:=p.raw.rewriteBottomUp fun x=>if x.isIdent then N `Lean.Parser.Tactic.rcasesPat.one #[x] else if x.isOfKind `Lean.Parser.Term.hole then N `Lean.Parser.Tactic.rcasesPat.ignore #[x[0]] else if x.isOfKind `Lean.Parser.Term.anonymousCtor then N `Lean.Parser.Tactic.rcasesPat.tuple #[x[0],Lean.mkNullNode (x[1].getArgs.mapIdx fun i y=>if i%2==1 then y else N `Lean.Parser.Tactic.rcasesPatLo #[M y,Lean.mkNullNode]),x[2]] else x
 `(tactic|obtain $(⟨M q⟩):rcasesPatMed:=$e)
local macro_rules | `(tactic|let ⟨$xs,*⟩:$t :=$e)=>`(tactic|(have z:$t :=$e;let ⟨$xs,*⟩:=z))
local macro_rules | `(-$x)=>`(.ref $x)
local macro_rules | `(!$x)=>`(some $x)
local macro_rules | `(tactic|show $e)=>`(tactic|refine $e)
local macro_rules | `(())=>`(by simp)
local macro_rules | `(∅)=>`(by omega)
local macro_rules | `(⋯)=>`(by decide)
local macro_rules | `(tactic|exists $n)=>`(tactic|(refine stJ $n ?_;dsimp only [List.map,List.replicate,List.cons_append,List.nil_append]))
local macro_rules | `(tactic|exists $t,$n,⟨$xs,*⟩)=>`(tactic|refine ($t).F.ok $n (fun vs H Q E h=>by let ⟨$xs,*⟩:=h;rw[e];rfl) fun ah A _ s H vs Q E hr h=>?_)
local macro_rules | `(tactic|exists $t,$n,$m,$k)=>`(tactic|refine ($t).F.ok $n (fun _ _ _ _ h=>$m h (by intros;rfl)) fun ah A _ s H vs Q E hr h=>$m h $k)
local macro_rules | `($f<$>$t $x)=>`(bn ($f T) hr.m ($t).m ($t).F.kp ($t).b .nil aw $x)
local macro_rules | `($f<*>$t $x)=>`(f7 ($f T) hr.m ($t).m ($t).F.kp ($t).b .nil fH $x)
local macro_rules | `($f<*$t $x $y)=>`(bu T.aK ($t).h ($f T) hr.m ($t).b .nil aw $x $y)
local macro_rules | `($f*>$t $x $y)=>`(bu T.cO ($t).h ($f T) hr.m ($t).b .nil aw $x $y)
local macro_rules | `($f<&>$t $x $y)=>`(bu T.aL ($t).h ($f T) hr.m ($t).b .nil aw $x $y)
local macro_rules | `(#[$xs,*]) => `(⟨$xs,*⟩)
local macro_rules | `(#[])=>`(by walk_at "s")
namespace L2
abbrev ν:=PySem.W.Frag
end L2

namespace L2
open PySem PySem.Spec PyProof.Rows
def jp:=@wpAny_bind
def kt:=@decide_eq_false
def li:=@Heap.get?_push_of_some
def lm:=@Nat.le_refl
def lv:=@List.mem_cons
def mo:=@List.length_append
def pi:=@List.length_map
def ss:=@List.getElem?_eq_some_iff
def sw:=@List.getElem?_eq_getElem
def sB:=@List.size_toArray
def sK:=@List.not_mem_nil
def tz:=@Nat.le_trans
def ul:=@wpAny_pure
def ut:=@Ne.symm
def u8:=@decide_eq_true
def wf:=@Heap.lt_size
def wl:=@Heap.get?_push_size
def wn:=@List.mem_singleton
def ww:=@Nat.lt_of_lt_of_le
def wE:=@List.mem_append_right
def wP:=@Bool.false_ne_true
def wS:=@Nat.zero_le
def wT:=@if_neg
def xz:=@List.mem_append_left
def xL:=@List.length_cons
def zn:=@Nat.ne_of_lt
def At:=@if_pos
def AC:=@List.mem_append
def AT:=@or_false
def Cl:=@List.getElem?_append_right
def Da:=@List.getElem?_map
def Db:=@List.nodup_append
def Do:=@List.mem_map
def EQ:=@List.getElem?_append_left
def Fa:=@List.map_append
def Fk:=@Bool.and_eq_true
def Fr:=@List.map_cons
def FB:=@List.append_nil
def FM:=@PassesOwn.never
def FS:=@beq_eq_false_iff_ne
def Gc:=@List.nodup_cons
def Go:=@List.mem_of_getElem?
def GE:=@PySem.F.slot_list_append
def GM:=@PySem.F.type_list_append
def GT:=@Nat.lt_succ_self
def Id:=@Option.some.inj
def Ix:=@List.all_eq_true
def IN:=@List.mem_cons_of_mem
def IO:=@Heap.get?_update_other
def IR:=@List.append_assoc
def KB:=@Nat.lt_irrefl
def KM:=@wpAny_Call_Name_kw
def LE:=@List.all_cons
def LT:=@W.kia_one
def No:=@PySem.boot_len
def NE:=@Int.ofNat.inj
def On:=@congrArg
def Op:=@List.take_of_length_le
def Os:=@wpAny_holding
def Pi:=@List.length_eq_zero_iff
def Ps:=@List.getElem?_set_ne
def PP:=@Bool.false_eq_true
def P3:=@List.getElem?_set_self
def Re:=@wpAny_mono
def Rs:=@PySem.mem_of_lookup
def Sc:=@wpAny_truthy_bool
def SC:=@Array.getElem?_toList
def SL:=@List.map_map
def ST:=@call_meets
def SZ:=@Nat.lt_of_le_of_lt
def Tk:=@W.looks_findIn
def Tm:=@List.length_take
def Ty:=@Option.map_eq_some_iff
def TD:=@Calls.callWith_builtin
def TW:=@List.flatMap_cons
def Uf:=@Array.length_toList
def UF:=@Heap.get?_update_self
def UV:=@List.append_inj'
def Wp:=@List.reverse_append
def WF:=@PyProof.Rows.callWith_type1
def WP:=@beq_iff_eq
def W1:=@W.callWith_K
def XV:=@List.getD_eq_getElem?_getD
def ZB:=@Option.eq_none_iff_forall_not_mem
def _a:=@wpAny_passesOwn
def _b:=@Bool.eq_iff_iff
def _c:=@List.length_set
def _d:=@List.length_nil
def _e:=@Calls.evalArgs_plain
def _f:=@List.take_add_one
def _g:=@decide_eq_true_eq
def _h:=@of_decide_eq_true
def _i:=@List.getElem?_of_mem
def _j:=@List.any_cons
def _k:=@List.idxOf_lt_length_iff
def _l:=@List.filterMap_cons
def _m:=@List.replicate_succ
def _n:=@Heap.size_push
def _o:=@List.getElem_mem
def _p:=@PySem.F.slot_list_index
def _q:=@List.any_eq_true
def _r:=@Int.eq_ofNat_of_zero_le
def _s:=@wpAny_typeNameOfWhole_keyiter
def _t:=@List.mem_cons_self
def _u:=@Nat.le_of_eq
def _v:=@Calls.spliced_cons
def _w:=@wpAny_call
def _x:=@tupleKind_room_in1
def _y:=@not_or
def _z:=@Nat.sub_self
def _A:=@List.append_of_mem
def _B:=@if_false
def _C:=@List.find?_cons
def _D:=@F.slot_dict_keyiterator_next
def _E:=@List.length_filter_le
def _F:=@List.getElem?_eq_none
def _G:=@Calls.spliced_nil
def _H:=@Nat.lt_succ_of_lt
def _I:=@wpAny_newObj_type
def _J:=@Heap.get?_none_of_le
def _K:=@typeIs_str
def _L:=@PySem.F.excBase_ValueError
def _M:=@codeAny_call_builtin
def _N:=@List.map_nil
def _O:=@F.plain_min_loop
def _P:=@List.append_cons
def _Q:=@W.looks_mroIn
def _R:=@List.length_reverse
def _S:=@wpAny_standAt
def _T:=@List.all_append
def _U:=@List.mem_filterMap
def _V:=@Int.emod_lt_of_pos
def _W:=@Nat.le_succ
def _X:=@PySem.F.type_list_index
def _Y:=@List.mem_range
def _Z:=@Nat.le_of_lt
def _0:=@Nat.ne_of_gt
def _1:=@codeAny_mono
def _2:=@List.flatten_cons
def _3:=@wpAny_Call_method_late
def _4:=@PySem.F.slot_str_split
def _5:=@PySem.F.type_str_split
def _6:=@W.methodCall_KW
def _7:=@PySem.F.slot_dict_get
def _8:=@PySem.F.slot_list_pop
def _9:=@PySem.F.type_list_pop
def Ja0:=@Nat.succ_le_succ
def Ja1:=@wpAny_call_entry
def Ja2:=@Bool.not_true
def Ja3:=@List.not_lt
def Ja4:=@Array.toArray_toList
def Ja5:=@Around.under_plainId
def Ja6:=@List.dropLast_concat
def Ja7:=@List.idxOf_cons_self
def Ja8:=@wpAny_execs_nil
def Ja9:=@codeAny_builtin
def Jaa:=@Nat.not_lt_zero
def Jab:=@wpAny_ite_split
def Jac:=@Bool.or_eq_true
def Jad:=@Int.emod_nonneg
def Jae:=@W.hideAll_get
def Jaf:=@W.plainGet_of
def Jag:=@Nat.add_le_add_left
def Jah:=@ne_true_of_eq_false
def Jai:=@W.of_hideAll
def Jaj:=@Bool.false_and
def Jak:=@wpAny_loadPart
def Jal:=@List.nodup_nil
def Jam:=@F.args_str_split_2
def Jan:=@SeqAt.RcNeAt.lists
def Jao:=@Obj.data_mapFields
def Jap:=@Code.quiet_builtin
def Jaq:=@wpAny_seqItems
def Jar:=@List.length_zipIdx
def Jas:=@Bool.or_false
def Jat:=@List.map_drop
abbrev Key:=Sum Int Str
def  lB:Key->Value->Bool
 | .inl k,v=>Value.isInt k v
 | .inr x,v=>Value.isStrOf x v
def  Y0(w:World):Key->Int
 | .inl k=>hashInt k
 | .inr x=>hashStr w x
def jL:∀ {k:Key}{v:Value},lB k v=true->(∃ i t,k=Sum.inl i/\v=Value.int i t)\/(∃ x t,k=Sum.inr x/\v=Value.str x t)
 | .inl i,v,h=>by
  let⟨t,e⟩:=Value.isInt_shape (k:=i) (v:=v) h;show .inl #[i,t,rfl,e]
 | .inr x,v,h=>by
  let⟨t,e⟩:=Value.isStrOf_shape (x:=x) (v:=v) h;show .inr #[x,t,rfl,e]
def T4(i:Int)(t:Tok):lB (.inl i) (.int i t)=true:=by simp[lB,Value.isInt]
def Um(x:Str)(t:Tok):lB (.inr x) (.str x t)=true:=by simp[lB,Value.isStrOf]
def Tn(a b:Int):decide ((Sum.inl a:Key)=Sum.inl b)=(a == b):=by
 by_cases e:a=b
 ·subst e;simp
 ·have h:¬ (Sum.inl a:Key)=Sum.inl b:=fun q=>e (Sum.inl.inj q);rw[kt h];show(FS.mpr e).symm
def Q3(a b:Str):decide ((Sum.inr a:Key)=Sum.inr b)=decide (a=b):=by
 by_cases e:a=b
 ·subst e;simp
 ·have h:¬ (Sum.inr a:Key)=Sum.inr b:=fun q=>e (Sum.inr.inj q);rw[kt h,kt e]
def YL(a:Int)(b:Str):decide ((Sum.inl a:Key)=Sum.inr b)=false:=kt (fun q=>nomatch q)
def Rx(a:Str)(b:Int):decide ((Sum.inr a:Key)=Sum.inl b)=false:=kt (fun q=>nomatch q)
def  dI(prog:Program)(w:World):PySem.KeyKind prog w Key where
 is:=lB
 hash:=Y0 w
 inj:=fun v a b ha hb=>by
  rcases jL ha with ⟨i,t,rfl,rfl⟩ | ⟨x,t,rfl,rfl⟩
  ·rcases jL hb with ⟨j,u,rfl,e⟩ | ⟨y,u,rfl,e⟩
   ·injection e with e1 _;rw[e1]
   ·show nomatch e
  ·rcases jL hb with ⟨j,u,rfl,e⟩ | ⟨y,u,rfl,e⟩
   ·show nomatch e
   ·injection e with e1 _;rw[e1]
 byValue:=fun k v h=>by
  rcases jL h with ⟨i,t,rfl,rfl⟩ | ⟨x,t,rfl,rfl⟩ <;> rfl
 pyHash:=fun hv h=>by
  rcases jL hv with ⟨i,t,rfl,rfl⟩ | ⟨x,t,rfl,rfl⟩
  ·show wpAny_pyHash_int h
  ·show wpAny_pyHash_str h
 eqBool:=fun hu hv h=>by
  rcases jL hu with ⟨i,t,rfl,rfl⟩ | ⟨x,t,rfl,rfl⟩
  ·rcases jL hv with ⟨j,u,rfl,rfl⟩ | ⟨y,u,rfl,rfl⟩
   ·rw[Tn]at h;show wpAny_eqBool_int h
   ·rw[YL]at h;show SeqAt.EqAt.int_str i t y u _ _ _ _ h
  ·rcases jL hv with ⟨j,u,rfl,rfl⟩ | ⟨y,u,rfl,rfl⟩
   ·rw[Rx]at h;show SeqAt.EqAt.str_int x t j u _ _ _ _ h
   ·rw[Q3]at h;show wpAny_eqBool_str h
 «strs»:=fun k x t v h=>by
  rcases jL h with ⟨i,u,rfl,e⟩ | ⟨y,u,rfl,e⟩
  ·show nomatch e
  ·injection e with e1 _;subst e1;cases v <;> rfl
def Ys(prog:Program)(w:World)(i:Int)(t:Tok):(dI prog w).is (.inl i) (.int i t)=true:=T4 i t
def OO(prog:Program)(w:World)(x:Str)(t:Tok):(dI prog w).is (.inr x) (.str x t)=true:=Um x t
inductive V where
 | ao | bl (b:Bool) | int (i:Int) | str (x:Str) | byt (b:Array UInt8) | oj (b:UInt64) | ref (a:Addr) | ty (n:String)
 deriving DecidableEq
def  RelV:V->Value->Prop
 | .ao,u=>u=Value.none
 | .bl b,u=>u=Value.bool b
 | .int i,u=>∃ t,u=Value.int i t
 | .str x,u=>∃ t,u=Value.str x t
 | .byt b,u=>∃ t,u=Value.bytes b t
 | .oj b,u=>∃ t,u=Value.float b t
 | .ref a,u=>u=Value.ref a
 | .ty n,u=>u=Value.type n
abbrev Vals:List V->List Value->Prop:=Paired RelV
def Vals.length{xs:List V}{us:List Value}(r:Vals xs us):xs.length=us.length:=Paired.length r
def Vals.get:∀ {xs:List V}{us:List Value}{i:Nat}{x:V},Vals xs us->xs[i]?=!x->∃ u,us[i]?=!u/\RelV x u
 | _,_,_,_,.nil,e=>by simp at e
 | _,_,0,_,.cons r _,e=>by simp at e;subst e;show#[_,rfl,r]
 | _,_,i+1,x,.cons _ t,e=>by
  let⟨u,h1,h2⟩:=Vals.get (i:=i) (x:=x) t (by simpa using e);show#[u,by simpa using h1,h2]
def Vals.set{x:V}{u:Value}(r:RelV x u):∀ {xs:List V}{us:List Value} (i:Nat),Vals xs us->Vals (xs.set i x) (us.set i u)
 | _,_,_,.nil=>.nil
 | _,_,0,.cons _ t=>.cons r t
 | _,_,i+1,.cons q t=>.cons q (Vals.set r i t)
def Vals.append:∀ {xs ys:List V}{us ws:List Value},Vals xs us->Vals ys ws->Vals (xs++ys) (us++ws)
 | _,_,_,_,.nil,s=>s
 | _,_,_,_,.cons r t,s=>.cons r (Vals.append t s)
def Vals.take:∀ {xs:List V}{us:List Value} (n:Nat),Vals xs us->Vals (xs.take n) (us.take n)
 | _,_,0,_=>.nil
 | _,_,_+1,.nil=>.nil
 | _,_,n+1,.cons r t=>.cons r (Vals.take n t)
def Vals.drop:∀ {xs:List V}{us:List Value} (n:Nat),Vals xs us->Vals (xs.drop n) (us.drop n)
 | _,_,0,r=>r
 | _,_,_+1,.nil=>.nil
 | _,_,n+1,.cons _ t=>Vals.drop n t
def  eU:Option V->Option Value->Prop
 | some v,!u=>RelV v u
 | none,none=>True
 | _,_=>False
def  KV{κ:Type}:List (κ×V)->List (κ×Value)->Prop:=Paired fun (p:κ×V) (q:κ×Value)=>p.1=q.1/\RelV p.2 q.2
def  kV:Key->V
 | .inl i=>.int i
 | .inr x=>.str x
inductive HO where
 /-- a list -/
 | lst (xs:List V)
 /-- a tuple (never changes) -/
 | tup (xs:List V)
 /-- a dict whose keys are ints and texts;one whose keys are tuples of ints and texts (iC empty one is both) -/
 | dK (kvs:List (Key×V)) | dT (kvs:List (List Key×V))
 /-- a set of ints: ai members,ai size -/
 | set (S:Int->Bool) (n:Nat)
 /-- an instance of iC class at C,ai dict at dx,ai attributes -/
 | ins (C dx:Addr) (fs:List (Str×V))
 /-- iC dict of iC instance at x -/
 | own (x:Addr)
 /-- iC dict of an exception -/
 | xd (fs:List (Str×V))
 /-- a bound method,f of x -/
 | met (f x:Addr)
 /-- a range object lo,lo+1,.. below hi -/
 | yF (lo hi:Int)
 /-- a thing that is known to iC object (iC script;a dict while a loop walks it): read,never written while it is so -/
 | bX (o:Obj) (u:HO)
 /-- a code object's table -/
 | mG (ps:Array Value)
 /-- any other thing,by what is true of ai one object (a def of one's own: SetO a S n:=HO.ext fun h=>..) -/
 | ext (φ:Heap->Prop)
abbrev Hp:=Addr->Option HO
def  upd(H:Hp)(a:Addr)(o:HO):Hp:=fun b=>if b=a then !o else H b
def ay{H:Hp}{a:Addr}{o:HO}:upd H a o a=!o:=by unfold upd;rw[At rfl]
def ah{H:Hp}{a b:Addr}{o:HO}(h:b≠a):upd H a o b=H b:=by unfold upd;rw[wT h]
def mB{H:Hp}{a:Addr}{o u:HO}:upd (upd H a o) a u=upd H a u:=by
 funext b;unfold upd;split <;> rfl
def Qg{H:Hp}{a b:Addr}{o u:HO}(h:H a=!o)(h':H b=!u)(d:o≠u):a≠b:=by
 intro e;subst e;rw[h]at h';show d (Id h')
def eQ{H:Hp}{a b:Addr}{o:HO}(h:H a=!o)(h':H b=none):a≠b:=by
 intro e;subst e;rw[h]at h';cases h'
def  oO(h:Heap)(a:Addr)(items:Array Value):Prop:=∃ o,h.get? a=!o/\o.cls=.type "tuple" /\ ∃ n,o.data=.seq items n/\o.dict=none
def oO.t{h:Heap}{a:Addr}{items:Array Value}(x:oO h a items):IsTup h a items:=let ⟨o,e,c,n,d,_⟩:=x;#[o,e,c,n,d]
def oO.new(h:Heap)(items:Array Value):oO (h.push { cls:=.type "tuple",data:=.seq items }) h.objs.size items:=#[_,wl _ rfl,rfl,_,rfl,rfl]
section
variable (P:Program)(w:World)
def  cg(H:Hp)(h:Heap)(a:Addr):HO->Prop
 | .lst xs=>xs.length<=sizeLine/\∃ (ai:List Value) (n:Nat),Vals xs ai/\h.get? a=!{ cls:=.type "list",data:=.seq ai.toArray n }
 | .tup xs=>xs.length<=sizeLine/\∃ ai:List Value,Vals xs ai/\oO h a ai.toArray
 | .dK kvs=>kvs.length<=sizeLine/\(a == sysModules)=false/\∃ vs,KV kvs vs/\h.DictOf (dI P w) a vs
 | .dT kvs=>kvs.length<=sizeLine/\(a == sysModules)=false/\∃ xs:List (List Key×Addr×Value),
   Paired (fun (p:List Key×V) (q:List Key×Addr×Value)=>p.1=q.1/\H q.2.1=!.tup (p.1.map kV)/\RelV p.2 q.2.2) kvs xs /\
   ∃ o es ep,h.get? a=!o/\o.ExactDict/\o.data=.dict es ep/\es.toList=xs.map (entryOfKey (tupleKind (dI P w)))/\(xs.map (·.1)).Nodup
 | .set S n=>h.SetOf (intKind P w) a S n
 | .ins C dx fs=>H dx=!.own a/\fs.length<=1000/\dx≠a/\h.get? a=!W.instObj C dx /\
   ∃ mA,h.Ns1 dx mA/\(∀ f,eU (fs.lookup f) (mA f))/\PySem.Within mA (fs.map (·.1))
 | .own _=>∃ o,h.get? a=!o
 | .xd fs=>∃ mA,h.Ns1 a mA/\∀ f,eU (fs.lookup f) (mA f)
 | .yF lo hi=>∃ t u v,h.get? a=!{ cls:=.type "range",data:=.fields (List.toArray [.int lo t,.int hi u,.int 1 v]) }
 | .bX o u=>h.get? a=!o/\cg H h a u
 | .mG ps=>h.get? a=!{ cls:=.none,data:=.fields ps }
 | .met f x=>h.get? a=!W.methodObj (-f) (-x)
 | .ext φ=>φ h/\(∃ o,h.get? a=!o)/\∀ h1 h2:Heap,φ h1->(∀ o,h1.get? a=!o->h2.get? a=!o)->φ h2
def  cy(H:Hp)(h:Heap):Prop:=∀ a o,H a=!o->cg P w H h a o
end
section
variable {P:Program}{w:World}{H H':Hp}{h h':Heap}{a:Addr}{o:HO}
def cg.lt(x:cg P w H h a o):a < h.objs.size:=by
 cases o with
 | lst xs=>let⟨_,_,_,_,e⟩:=x;show wf e
 | tup xs=>let⟨_,_,_,p⟩:=x;show p.t.lt
 | dK kvs=>let⟨_,_,_,_,o,_,_,e,_⟩:=x;show wf e
 | dT kvs=>let⟨_,_,_,_,o,_,_,e,_⟩:=x;show wf e
 | set S n=>let⟨o,_,_,_,e,_⟩:=x;show wf e
 | ins C dx fs=>let⟨_,_,_,e,_⟩:=x;show wf e
 | own y=>let⟨_,e⟩:=x;show wf e
 | xd fs=>let⟨_,⟨_,_,_,e,_⟩,_⟩:=x;show wf e
 | yF lo hi=>let⟨_,_,_,e⟩:=x;show wf e
 | bX ob u=>let⟨e,_⟩:=x;show wf e
 | mG ps=>show wf (show h.get? a=some _ from x)
 | met f y=>show wf (show h.get? a=some _ from x)
 | ext φ=>let⟨_,⟨_,e⟩,_⟩:=x;show wf e
def Paired.AR{α β:Type}{F G:α->β->Prop}:∀ {l₁:List α}{l₂:List β},Paired F l₁ l₂->(∀ a b,F a b->G a b)->Paired G l₁ l₂
 | _,_,.nil,_=>.nil
 | _,_,.cons r t,f=>.cons (f _ _ r) (Paired.AR t f)
def cg.gL(x:cg P w H h a o)(k:∀ b u,(b=a\/H b=!.own a)->h.get? b=!u->h'.get? b=!u)(ho:∀ b,H b=!.own a->H' b=!.own a)(ht:∀ b xs,H b=!.tup xs->H' b=!.tup xs):cg P w H' h' a o:=by
 induction o with
 | lst xs=>let⟨z,ai,n,r,e⟩:=x;show#[z,ai,n,r,k _ _ (.inl rfl) e]
 | tup xs=>let⟨z,ai,r,ob,e,c⟩:=x;show#[z,ai,r,ob,k _ _ (.inl rfl) e,c]
 | dK kvs=>let⟨z,y,vs,r,ob,es,ep,e,c⟩:=x;show#[z,y,vs,r,ob,es,ep,k _ _ (.inl rfl) e,c]
 | dT kvs =>
  let⟨z,y,xs,r,ob,es,ep,e,c⟩:=x;show#[z,y,xs,Paired.AR r fun p q z=>#[z.1,ht _ _ z.2.1,z.2.2],ob,es,ep,k _ _ (.inl rfl) e,c]
 | set S n=>let⟨ob,es,ep,t,e,c⟩:=x;show#[ob,es,ep,t,k _ _ (.inl rfl) e,c]
 | ins C dx fs =>
  let⟨d,z,ne,e,mA,⟨od,es,ep,e2,c⟩,r⟩:=x;show#[ho _ d,z,ne,k _ _ (.inl rfl) e,mA,#[od,es,ep,k _ _ (.inr d) e2,c],r]
 | own y=>let⟨ob,e⟩:=x;show#[ob,k _ _ (.inl rfl) e]
 | xd fs=>let⟨mA,⟨od,es,ep,e,c⟩,r⟩:=x;show#[mA,#[od,es,ep,k _ _ (.inl rfl) e,c],r]
 | yF lo hi=>let⟨t,u,v,e⟩:=x;show#[t,u,v,k _ _ (.inl rfl) e]
 | bX ob u ih=>let⟨e,q⟩:=x;show#[k _ _ (.inl rfl) e,ih q]
 | mG ps =>
  have e:h.get? a=!{ cls:=.none,data:=.fields ps }:=x;change h'.get? a=!{ cls:=.none,data:=.fields ps };show k a _ (.inl rfl) e
 | met f y =>
  have e:h.get? a=!W.methodObj (-f) (-y):=x;change h'.get? a=!W.methodObj (-f) (-y);show k a _ (.inl rfl) e
 | ext φ=>let⟨p,⟨o,e⟩,st⟩:=x;show#[st _ _ p fun o q=>k _ _ (.inl rfl) q,#[o,k _ _ (.inl rfl) e],st]
def cy.lt(x:cy P w H h)(e:H a=!o):a < h.objs.size:=(x a o e).lt
def cy.fresh(x:cy P w H h)(e:h.objs.size<=a):H a=none:=by
 cases q:H a with
 | none=>rfl
 | some u=>show absurd (ww (x.lt q) e) (KB _)
def cy.kept(x:cy P w H h)(k:∀ b u,h.get? b=!u->h'.get? b=!u):cy P w H h':=fun a o e =>
 (x a o e).gL (fun b u _ q=>k b u q) (fun _ q=>q) fun _ _ q=>q
def cy.laid(x:cy P w H h)(k:∀ b u,h.get? b=!u->h'.get? b=!u)(hp:h.objs.size<=a)(new:cg P w (upd H a o) h' a o):cy P w (upd H a o) h':=fun b u e=>by
 have hn:=x.fresh hp;by_cases hb:b=a
 ·subst hb;rw[ay]at e;cases e;show new
 ·rw[ah hb]at e;show(x b u e).gL (fun c v _ q=>k c v q) (fun c q=>by rw[ah (eQ q hn)];show q) fun c xs q=>by rw[ah (eQ q hn)];show q
end
def  Rd(H:Hp)(a:Addr)(u:HO):Prop:=H a=!u\/∃ o,H a=!.bX o u
def Rd.ok{P:Program}{w:World}{H:Hp}{h:Heap}{a:Addr}{u:HO}(r:Rd H a u)(x:cy P w H h):cg P w H h a u:=by
 rcases r with r | ⟨o,r⟩
 ·show x a u r
 ·let⟨_,q⟩:=x a _ r;show q
def  qP:Option HO->Prop
 | some (.lst _)=>True
 | some (.dK _)=>True
 | some (.dT _)=>True
 | some (.set _ _)=>True
 | some (.ins _ _ _)=>True
 | some (.ext _)=>True
 | _=>False
section
variable {P:Program}{w:World}{H:Hp}{h h':Heap}{x e:Addr}{o':HO}
def cy.write(ok:cy P w H h)(mu:qP (H x))(he:e=x\/H e=!.own x)(k:∀ b u,b≠e->h.get? b=!u->h'.get? b=!u)(rS:∃ u,h'.get? e=!u)(new:cg P w (upd H x o') h' x o'):cy P w (upd H x o') h':=fun b u q=>by
 have Ox:∀ c y,H c=!.own y->c≠x:=fun c y r z=>by subst z;rw[r]at mu;show mu
 have ntup:∀ c xs,H c=!.tup xs->c≠x:=fun c xs r z=>by subst z;rw[r]at mu;show mu
 by_cases hb:b=x
 ·subst hb;rw[ay]at q;cases q;show new
 ·rw[ah hb]at q;by_cases pq:b=e
  ·have q':H b=!.own x:=by
    rcases he with z | z
    ·show absurd (pq.trans z) hb
    ·rw[pq];show z
   rw[q]at q';cases q';let⟨v,hv⟩:=rS;show#[v,by rw[pq];show hv]
  ·show(ok b u q).gL (fun c v hc r=>k c v ?_ r) (fun c r=>by rw[ah (Ox c b r)];show r) fun c xs r=>by rw[ah (ntup c xs r)];show r
   rcases hc with rfl | hc
   ·show pq
   ·rintro rfl;rcases he with z | z
    ·show Ox c b hc z
    ·rw[hc]at z;cases z;show hb rfl
end
structure Un(fs ex:List Addr)(H H':Hp)(h h':Heap):Prop where
 keep:∀ b o,h.get? b=!o->H b=none->b ∉ fs->b ∉ ex->h'.get? b=!o
 slot:∀ b o,h.get? b=!o->H b=none->b∈fs->b ∉ ex->∃ sl,h'.get? b=!{ o with slots:=sl }
 free:∀ b o,h.get? b=!o->H b=none->b ∉ ex->H' b=none
 there:∀ b o,h.get? b=!o->b ∉ ex->∃ o',h'.get? b=!o'
 gD:∀ b xs,H b=!.tup xs->H' b=!.tup xs
 gv:∀ b o u,H b=!.bX o u->H' b=!.bX o u
 gM:∀ b ps,H b=!.mG ps->∃ more,H' b=!.mG (ps++more)
section
variable {fs fs' ex ex':List Addr}{H H1 H2:Hp}{h h1 h2 h':Heap}{a x e:Addr}{o:HO}
def Un.any(u:Un fs ex H H1 h h1){b:Addr}{ob:Obj}(q:h.get? b=!ob)(n:H b=none)(hx:b ∉ ex):∃ sl,h1.get? b=!{ ob with slots:=sl }:=by
 by_cases hb:b∈fs
 ·show u.slot b ob q n hb hx
 ·show#[ob.slots,u.keep b ob q n hb hx]
def Un.kept(k:∀ b u,h.get? b=!u->h'.get? b=!u):Un fs ex H H h h' :=
 #[fun b ob q _ _ _=>k b ob q,fun b ob q _ _ _=>#[ob.slots,k b ob q],fun _ _ _ n _=>n,fun b ob q _=>#[ob,k b ob q],fun _ _ q=>q,fun _ _ _ q=>q,fun _ ps q=>#[(List.toArray []),by rw[q];simp]]
def Un.refl:Un fs ex H H h h:=Un.kept fun _ _ q=>q
def Un.laid(k:∀ b u,h.get? b=!u->h'.get? b=!u)(hp:h.objs.size<=a)(hn:H a=none):Un fs ex H (upd H a o) h h' where
 keep:=fun b u q _ _ _=>k b u q
 slot:=fun b u q _ _ _=>#[u.slots,k b u q]
 free:=fun b u q n _=>by rw[ah (zn (ww (wf q) hp))];show n
 there:=fun b u q _=>#[u,k b u q]
 gD:=fun b xs q=>by rw[ah (eQ q hn)];show q
 gv:=fun b u xs q=>by rw[ah (eQ q hn)];show q
 gM:=fun b ps q=>#[(List.toArray []),by rw[ah (eQ q hn),q];simp]
def Un.write(mu:qP (H x))(he:e=x\/H e=!.own x)(k:∀ b u,b≠e->h.get? b=!u->h'.get? b=!u)(rS:∃ u,h'.get? e=!u):Un fs ex H (upd H x o) h h':=by
 have hx:∀ b,H b=none->b≠x:=fun b n z=>by subst z;rw[n]at mu;show mu
 have hb:∀ b,H b=none->b≠e:=fun b n z=>by
  subst z;rcases he with r | r
  ·show hx b n r
  ·rw[n]at r;cases r
 have hm:∀ b u,H b=!u->¬ qP (!u)->b≠x:=fun b u q nm z=>by subst z;rw[q]at mu;show nm mu
 show#[fun b u q n _ _=>k b u (hb b n) q,fun b u q n _ _=>#[u.slots,k b u (hb b n) q],fun b u q n _=>by rw[ah (hx b n)];show n,fun b u q _=>?_,
  fun b xs q=>by rw[ah (hm b _ q fun z=>z)];show q,fun b u xs q=>by rw[ah (hm b _ q fun z=>z)];show q,fun b ps q=>#[(List.toArray []),by rw[ah (hm b _ q fun z=>z),q];simp]]
 by_cases pq:b=e
 ·subst pq;show rS
 ·show#[u,k b u pq q]
end
def  wz(h:Heap)(H:Hp):List Addr:=(List.range h.objs.size).filter fun a=>(H a).isSome
def  lJ(h:Heap)(H:Hp):Heap:=W.hideAll h (wz h H)
def TC(h:Heap)(H:Hp):(lJ h H).objs.size=h.objs.size:=W.hideAll_size _ _
def Yl{h:Heap}{H:Hp}{b:Addr}{o:Obj}(e:h.get? b=!o)(n:H b=none):(lJ h H).get? b=!o :=
 Jae _ e fun hm=>by
  have q:(H b).isSome=true:=(List.mem_filter.mp hm).2;rw[n]at q;simp at q
def UP{h:Heap}{H:Hp}{b:Addr}{o:Obj}(e:(lJ h H).get? b=!o):h.get? b=!o/\H b=none:=by
 have e':h.get? b=!o:=Jai (wz h H) e;show#[e',?_];cases q:H b with
 | none=>rfl
 | some x =>
  have hm:b∈wz h H:=List.mem_filter.mpr #[_Y.mpr (wf e'),by simp[q]];have z:(lJ h H).get? b=none:=W.hideAll_none (wz h H) hm;rw[z]at e;cases e
def  ZH(g h:Heap)(L:Addr):List (Addr×Obj):=(List.range h.objs.size).filterMap fun a=>if a=L\/(g.get? a).isSome=true then none else (h.get? a).map fun o=>(a,o)
def  rest(g h:Heap)(L d:Addr):List (Addr×Obj):=(ZH g h L).filter fun p=>decide (p.1≠d)
structure Mod(K:ν)(mg:Str->Option Value)(base:Heap):Prop where
 jb:K.In base
 glob:base.Ns mainGlobals mg
 blt:∃ mb,base.Ns builtinsNs mb/\∀ x:Str,x ≠ "__name__" -> mb x=bootBuiltins x
 nolimit:base.NoLimit
structure Cx where
 prog:Program
 w:World
 K:ν
 mg:Str->Option Value
 base:Heap
 A:Around
 N:List Str
 s₀:Shared
 H₀:Hp
 env:Env
 outer:List Env
 stack:List Env
 ex:List Addr
 fn:Str->Bool
 calm:Bool
 pn:List (Addr×Obj)
 xe:Value->Shared->Prop
def  cb(l:List Env):List Addr:=l.filterMap (·.frame)
abbrev Cx.fs(X:Cx):List Addr:=cb X.outer
def  tQ(sc:Scope)(x:Str):Prop:=sc.names.lookup x=!.local\/sc.names.lookup x=!.cell\/sc.names.lookup x=!.free
def  Loc(sc:Scope)(x:Str):Prop:=sc.names.lookup x=!.local\/sc.names.lookup x=!.cell
def  Look(env:Env)(h:Heap)(m:Str->Option Value)(x:Str)(u:Value):Prop :=
 (env.kindOf x=!.local/\m x=!u)\/((env.kindOf x=!.cell\/env.kindOf x=!.free)/\∃ c,env.cells.lookup x=!c/\h.IsCell c (!u))
structure Cx.Ok(X:Cx):Prop where
 mod:Mod X.K X.mg X.base
 kind:X.env.scope.kind=.function
 glob:X.env.globals=mainGlobals
 blt:X.env.builtins=builtinsNs
 above:X.s₀.heap.objs.size<=X.env.locals
 inj:∀ x y c,X.env.cells.lookup x=!c->X.env.cells.lookup y=!c->x=y
 has:∀ x,(X.env.kindOf x=!.cell\/X.env.kindOf x=!.free)->∃ c,X.env.cells.lookup x=!c
 sF:∀ x c,X.fn x=true->X.env.cells.lookup x=!c->X.s₀.heap.objs.size<=c
 hd:X.calm=true->X.A.handled=none
 frames:X.A.frames=!X.stack
 eP:X.stack=X.outer\/(X.stack=X.env::X.outer/\X.env.frame=!X.env.locals)
 IM:∀ b∈X.ex,b≠X.env.locals/\∀ x c,X.env.cells.lookup x=!c->c≠b
 bs:∀ b o,X.base.get? b=!o->X.s₀.heap.get? b=!o/\X.H₀ b=none
 lP:X.base.objs.size<=X.s₀.heap.objs.size
 sY:∀ b o,X.base.get? b=!o->b ∉ X.ex
 sr:∀ b∈X.ex,b ∉ X.fs
 iK:X.s₀.heap.FunFrames X.base X.outer
 nW:∀ b∈X.fs,X.H₀ b=none
structure Inv(X:Cx)(π:List (Addr×Obj))(σ:List (Option V))(H:Hp)(s:Shared):Prop where
 ok:X.Ok
 os:s.os=X.s₀.os
 bare:AllBare s.gens
 base:Un X.fs X.ex X.H₀ H X.s₀.heap s.heap
 loc:∃ m,s.heap.Ns X.env.locals m/\∀ (i:Nat) (x:Str) (v:V),X.N[i]?=!x->σ[i]?=!(!v)->tQ X.env.scope x->∃ u,RelV v u/\Look X.env s.heap m x u
 cell:∀ x c,X.env.cells.lookup x=!c->∃ v,s.heap.IsCell c v
 free:H X.env.locals=none
 jn:∀ x c,X.env.cells.lookup x=!c->H c=none
 pin:∀ p∈X.pn++π,s.heap.get? p.1=!p.2/\H p.1=none/\p.1≠X.env.locals/\p.1 ∉ X.fs/\∀ v,p.2.data≠.cell v
 aA:cy X.prog X.w H s.heap
 len:σ.length=X.N.length
section
variable {X:Cx}{π:List (Addr×Obj)}{σ:List (Option V)}{H H':Hp}{s:Shared}{h':Heap}
def Cx.Ok.Ru(ok:X.Ok){b:Addr}{o:Obj}(e:X.base.get? b=!o):b ∉ X.fs:=fun hb=>by
 have:=(ok.iK.mem hb).1;rw[e]at this;cases this
def Inv.bs(I:Inv X π σ H s):∀ b o,X.base.get? b=!o->s.heap.get? b=!o/\H b=none:=fun b o e =>
 #[I.base.keep b o (I.ok.bs b o e).1 (I.ok.bs b o e).2 (I.ok.Ru e) (I.ok.sY b o e),I.base.free b o (I.ok.bs b o e).1 (I.ok.bs b o e).2 (I.ok.sY b o e)]
def Inv.bk(I:Inv X π σ H s):∀ b o,X.base.get? b=!o->s.heap.get? b=!o:=fun b o e=>(I.bs b o e).1
def Inv.mod(I:Inv X π σ H s):Mod X.K X.mg X.base:=I.ok.mod
def Inv.cw(I:Inv X π σ H s):X.K.In s.heap:=I.ok.mod.jb.keeps I.bk
def Inv.lt(I:Inv X π σ H s):X.env.locals < s.heap.objs.size:=let ⟨_,hn,_⟩:=I.loc;hn.lt
def Inv.sz(I:Inv X π σ H s):X.s₀.heap.objs.size<=s.heap.objs.size:=tz I.ok.above (_Z I.lt)
def Inv.Hh(I:Inv X π σ H s){a:Addr}(h:s.heap.objs.size<=a):a ∉ X.fs:=fun hb=>by
 let⟨_,o,ho,_⟩:=I.ok.iK.mem hb;show absurd (ww (wf ho) (tz I.sz h)) (KB _)
def Inv.oK(I:Inv X π σ H s):∀ x c,X.env.cells.lookup x=!c->c≠X.env.locals:=fun x c e z=>by
 let⟨v,o,ho,hd⟩:=I.cell x c e;let⟨m,⟨o',es,ep,ho',hd',_⟩,_⟩:=I.loc;rw[z,ho']at ho;cases ho;rw[hd']at hd;cases hd
def Inv.iK(I:Inv X π σ H s):s.heap.FunFrames X.base X.outer:=by
 have all:∀ (l:List Env),(∀ b∈cb l,b∈X.fs)->X.s₀.heap.FunFrames X.base l->s.heap.FunFrames X.base l:=by
  intro l
  induction l with
  | nil=>intro _ _;trivial
  | cons env r ih =>
   intro hs hl;let⟨hk,⟨L,o,hf,hn,ho,hd⟩,hr⟩:=hl;have hL:L∈X.fs:=hs L (by unfold cb;rw[_l,hf];show _t);let⟨sl,e⟩:=I.base.slot L o ho (I.ok.nW L hL) hL fun z=>I.ok.sr L z hL;show#[hk,#[L,_,hf,hn,e,hd],ih (fun b hb=>hs b (by unfold cb;rw[_l,hf];show IN _ hb)) hr]
 show all X.outer (fun _ hb=>hb) I.ok.iK
def Inv.stack(I:Inv X π σ H s):s.heap.FunFrames X.base X.stack:=by
 rcases I.ok.eP with e | ⟨e,hf⟩
 ·rw[e];show I.iK
 ·rw[e];let⟨m,hn,_⟩:=I.loc;show .cons (by rw[I.ok.kind];decide) hf hn ?_ I.iK;show _J (tz I.ok.lP I.ok.above)
def Inv.xk(I:Inv X π σ H s):∀ b∈cb X.stack,b∈X.env.locals::X.fs:=fun b hb=>by
 rcases I.ok.eP with e | ⟨e,hf⟩
 ·rw[e]at hb;show IN _ hb
 ·rw[e]at hb;unfold cb at hb;rw[_l,hf]at hb;show hb
def Inv.wM(I:Inv X π σ H s):∀ b∈cb X.stack,H b=none:=fun b hb=>by
 rcases lv.mp (I.xk b hb) with e | hb
 ·rw[e];show I.free
 ·let⟨_,o,ho,_⟩:=I.ok.iK.mem hb;show I.base.free b o ho (I.ok.nW b hb) fun z=>I.ok.sr b z hb
def Inv.step{g':Array GenState}{t':Nat}{d':Drawn}{ch:List Addr}(I:Inv X π σ H s)(iG:∀ b∈ch,(b∈X.ex\/X.s₀.heap.objs.size<=b)/\b≠X.env.locals/\(∀ x c,X.env.cells.lookup x=!c->c≠b)/\∀ p∈X.pn++π,p.1≠b)(keep:∀ b o,b≠X.env.locals->b ∉ X.fs->b ∉ ch->s.heap.get? b=!o->H b=none->h'.get? b=!o)(slot:∀ b o,b≠X.env.locals->b∈X.fs->b ∉ ch->s.heap.get? b=!o->H b=none->∃ sl,h'.get? b=!{ o with slots:=sl })(free:∀ b o,b ∉ ch->s.heap.get? b=!o->H b=none->H' b=none)(there:∀ b o,b ∉ ch->s.heap.get? b=!o->∃ o',h'.get? b=!o')(gD:∀ b xs,H b=!.tup xs->H' b=!.tup xs)(gv:∀ b o u,H b=!.bX o u->H' b=!.bX o u)(gM:∀ b ps,H b=!.mG ps->∃ more,H' b=!.mG (ps++more))(ns:∀ m,s.heap.Ns X.env.locals m->h'.Ns X.env.locals m)(aA:cy X.prog X.w H' h')(hg:AllBare g') :
  Inv X π σ H' { s with heap:=h',gens:=g',drawn:=d',toks:=t' }:=by
 have wb:∀ b o,X.s₀.heap.get? b=!o->b≠X.env.locals:=fun b o e=>zn (ww (wf e) I.ok.above);have yR:∀ b o,X.s₀.heap.get? b=!o->b ∉ X.ex->b ∉ ch:=fun b o e hx hb=>by
  rcases (iG b hb).1 with z | z
  ·show hx z
  ·show absurd (ww (wf e) z) (KB _)
 have cellK:∀ x c,X.env.cells.lookup x=!c->∀ v,s.heap.IsCell c v->h'.IsCell c v:=fun x c e v #[o,ho,hd]=>by
  have vM:c ∉ ch:=fun z=>(iG c z).2.2.1 x c e rfl;by_cases hc:c∈X.fs
  ·let⟨sl,q⟩:=slot c o (I.oK x c e) hc vM ho (I.jn x c e);show#[_,q,hd]
  ·show#[o,keep c o (I.oK x c e) hc vM ho (I.jn x c e),hd]
 show#[I.ok,I.os,hg,#[fun b o e n hb hx=>?_,fun b o e n hb hx=>?_,fun b o e n hx=>?_,fun b o e hx=>?_,fun b xs e=>gD b xs (I.base.gD b xs e),fun b o xs e=>gv b o xs (I.base.gv b o xs e),fun b ps e=>?_],?_,fun x c e=>?_,?_,fun x c e=>?_,fun p hp=>?_,aA,I.len]
 ·show keep b o (wb b o e) hb (yR b o e hx) (I.base.keep b o e n hb hx) (I.base.free b o e n hx)
 ·let⟨sl,e1⟩:=I.base.slot b o e n hb hx;let⟨sl',e2⟩:=slot b _ (wb b o e) hb (yR b o e hx) e1 (I.base.free b o e n hx);show#[sl',e2]
 ·let⟨o',e1⟩:=I.base.there b o e hx;show free b o' (yR b o e hx) e1 (I.base.free b o e n hx)
 ·let⟨o',e1⟩:=I.base.there b o e hx;show there b o' (yR b o e hx) e1
 ·let⟨m1,e1⟩:=I.base.gM b ps e;let⟨m2,e2⟩:=gM b _ e1;show#[m1++m2,by rw[e2,Array.append_assoc]]
 ·let⟨m,hn,hl⟩:=I.loc;show#[m,ns m hn,fun i x v e1 e2 e3=>?_];let⟨u,r,l⟩:=hl i x v e1 e2 e3;show#[u,r,?_];rcases l with l | ⟨k,c,e,z⟩
  ·show .inl l
  ·show .inr #[k,c,e,cellK x c e _ z]
 ·let⟨v,z⟩:=I.cell x c e;show#[v,cellK x c e v z]
 ·let⟨m,⟨o,_,_,ho,_⟩,_⟩:=I.loc;show free _ o (fun z=>(iG _ z).2.1 rfl) ho I.free
 ·let⟨v,o,ho,hd⟩:=I.cell x c e;show free c o (fun z=>(iG c z).2.2.1 x c e rfl) ho (I.jn x c e)
 ·let⟨e,n,ne,nf,d⟩:=I.pin p hp;have vM:p.1 ∉ ch:=fun z=>(iG p.1 z).2.2.2 p hp rfl;show#[keep p.1 p.2 ne nf vM e n,free p.1 p.2 vM e n,ne,nf,d]
def Inv.un{t':Nat}(I:Inv X π σ H s)(u:Un X.fs [] H H' s.heap h')(aA:cy X.prog X.w H' h'):Inv X π σ H' { s with heap:=h',toks:=t' }:=by
 let⟨m,⟨o,es,ep,ho,r⟩,_⟩:=id I.loc;let⟨sl,hL⟩:=u.any ho I.free ();show I.step (g':=s.gens) (d':=s.drawn) (ch:=[]) (fun _ z=>nomatch z) (fun b o _ hb _ e n=>u.keep b o e n hb ()) (fun b o _ hb _ e n=>u.slot b o e n hb ()) (fun b o _ e n=>u.free b o e n ()) (fun b o _ e=>u.there b o e ()) u.gD u.gv u.gM (fun m' hm=>by
  let⟨o',es',ep',ho',r'⟩:=hm;rw[ho]at ho';cases ho';show#[_,es',ep',hL,r']) aA I.bare
def Inv.call{g':Array GenState}{t':Nat}{d':Drawn}{ch:List Addr}(I:Inv X π σ H s)(u:Un (cb X.stack) ch H H' s.heap h')(aA:cy X.prog X.w H' h')(hg:AllBare g')(iG:∀ b∈ch,(b∈X.ex\/X.s₀.heap.objs.size<=b)/\b≠X.env.locals/\(∀ x c,X.env.cells.lookup x=!c->c≠b)/\∀ p∈X.pn++π,p.1≠b) :
  Inv X π σ H' { s with heap:=h',gens:=g',drawn:=d',toks:=t' }:=by
 let⟨m,⟨o,es,ep,ho,r⟩,_⟩:=id I.loc;let⟨sl,hL⟩:=u.any ho I.free fun z=>(iG _ z).2.1 rfl;show I.step (ch:=ch) iG (fun b o hL hb hc e n=>u.keep b o e n (fun z=>(lv.mp (I.xk b z)).elim hL hb) hc) (fun b o _ _ hc e n=>u.any e n hc) (fun b o hc e n=>u.free b o e n hc) (fun b o hc e=>u.there b o e hc) u.gD u.gv u.gM (fun m' hm=>by
  let⟨o',es',ep',ho',r'⟩:=hm;rw[ho]at ho';cases ho';show#[_,es',ep',hL,r']) aA hg
def Inv.turned{t':Nat}{it:Addr}(I:Inv X π σ H s)(k:∀ b o,b≠it->s.heap.get? b=!o->h'.get? b=!o)(hn:H it=none)(hL:it≠X.env.locals)(h1:it∈X.ex\/X.s₀.heap.objs.size<=it)(h2:∀ x c,X.env.cells.lookup x=!c->c≠it)(h3:∀ p∈X.pn++π,p.1≠it):Inv X π σ H { s with heap:=h',toks:=t' }:=by
 have vH:∀ b u,H b=!u->b≠it:=fun b u e z=>by rw[z,hn]at e;cases e
 show I.step (g':=s.gens) (d':=s.drawn) (ch:=[it]) (fun b hb=>?_) (fun b o _ _ hc e _=>k b o (fun z=>hc (by simp[z])) e) (fun b o _ _ hc e _=>#[o.slots,k b o (fun z=>hc (by simp[z])) e]) (fun _ _ _ _ n=>n)
  (fun b o hc e=>#[o,k b o (fun z=>hc (by simp[z])) e]) (fun _ _ e=>e) (fun _ _ _ e=>e) (fun b ps e=>#[(List.toArray []),by rw[e];simp]) (fun m hm=>?_) (fun b u e=>?_) I.bare
 ·have e:b=it:=by simpa using hb
  subst e;show#[h1,hL,h2,h3]
 ·let⟨o,es,ep,ho,r⟩:=hm;show#[o,es,ep,k _ o (ut hL) ho,r]
 ·show(I.aA b u e).gL (fun c v hc q=>k c v ?_ q) (fun _ q=>q) fun _ _ q=>q;rcases hc with z | z
  ·rw[z];show vH b u e
  ·show vH c _ z
def Inv.tok(I:Inv X π σ H s)(t:Nat):Inv X π σ H { s with toks:=t }:=I.un (h':=s.heap) (t':=t) Un.refl I.aA
def Inv.kept{t':Nat}(I:Inv X π σ H s)(k:∀ b u,s.heap.get? b=!u->h'.get? b=!u):Inv X π σ H { s with heap:=h',toks:=t' }:=I.un (Un.kept k) (I.aA.kept k)
def Inv.laid{a:Addr}{o:HO}{t':Nat}(I:Inv X π σ H s)(k:∀ b u,s.heap.get? b=!u->h'.get? b=!u)(hp:s.heap.objs.size<=a)(new:cg X.prog X.w (upd H a o) h' a o) :
  Inv X π σ (upd H a o) { s with heap:=h',toks:=t' }:=I.un (Un.laid k hp (I.aA.fresh hp)) (I.aA.laid k hp new)
def Inv.write{x e:Addr}{o:HO}{t':Nat}(I:Inv X π σ H s)(mu:qP (H x))(he:e=x\/H e=!.own x)(k:∀ b u,b≠e->s.heap.get? b=!u->h'.get? b=!u)(rS:∃ u,h'.get? e=!u)(new:cg X.prog X.w (upd H x o) h' x o):Inv X π σ (upd H x o) { s with heap:=h',toks:=t' }:=I.un (Un.write mu he k rS) (I.aA.write mu he k rS new)
def Inv.uT{π':List (Addr×Obj)}(I:Inv X π σ H s)(h:∀ p∈π',s.heap.get? p.1=!p.2/\H p.1=none/\p.1≠X.env.locals/\p.1 ∉ X.fs/\∀ v,p.2.data≠.cell v):Inv X π' σ H s :=
 #[I.ok,I.os,I.bare,I.base,I.loc,I.cell,I.free,I.jn,fun p hp=>(AC.mp hp).elim (fun z=>I.pin p (xz _ z)) (h p),I.aA,I.len]
def Ki{N:List Str}(hN:N.Nodup){i j:Nat}{x:Str}(a:N[i]?=!x)(b:N[j]?=!x):i=j:=by
 let⟨h1,e1⟩:=ss.mp a;let⟨h2,e2⟩:=ss.mp b;show(List.getElem_inj hN).mp (e1.trans e2.symm)
def Gr{M:Model}{A:Around}{E:Value->Shared->Prop}{i:Nat}{x:Str}{v:V}{u:Value}{Q:Unit->Shared->Prop}(I:Inv X π σ H s)(hN:X.N.Nodup)(hi:X.N[i]?=!x)(hx:Loc X.env.scope x)(r:RelV v u)(h:∀ s',Inv X π (σ.set i (!v)) H s'->(∃ a,Heap.SameBut a s.heap s'.heap/\(a=X.env.locals\/X.env.cells.lookup x=!a))->Q .unit s')(hf:X.fn x=true\/X.env.scope.names.lookup x=!.local:=by first | show .inl rfl | show .inr rfl | assumption):wpAny M A (storeName X.env x u) Q E s:=by
 let⟨m,hn,hl⟩:=id I.loc;have hcls:(X.env.scope.kind == .class || (X.env.scope.kind == .module && X.env.locals != X.env.globals))=false:=by rw[I.ok.kind];rfl
 have MK:i < σ.length:=by rw[I.len];show(ss.mp hi).1
 have oK:=I.oK;have tracked:∀ {a:Addr}{h':Heap},(∃ o,s.heap.get? a=!o/\H a=none)->Heap.SameBut a s.heap h'->cy X.prog X.w H h':=fun {a h'} ha hs b ob e=>by
  let⟨_,_,kq⟩:=ha;show(I.aA b ob e).gL (fun c w' hc q=>(hs.2 c ?_).trans q) (fun _ q=>q) fun _ _ q=>q;rintro rfl;rcases hc with rfl | hc
  ·rw[kq]at e;cases e
  ·rw[kq]at hc;cases hc
 rcases hx with hk | hk
 ·show wpAny_storeName_local hk hn (fun h' hn' hs=>?_) hcls;let⟨oL,_,_,l9,_⟩:=id hn;show h _ #[I.ok,I.os,I.bare,#[fun b o e n hb hx=>?_,fun b o e n hb hx=>?_,I.base.free,fun b o e hx=>?_,I.base.gD,I.base.gv,I.base.gM],#[_,hn',fun j y v' e1 e2 e3=>?_],fun y c e=>?_,I.free,I.jn,fun p hp=>?_,tracked #[oL,l9,I.free] hs,by simpa using I.len] #[_,hs,.inl rfl]
  ·show(hs.2 b (zn (ww (wf e) I.ok.above))).trans (I.base.keep b o e n hb hx)
  ·let⟨sl,e1⟩:=I.base.slot b o e n hb hx;show#[sl,(hs.2 b (zn (ww (wf e) I.ok.above))).trans e1]
  ·let⟨o',e1⟩:=I.base.there b o e hx;show#[o',(hs.2 b (zn (ww (wf e) I.ok.above))).trans e1]
  ·by_cases hj:j=i
   ·subst hj;rw[hi]at e1;cases e1;rw[P3 MK]at e2;cases e2;show#[u,r,.inl #[hk,()]]
   ·rw[Ps (ut hj)]at e2;let⟨u',r',q⟩:=hl j y v' e1 e2 e3;show#[u',r',?_];rcases q with ⟨k,e⟩ | ⟨k,c,e,z⟩
    ·show .inl #[k,?_];have:y≠x:=fun e=>hj (Ki hN e1 (e ▸ hi));simp[this,e]
    ·show .inr #[k,c,e,z.sameBut hs (oK y c e)]
  ·let⟨w',z⟩:=I.cell y c e;show#[w',z.sameBut hs (oK y c e)]
  ·let⟨e,n,ne,nf,d⟩:=I.pin p hp;show#[(hs.2 p.1 ne).trans e,n,ne,nf,d]
 ·have EK:X.fn x=true:=by
   rcases hf with z | z
   ·show z
   ·rw[z]at hk;cases hk
  let⟨c,hc⟩:=I.ok.has x (.inl hk);let⟨w',z⟩:=I.cell x c hc;show wpAny_storeName_cell I.ok.kind hk hc z (fun h' hc' hs=>?_);let⟨oc,NQ,hocd⟩:=id z;show h { s with heap:=h' } #[I.ok,I.os,I.bare,#[fun b o e n hb hx=>?_,fun b o e n hb hx=>?_,I.base.free,fun b o e hx=>?_,I.base.gD,I.base.gv,I.base.gM],#[m,hn.sameBut hs (ut (oK x c hc)),fun j y v' e1 e2 e3=>?_],fun y c' e=>?_,I.free,I.jn,fun p hp=>?_,tracked #[oc,NQ,I.jn x c hc] hs,by simpa using I.len] #[c,hs,.inr hc]
  ·show(hs.2 b (zn (ww (wf e) (I.ok.sF x c EK hc)))).trans (I.base.keep b o e n hb hx)
  ·let⟨sl,e1⟩:=I.base.slot b o e n hb hx;show#[sl,(hs.2 b (zn (ww (wf e) (I.ok.sF x c EK hc)))).trans e1]
  ·let⟨o',e1⟩:=I.base.there b o e hx;show#[o',(hs.2 b (zn (ww (wf e) (I.ok.sF x c EK hc)))).trans e1]
  ·by_cases hj:j=i
   ·subst hj;rw[hi]at e1;cases e1;rw[P3 MK]at e2;cases e2;show#[u,r,.inr #[.inl hk,c,hc,hc']]
   ·rw[Ps (ut hj)]at e2;let⟨u',r',q⟩:=hl j y v' e1 e2 e3;show#[u',r',?_];rcases q with q | ⟨k,c',e,z'⟩
    ·show .inl q
    ·show .inr #[k,c',e,z'.sameBut hs ?_];rintro rfl;show hj (Ki hN e1 (I.ok.inj _ _ _ e hc ▸ hi))
  ·by_cases y6:c'=c
   ·subst y6;show#[_,hc']
   ·let⟨w2,z2⟩:=I.cell y c' e;show#[w2,z2.sameBut hs y6]
  ·let⟨e,n,ne,nf,d⟩:=I.pin p hp;show#[(hs.2 p.1 ?_).trans e,n,ne,nf,d];intro q;rw[q,NQ]at e;have q':oc=p.2:=Id e;show d w' (by rw[<- q'];show hocd)
def Ha{M:Model}{A:Around}{E:Value->Shared->Prop}{i:Nat}{x:Str}{v:V}{u:Value}{Q:Unit->Shared->Prop}(I:Inv X π σ H s)(hN:X.N.Nodup)(hi:X.N[i]?=!x)(hx:Loc X.env.scope x)(r:RelV v u)(h:∀ s',Inv X π (σ.set i (!v)) H s'->Q .unit s')(hf:X.fn x=true\/X.env.scope.names.lookup x=!.local:=by first | show .inl rfl | show .inr rfl | assumption):wpAny M A (storeName X.env x u) Q E s :=
 Gr I hN hi hx r (fun s' I' _=>h s' I') hf
def Inv.LQ{s':Shared}{ch:List Addr}(I:Inv X π σ H s)(ho:s'.os=s.os)(u:Un (cb X.stack) ch H H' s.heap s'.heap)(aA:cy X.prog X.w H' s'.heap)(hg:AllBare s'.gens)(iG:∀ b∈ch,(b∈X.ex\/X.s₀.heap.objs.size<=b)/\b≠X.env.locals/\(∀ x c,X.env.cells.lookup x=!c->c≠b)/\∀ p∈X.pn++π,p.1≠b):Inv X π σ H' s':=by
 let⟨h',g',d',t',o'⟩:=s';have e:o'=s.os:=ho;subst e;show I.call (g':=g') (t':=t') (d':=d') u aA hg iG
end
abbrev XK:=Value->Option Addr->Hp->Prop
abbrev St:=List (Option V)
abbrev VK:=V->Hp->Prop
abbrev TE:=St->Hp->VK->Prop
abbrev TT:=St->Hp->(Bool->Hp->Prop)->Prop
abbrev TA:=St->Hp->(List V->Hp->Prop)->Prop
structure Ends where
 nx:St->Hp->Prop
 rt:VK
 bk:St->Hp->Prop:=fun _ _=>False
 ct:St->Hp->Prop:=fun _ _=>False
abbrev TS:=Ends->St->Hp->Prop
def  EP(X:Cx)(π:List (Addr×Obj))(σ:St)(Q:VK)(u:Value)(s':Shared):Prop:=∃ v H',Inv X π σ H' s'/\RelV v u/\Q v H'
def  TP(X:Cx)(π:List (Addr×Obj))(σ:St)(Q:Bool->Hp->Prop)(b:Bool)(s':Shared):Prop:=∃ H',Inv X π σ H' s'/\Q b H'
def  AP(X:Cx)(π:List (Addr×Obj))(σ:St)(Q:List V->Hp->Prop)(us:List Value)(s':Shared):Prop:=∃ vs H',Inv X π σ H' s'/\Vals vs us/\Q vs H'
def  SP(X:Cx)(π:List (Addr×Obj))(D:Ends)(f:Flow)(s':Shared):Prop :=
 match f with
 | .next=>∃ σ' H',Inv X π σ' H' s'/\D.nx σ' H'
 | .brk=>∃ σ' H',Inv X π σ' H' s'/\D.bk σ' H'
 | .cont=>∃ σ' H',Inv X π σ' H' s'/\D.ct σ' H'
 | .ret u=>∃ v σ' H',Inv X π σ' H' s'/\RelV v u/\D.rt v H'
def  PE(X:Cx)(e:Expr)(t:TE):Prop :=
 ∀ (π:List (Addr×Obj)) (s:Shared) (σ:St) (H:Hp) (Q:VK),Inv X π σ H s->t σ H Q->wpAny (model X.prog X.w) X.A (eval e X.env) (EP X π σ Q) X.xe s
def  PT(X:Cx)(e:Expr)(t:TT):Prop :=
 ∀ (π:List (Addr×Obj)) (s:Shared) (σ:St) (H:Hp) (Q:Bool->Hp->Prop),Inv X π σ H s->t σ H Q->wpAny (model X.prog X.w) X.A (isTrue e X.env (eval e X.env)) (TP X π σ Q) X.xe s
def  PW(X:Cx)(e:Expr)(t:TT):Prop :=
 ∀ (whole:Sem Value) (π:List (Addr×Obj)) (s:Shared) (σ:St) (H:Hp) (Q:Bool->Hp->Prop),Inv X π σ H s->t σ H Q->wpAny (model X.prog X.w) X.A (isTrue e X.env whole) (TP X π σ Q) X.xe s
def PW.pt{X:Cx}{e:Expr}{t:TT}(h:PW X e t):PT X e t:=h _
def  PA(X:Cx)(es:List Expr)(t:TA):Prop :=
 ∀ (pos:Pos) (π:List (Addr×Obj)) (s:Shared) (σ:St) (H:Hp) (Q:List V->Hp->Prop),Inv X π σ H s->t σ H Q->wpAny (model X.prog X.w) X.A (spliced (backTo pos (starEach es X.env))) (AP X π σ Q) X.xe s
def  PS(X:Cx)(st:Stmt)(t:TS):Prop :=
 ∀ (π:List (Addr×Obj)) (s:Shared) (σ:St) (H:Hp) (D:Ends),Inv X π σ H s->t D σ H->wpAny (model X.prog X.w) X.A (exec st X.env) (SP X π D) X.xe s
def  eE(X:Cx)(st:List Stmt)(t:TS):Prop :=
 ∀ (π:List (Addr×Obj)) (s:Shared) (σ:St) (H:Hp) (D:Ends),Inv X π σ H s->t D σ H->wpAny (model X.prog X.w) X.A (execs st X.env) (SP X π D) X.xe s
def aE{α:Type}{t:Sem α}{Q Q':α->Shared->Prop}{M:Model}{A:Around}{E:Value->Shared->Prop}{s:Shared}(h:wpAny M A t Q E s)(hQ:∀ a s,Q a s->Q' a s):wpAny M A t Q' E s:=Re h hQ fun _ _ x=>x
section
variable {X:Cx}
def  Ga(i:Nat):TE:=fun σ H Q=>∃ v,σ[i]?=!(!v)/\Q v H
def  tC(v:V):TE:=fun _ H Q=>Q v H
def Iy{i:Nat}{x:Str}{pos:Pos}(hN:X.N[i]?=!x)(hv:tQ X.env.scope x)(hd:(x == ("__debug__":Str))=false:=by decide)(dD:(x == ("__classdict__":Str))=false:=by decide):PE X (.Name x pos) (Ga i):=by
 intro π s σ H Q I h;let⟨v,e,h⟩:=h;let⟨m,hn,hl⟩:=I.loc;let⟨u,r,l⟩:=hl i x v hN e hv;have fin:EP X π σ Q u s:=#[v,H,I,r,h];rcases l with ⟨hk,hm⟩ | ⟨hk,c,hc,NN⟩
 ·show wpAny_Name (wpAny_loadName_local I.ok.kind hk hn hm fin) hd
 ·rcases hk with hk | hk
  ·show wpAny_Name (wpAny_loadName_cell I.ok.kind hk hc NN fin) hd
  ·show wpAny_Name (wpAny_loadName_free I.ok.kind hk hc NN fin dD) hd
def WL{i j pos}:PE X (.Constant (.int i) j pos) (tC (.int i)):=fun _ _ _ H _ I h=>wpAny_Constant_int #[.int i,H,I.tok _,#[_,rfl],h]
def Yy{b j pos}:PE X (.Constant (.bool b) j pos) (tC (.bl b)):=fun _ _ _ H _ I h=>Constant_bool #[.bl b,H,I,rfl,h]
def Yg{j pos}:PE X (.Constant .none j pos) (tC .ao):=fun _ _ _ H _ I h=>Constant_none #[.ao,H,I,rfl,h]
def XG{x j pos}:PE X (.Constant (.str x) j pos) (tC (.str x)):=fun _ _ _ H _ I h=>Calls.Constant_str #[.str x,H,I.tok _,#[_,rfl],h]
def  Gl(X:Cx)(x:Str):Prop:=X.env.kindOf x=!.globalImplicit
def mR{E:Value->Shared->Prop}{π:List (Addr×Obj)}{s:Shared}{σ:St}{H:Hp}{x:Str}{u:Value}{pos:Pos}{Q:Value->Shared->Prop}(I:Inv X π σ H s)(hg:Gl X x)(hm:X.mg x=!u)(h:Q u s)(hd:(x == ("__debug__":Str))=false:=by decide):wpAny (model X.prog X.w) X.A (eval (.Name x pos) X.env) Q E s :=
 Calls.Name_function_global I.ok.kind hg (Calls.loadGlobal_global (by rw[I.ok.glob];show I.mod.glob.keeps I.bk) hm h) hd
def oQ{E:Value->Shared->Prop}{π:List (Addr×Obj)}{s:Shared}{σ:St}{H:Hp}{x:Str}{u:Value}{pos:Pos}{Q:Value->Shared->Prop}(I:Inv X π σ H s)(hg:Gl X x)(hm:X.mg x=none)(hv:bootBuiltins x=!u)(h:Q u s)(hn:x ≠ "__name__" := by decide)(hd:(x == ("__debug__":Str))=false:=by decide):wpAny (model X.prog X.w) X.A (eval (.Name x pos) X.env) Q E s:=by
 let⟨mb,h1,h2⟩:=I.mod.blt;show Calls.Name_function_global I.ok.kind hg (Calls.loadGlobal_builtin (by rw[I.ok.glob];show I.mod.glob.keeps I.bk) hm (by rw[I.ok.blt];show h1.keeps I.bk) ((h2 x hn).trans hv) h) hd
def RA{x:Str}{v:V}{u:Value}{pos:Pos}(hg:Gl X x)(hm:X.mg x=!u)(r:RelV v u)(hd:(x == ("__debug__":Str))=false:=by decide):PE X (.Name x pos) (tC v) :=
 fun _ _ _ H _ I h=>mR I hg hm #[v,H,I,r,h] hd
def aa5{x:Str}{v:V}{u:Value}{pos:Pos}(hg:Gl X x)(hm:X.mg x=none)(hv:bootBuiltins x=!u)(r:RelV v u)(hn:x ≠ "__name__" := by decide)(hd:(x == ("__debug__":Str))=false:=by decide):PE X (.Name x pos) (tC v) :=
 fun _ _ _ H _ I h=>oQ I hg hm hv #[v,H,I,r,h] hn hd
def  Qq(ta tb:TE)(k:Int->Int->Hp->Prop):St->Hp->Prop:=fun σ H=>ta σ H fun x H1=>tb σ H1 fun y H2=>∃ i j,x=.int i/\y=.int j/\k i j H2
variable {a b:Expr}{ta tb:TE}{pos:Pos}
def  PC(X:Cx)(op:CmpOp)(a b:Expr)(t:TE):Prop :=
 ∀ (π:List (Addr×Obj)) (s:Shared) (σ:St) (H:Hp) (Q:VK),Inv X π σ H s->t σ H Q ->
  wpAny (model X.prog X.w) X.A (eval a X.env) (fun v s₁=>wpAny (model X.prog X.w) X.A (eval b X.env) (fun u s₂=>wpAny (model X.prog X.w) X.A (compareOp op v u) (EP X π σ Q) X.xe s₂) X.xe s₁) X.xe s
def wD(b:Expr){op:CmpOp}(h:op≠.In)(h2:op≠.NotIn):behindInMarks op b=false:=by
 have e1:(op == CmpOp.In)=false:=by cases op <;> first | rfl | show absurd rfl h
 have e2:(op == CmpOp.NotIn)=false:=by cases op <;> first | rfl | show absurd rfl h2
 cases b <;> simp[behindInMarks,e1,e2]
def  rg(p:Int->Int->Bool)(ta tb:TE):TE:=fun σ H Q=>Qq ta tb (fun i j H2=>Q (.bl (p i j)) H2) σ H
abbrev tLt:TE->TE->TE:=rg fun i j=>decide (i < j)
abbrev tLe:TE->TE->TE:=rg fun i j=>decide (i<=j)
abbrev tGt:TE->TE->TE:=rg fun i j=>decide (j < i)
abbrev tGe:TE->TE->TE:=rg fun i j=>decide (j<=i)
abbrev abD:TE->TE->TE:=rg fun i j=>decide (i=j)
abbrev abN:TE->TE->TE:=rg fun i j=>Bool.not (decide (i=j))
def  aaX(ta:TE):TE:=fun σ H Q=>ta σ H fun x H1=>Q (.bl (decide (x=.ao))) H1
def  tB(t:TE):TT:=fun σ H Q=>t σ H fun x H1=>∃ c,x=.bl c/\Q c H1
variable {tA tB':TT}{rest:List Expr}
def  Dc(t u:TT):TT:=fun σ H Q=>t σ H fun c H1=>if c=true then u σ H1 Q else Q false H1
def  BS(t u:TT):TT:=fun σ H Q=>t σ H fun c H1=>if c=true then Q true H1 else u σ H1 Q
def  Ct(t:TT):TT:=fun σ H Q=>t σ H fun c H1=>Q (Bool.not c) H1
def Rp(ha:PT X a tA):PW X (.BoolOp .And [a] pos) tA:=by
 intro wh π s σ H Q I h;show isTrue_and (aE (ha π s σ H Q I h) fun c s1 e=>?_);cases c with
 | true=>show isTrue_and_nil e
 | false=>show e
def P4(ha:PT X a tA):PW X (.BoolOp .Or [a] pos) tA:=by
 intro wh π s σ H Q I h;show isTrue_or (aE (ha π s σ H Q I h) fun c s1 e=>?_);cases c with
 | false=>show isTrue_or_nil e
 | true=>show e
def U6(ha:PT X a tA)(hb:PW X (.BoolOp .And (b::rest) pos) tB'):PW X (.BoolOp .And (a::b::rest) pos) (Dc tA tB'):=by
 intro wh π s σ H Q I h;show isTrue_and (aE (ha π s σ H _ I h) fun c s1 #[H1,I1,q1]=>?_);cases c with
 | true=>show hb wh π s1 σ H1 Q I1 q1
 | false=>show#[H1,I1,q1]
def ZO(ha:PT X a tA)(hb:PW X (.BoolOp .Or (b::rest) pos) tB'):PW X (.BoolOp .Or (a::b::rest) pos) (BS tA tB'):=by
 intro wh π s σ H Q I h;show isTrue_or (aE (ha π s σ H _ I h) fun c s1 #[H1,I1,q1]=>?_);cases c with
 | true=>show#[H1,I1,q1]
 | false=>show hb wh π s1 σ H1 Q I1 q1
def Tr(ha:PT X a tA):PT X (.UnaryOp .Not a pos) (Ct tA):=by
 intro π s σ H Q I h;show isTrue_not (ha π s σ H (fun c H1=>Q (Bool.not c) H1) I h)
def Xb{op}{t:TE}(h:PE X a t):PE X (.BoolOp op [a] pos) t:=fun π s σ H Q I hw=>BoolOp_one (h π s σ H Q I hw)
def  zP(t:TT)(ta tb:TE):TE:=fun σ H Q=>t σ H fun c H1=>if c=true then ta σ H1 Q else tb σ H1 Q
def Tb{c:Expr}(hc:PT X c tA)(ha:PE X a ta)(hb:PE X b tb):PE X (.IfExp c a b pos) (zP tA ta tb):=by
 intro π s σ H Q I h;show wpAny_IfExp (aE (hc π s σ H _ I h) fun d s1 #[H1,I1,q1]=>?_);cases d with
 | true=>show ha π s1 σ H1 Q I1 q1
 | false=>show hb π s1 σ H1 Q I1 q1
end
def  aB(K:ν)(H:Hp)(a:Addr)(xs:List V):Prop :=
 Rd H a (.lst xs) \/
  ∃ (o:Obj) (ai:Array Value) (n:Nat),K.lookup a=!o/\o.cls=.type "list" /\ o.dict=none/\o.data=.seq ai n/\ai.size<=sizeLine/\Vals xs ai.toList
def  bE(K:ν)(H:Hp)(a:Addr)(xs:List V):Prop :=
 Rd H a (.tup xs) \/
  ∃ (o:Obj) (ai:Array Value) (n:Nat),K.lookup a=!o/\o.cls=.type "tuple" /\ o.data=.seq ai n/\ai.size<=sizeLine/\Vals xs ai.toList
def  aa6:Value->Option V
 | .none=>!.ao
 | .bool b=>!.bl b
 | .int i _=>!.int i
 | .str x _=>!.str x
 | .bytes b _=>!.byt b
 | .float b _=>!.oj b
 | .ref a=>!-a
 | .type n=>!.ty n
 | _=>none
def RelV.abs{x:V}{u:Value}(r:RelV x u):aa6 u=!x:=by
 cases x with
 | ao=>cases r;rfl
 | bl _=>cases r;rfl
 | int _=>let⟨t,rfl⟩:=r;rfl
 | str _=>let⟨t,rfl⟩:=r;rfl
 | byt _=>let⟨t,rfl⟩:=r;rfl
 | oj _=>let⟨t,rfl⟩:=r;rfl
 | ref _=>cases r;rfl
 | ty _=>cases r;rfl
def RelV.inj{x y:V}{u:Value}(r:RelV x u)(q:RelV y u):x=y:=Id (r.abs.symm.trans q.abs)
def Vals.inj:∀ {xs ys:List V}{us:List Value},Vals xs us->Vals ys us->xs=ys
 | _,_,_,.nil,.nil=>rfl
 | _,_,_,.cons r t,.cons r' t'=>by rw[r.inj r',Vals.inj t t']
section
variable {X:Cx}{π:List (Addr×Obj)}{σ:St}{H:Hp}{s:Shared}{a:Addr}{xs ys:List V}
def aB.of{K:ν}(h:H a=!.lst xs):aB K H a xs:=.inl (.inl h)
def bE.of{K:ν}(h:H a=!.tup xs):bE K H a xs:=.inl (.inl h)
def Inv.list(I:Inv X π σ H s)(h:aB X.K H a xs):∃ ai:List Value,Vals xs ai/\PlainL s.heap a ai.toArray/\xs.length<=sizeLine:=by
 rcases h with h | ⟨o,ai,n,hk,hc,hd,hs,hz,r⟩
 ·let⟨z,ai,n,r,e⟩:=h.ok I.aA;show#[ai,r,#[_,n,e,rfl,rfl,rfl],z]
 ·show#[ai.toList,r,#[o,n,I.cw a o hk,hc,hd,by simpa using hs],?_];have e:=r.length;simp only[Uf]at e;omega
def Inv.tuple(I:Inv X π σ H s)(h:bE X.K H a xs):∃ ai:List Value,Vals xs ai/\IsTup s.heap a ai.toArray/\xs.length<=sizeLine:=by
 rcases h with h | ⟨o,ai,n,hk,hc,hs,hz,r⟩
 ·let⟨z,ai,r,p⟩:=h.ok I.aA;show#[ai,r,p.t,z]
 ·show#[ai.toList,r,#[o,I.cw a o hk,hc,n,by simpa using hs],?_];have e:=r.length;simp only[Uf]at e;omega
def Inv.aaR(I:Inv X π σ H s)(h:aB X.K H a xs)(h':aB X.K H a ys):xs=ys:=by
 let⟨ai,r,⟨o,n,e,_,_,d⟩,_⟩:=I.list h;let⟨its',r',⟨o',n',e',_,_,d'⟩,_⟩:=I.list h';rw[e]at e';cases e';rw[d]at d';injection d' with d1 _;have:ai=its':=by simpa using On Array.toList d1
 subst this;show r.inj r'
end
abbrev Cx.fC(X:Cx)(E:Value->Shared->Prop):Cx:={ X with xe:=E }
abbrev Cx.qH(X:Cx):Cx:=X.fC fun _ _=>False
def Cx.Ok.fC{X:Cx}(ok:X.Ok)(E:Value->Shared->Prop):(X.fC E).Ok :=
 #[ok.mod,ok.kind,ok.glob,ok.blt,ok.above,ok.inj,ok.has,ok.sF,ok.hd,ok.frames,ok.eP,ok.IM,ok.bs,ok.lP,ok.sY,ok.sr,ok.iK,ok.nW]
def Cx.Ok.mm{X:Cx}{E:Value->Shared->Prop}(ok:(X.fC E).Ok):X.Ok :=
 #[ok.mod,ok.kind,ok.glob,ok.blt,ok.above,ok.inj,ok.has,ok.sF,ok.hd,ok.frames,ok.eP,ok.IM,ok.bs,ok.lP,ok.sY,ok.sr,ok.iK,ok.nW]
section
variable {X:Cx}{π:List (Addr×Obj)}{σ:St}{H:Hp}{s:Shared}{E:Value->Shared->Prop}
def Inv.fC(I:Inv X π σ H s)(E:Value->Shared->Prop):Inv (X.fC E) π σ H s:=#[I.ok.fC E,I.os,I.bare,I.base,I.loc,I.cell,I.free,I.jn,I.pin,I.aA,I.len]
def Inv.mm(I:Inv (X.fC E) π σ H s):Inv X π σ H s:=#[I.ok.mm,I.os,I.bare,I.base,I.loc,I.cell,I.free,I.jn,I.pin,I.aA,I.len]
def SP.mm{D:Ends}{f:Flow}{s':Shared}(h:SP (X.fC E) π D f s'):SP X π D f s':=by
 cases f with
 | next=>let⟨σ',H',I,q⟩:=h;show#[σ',H',I.mm,q]
 | brk=>let⟨σ',H',I,q⟩:=h;show#[σ',H',I.mm,q]
 | cont=>let⟨σ',H',I,q⟩:=h;show#[σ',H',I.mm,q]
 | ret u=>let⟨v,σ',H',I,r,q⟩:=h;show#[v,σ',H',I.mm,r,q]
def eE.qH{st:List Stmt}{t:TS}(h:eE X.qH st t):eE X st t:=fun π s σ H D I hw =>
 Re (h π s σ H D (I.fC _) hw) (fun _ _ q=>q.mm) fun _ _ z=>False.elim z
end
section
variable {X:Cx}{st:Stmt}{rest:List Stmt}{t u:TS}{e:Expr}{te:TE}{pos:Pos}
def  Ce:TS:=fun D σ H=>D.nx σ H
def  Pu(t u:TS):TS:=fun D σ H=>t { D with nx:=u D } σ H
def aav:eE X [] Ce:=fun _ _ σ H _ I h=>Ja8 #[σ,H,I,h]
def Rv(h1:PS X st t)(h2:eE X rest u):eE X (st::rest) (Pu t u):=by
 intro π s σ H D I h;show wpAny_execs_cons (aE (h1 π s σ H { D with nx:=u D } I h) fun f s1 q=>?_);cases f with
 | next =>
  let⟨σ',H',I',q⟩:=q;show h2 π s1 σ' H' D I' q
 | ret v=>show q
 | brk=>show q
 | cont=>show q
def QC(h1:PS X st t):eE X [st] t:=by
 intro π s σ H D I h;show wpAny_execs_cons (aE (h1 π s σ H D I h) fun f s1 q=>?_);cases f with
 | next=>show Ja8 q
 | ret v=>show q
 | brk=>show q
 | cont=>show q
def Inv.quiet{π:List (Addr×Obj)}{σ:St}{H:Hp}{s:Shared}(I:Inv X π σ H s):interactive X.env=false:=by simp[interactive,I.ok.kind]
def  B2(te:TE):TS:=fun D σ H=>te σ H fun _ H1=>D.nx σ H1
def RM(he:PE X e te)(hs:swapsWith e none pos.line X.env=pure false:=by rfl):PS X (.Expr e pos) (B2 te):=by
 intro π s σ H D I h;show wpAny_Expr_any (aE (he π s σ H _ I h) fun v s1 #[x,H1,I1,r1,q1]=>#[σ,H1,I1,q1]) I.quiet hs
def  DT(te:TE):TS:=fun D σ H=>te σ H D.rt
def UY(he:PE X e te):PS X (.Return (!e) pos) (DT te):=by
 intro π s σ H D I h;show wpAny_Return_some (aE (he π s σ H _ I h) fun v s1 #[x,H1,I1,r1,q1]=>#[x,σ,H1,I1,r1,q1])
def  C2:TS:=fun D _ H=>D.rt .ao H
def Xa:PS X (.Return none pos) C2:=fun _ _ σ H _ I h=>wpAny_Return_none #[.ao,σ,H,I,rfl,h]
def  tK(c:TT)(t u:TS):TS:=fun D σ H=>c σ H fun b H1=>if b=true then t D σ H1 else u D σ H1
def UM{c:Expr}{a b:List Stmt}{tc:TT}(hc:PT X c tc)(ha:eE X a t)(hb:eE X b u):PS X (.If c a b pos) (tK tc t u):=by
 intro π s σ H D I h;show wpAny_If (aE (hc π s σ H _ I h) fun d s1 #[H1,I1,q1]=>?_);cases d with
 | true=>show ha π s1 σ H1 D I1 q1
 | false=>show hb π s1 σ H1 D I1 q1
def  zy:TS:=fun _ _ _=>False
def Z7:PS X st zy:=fun _ _ _ _ _ _ h=>h.elim
end
abbrev TG:=V->St->Hp->(St->Hp->Prop)->Prop
abbrev jQ:=List V->St->Hp->(St->Hp->Prop)->Prop
def  PG(X:Cx)(target:Expr)(t:TG):Prop :=
 ∀ (π:List (Addr×Obj)) (s:Shared) (σ:St) (H:Hp) (v:V) (u:Value) (Q:St->Hp->Prop),Inv X π σ H s->RelV v u->t v σ H Q ->
  wpAny (model X.prog X.w) X.A (assign target X.env u) (fun _ s'=>∃ σ' H',Inv X π σ' H' s'/\Q σ' H') X.xe s
def  uH(X:Cx)(ts:List Expr)(t:jQ):Prop :=
 ∀ (π:List (Addr×Obj)) (s:Shared) (σ:St) (H:Hp) (vs:List V) (us:List Value) (Q:St->Hp->Prop),Inv X π σ H s->Vals vs us->t vs σ H Q ->
  wpAny (model X.prog X.w) X.A (assignInOrder ((assignEach ts X.env).map (·.2)) us) (fun _ s'=>∃ σ' H',Inv X π σ' H' s'/\Q σ' H') X.xe s
abbrev uw:=V->V->V->Hp->(Hp->Prop)->Prop
def  yG(X:Cx)(t:uw):Prop :=
 ∀ (π:List (Addr×Obj)) (s:Shared) (σ:St) (H:Hp) (o i v:V) (ov iv u:Value) (Q:Hp->Prop),Inv X π σ H s->RelV o ov->RelV i iv->RelV v u->t o i v H Q ->
  wpAny (model X.prog X.w) X.A (setItem ov iv u) (fun _ s'=>∃ H',Inv X π σ H' s'/\Q H') X.xe s
abbrev TIp:=V->V->Hp->VK->Prop
section
variable {X:Cx}{pos:Pos}
def  fi(i:Nat):TG:=fun v σ H Q=>Q (σ.set i (!v)) H
def Sb{i:Nat}{x:Str}(hN:X.N.Nodup)(hi:X.N[i]?=!x)(hx:Loc X.env.scope x)(hf:X.fn x=true\/X.env.scope.names.lookup x=!.local:=by first | show .inl rfl | show .inr rfl | assumption):PG X (.Name x pos) (fi i):=by
 intro π s σ H v u Q I r h;show wpAny_assign_Name (Ha I hN hi hx r (fun s' I'=>#[_,H,I',h]) hf)
def  BC:jQ:=fun vs σ H Q=>vs=[]/\Q σ H
def  C0(t:TG)(u:jQ):jQ:=fun vs σ H Q=>∃ v r,vs=v::r/\t v σ H fun σ' H'=>u r σ' H' Q
def aaU:uH X [] BC:=by
 intro π s σ H vs us Q I r h;let⟨e,h⟩:=h;subst e;cases r;show assignInOrder_nil #[σ,H,I,h]
def Py{e:Expr}{es:List Expr}{t:TG}{u:jQ}(h1:PG X e t)(h2:uH X es u)(hs:(assignEach (e::es) X.env).map (·.2)=assign e X.env::(assignEach es X.env).map (·.2):=by rfl):uH X (e::es) (C0 t u):=by
 intro π s σ H vs us Q I r h;let⟨v,vr,e1,h⟩:=h;subst e1;cases r with
 | cons r rr =>
  rw[hs];show assignInOrder_cons (aE (h1 π s σ H _ _ _ I r h) fun _ s1 #[σ1,H1,I1,q1]=>?_);show h2 π s1 σ1 H1 _ _ Q I1 rr q1
def  xM(K:ν)(n:Nat)(t:jQ):TG:=fun v σ H Q=>∃ a xs,v=-a/\bE K H a xs/\xs.length=n/\t xs σ H Q
def RI{es:List Expr}{k:Nat}{t:jQ}{n:Nat}(hc:X.calm=true)(h:uH X es t)(hn:(assignEach es X.env).length=n:=by rfl)(aQ:(assignEach es X.env).findIdx? (·.1)=none:=by rfl):PG X (.Tuple es k pos) (xM X.K n t):=by
 intro π s σ H v u Q I r hw;let⟨a,xs,e1,hq,hl,hw⟩:=hw;subst e1;cases r;let⟨ai,rv,ht,hz⟩:=I.tuple hq;show assign_Tuple_tuple (I.ok.hd hc) ht (by simp[hn,<- hl,rv.length]) aQ fun h' hx=>?_;have I1:Inv X π σ H { s with heap:=h' }:=I.kept (t':=s.toks) fun b o e=>hx b o (zn (wf e)) e;show h π _ σ H xs _ Q I1 (by simpa using rv) hw
def  DU(to ti:TE)(t:uw):TG:=fun v σ H Q=>to σ H fun o H1=>ti σ H1 fun i H2=>t o i v H2 fun H3=>Q σ H3
def UI{o i:Expr}{to ti:TE}{t:uw}(ho:PE X o to)(hi:PE X i ti)(hs:yG X t)(ha:∀ v,assign (.Subscript o i pos) X.env v=(do
   let ov <- holding [v] (eval o X.env)
   let iv <- holding [v,ov] (eval i X.env)
   standAt pos
   holding [v,ov,iv] (setItem ov iv v)
   release [v,ov,iv] []):=by intro _;rfl):PG X (.Subscript o i pos) (DU to ti t):=by
 intro π s σ H v u Q I r h;rw[ha];show jp (Os (aE (ho π s σ H _ I h) fun ov s1 #[x,H1,I1,r1,q1]=>?_));show jp (Os (aE (hi π s1 σ H1 _ I1 q1) fun iv s2 #[y,H2,I2,r2,q2]=>?_));show jp (_S (jp (Os (aE (hs π s2 σ H2 x y v ov iv u _ I2 r1 r2 r q2) fun _ s3 #[H3,I3,q3]=>?_))));show wpAny_release #[σ,H3,I3,q3]
def  jU(te:TE)(g:TG):TS:=fun D σ H=>te σ H fun x H1=>g x σ H1 D.nx
def Su{tg e:Expr}{te:TE}{g:TG}(he:PE X e te)(hg:PG X tg g)(hs:swapsWithSole [tg] e pos.line X.env=pure false:=by rfl)(hw:swappedStores [tg] e X.env=pure none:=by rfl)(h1:(assignEach [tg] X.env).map (·.2)=[assign tg X.env]:=by rfl):PS X (.Assign [tg] e pos) (jU te g):=by
 intro π s σ H D I h;show wpAny_Assign_stores (aE (he π s σ H _ I h) fun v s1 #[x,H1,I1,r1,q1]=>?_) hs hw;rw[h1];show aE (hg π s1 σ H1 x v _ I1 r1 q1) fun _ s2 q=>q
def Uy{i:Nat}{x:Str}{e:Expr}{te:TE}{pos':Pos}(hN:X.N.Nodup)(hi:X.N[i]?=!x)(hx:Loc X.env.scope x)(he:PE X e te)(hs:swapsWith e (!.Name x pos') pos.line X.env=pure false:=by rfl)(hf:X.fn x=true\/X.env.scope.names.lookup x=!.local:=by first | show .inl rfl | show .inr rfl | assumption) :
  PS X (.Assign [.Name x pos'] e pos) (jU te (fi i)):=by
 intro π s σ H D I h;show wpAny_Assign_Name (aE (he π s σ H _ I h) fun v s1 #[y,H1,I1,r1,q1]=>?_) hs;show Ha I1 hN hi hx r1 (fun s2 I2=>#[_,H1,I2,q1]) hf
end
section
variable {X:Cx}{pos:Pos}
def  J4(c:TT)(tb:TS):TS:=fun D σ H=>∃ W:Nat->St->Hp->Prop,(∃ m,W m σ H)/\∀ m σ H,W m σ H ->
 c σ H fun b H1=>if b=true then ∃ N:St->Hp->Prop,(∀ σ' H',N σ' H'->∃ m',m' < m/\W m' σ' H')/\tb { D with nx:=N,ct:=N,bk:=D.nx } σ H1 else D.nx σ H1
def T9{c:Expr}{body:List Stmt}{tc:TT}{tb:TS}(hp:PassesOwn (model X.prog X.w) X.A X.env X.xe)(hc:PT X c tc)(hb:eE X body tb):PS X (.While c body [] pos) (J4 tc tb):=by
 intro π s σ H D I h;let⟨W,⟨m0,w0⟩,turn⟩:=h;show wpAny_While (codeAny_whileLoop (fun n s'=>∃ σ' H',Inv X π σ' H' s'/\W n σ' H') ?_ m0 #[σ,H,I,w0]);rintro n s1 ⟨σ1,H1,I1,w1⟩;show _a hp (aE (hc π s1 σ1 H1 _ I1 (turn n σ1 H1 w1)) fun b s2 #[H2,I2,q2]=>?_);cases b with
 | true =>
  let⟨N,hN,q2⟩:=q2;rw[At rfl];show _a hp (aE (hb π s2 σ1 H2 _ I2 q2) fun f s3 q3=>?_);cases f with
  | next =>
   let⟨σ3,H3,I3,n3⟩:=q3;let⟨m',hm,w3⟩:=hN σ3 H3 n3;show#[m',hm,σ3,H3,I3,w3]
  | cont =>
   let⟨σ3,H3,I3,n3⟩:=q3;let⟨m',hm,w3⟩:=hN σ3 H3 n3;show#[m',hm,σ3,H3,I3,w3]
  | brk=>show q3
  | ret v=>show q3
 | false =>
  rw[wT wP];show Ja8 #[σ1,H2,I2,q2]
end
structure It where
 go:Nat->Hp->Prop
 kK:Nat->Hp->V->Hp->Prop
 stop:Nat->Hp->Prop
def  j0(X:Cx)(π:List (Addr×Obj))(H:Hp)(b:Addr):Prop :=
 H b=none/\b≠X.env.locals/\b ∉ X.fs/\(b∈X.ex\/X.s₀.heap.objs.size<=b)/\(∀ x c,X.env.cells.lookup x=!c->c≠b)/\∀ p∈X.pn++π,p.1≠b
def Inv.tZ{X:Cx}{π:List (Addr×Obj)}{σ:St}{H H':Hp}{s:Shared}{b:Addr}(I:Inv X π σ H s)(hb:s.heap.objs.size<=b)(hn:H' b=none):j0 X π H' b:=by
 show#[hn,_0 (ww I.lt hb),I.Hh hb,.inr (tz I.sz hb),fun x c e z=>?_,fun p hp z=>?_]
 ·let⟨v,q⟩:=I.cell x c e;show absurd (ww q.lt (by rw[z];show hb)) (KB _)
 ·show absurd (ww (wf (I.pin p hp).1) (by rw[z];show hb)) (KB _)
structure Turn(P:Program)(w:World)(K:ν)(tg:Expr)(J:It)(fp:List Addr)(it:Addr)(tn:Nat->Heap->Prop):Prop where
 mem:it∈fp
 obj:∀ i h,tn i h->∀ b∈fp,∃ o,h.get? b=!o/\∀ v,o.data≠.cell v
 keep:∀ i h h',tn i h->(∀ b∈fp,∀ o,h.get? b=!o->h'.get? b=!o)->tn i h'
 item:∀ (X:Cx),X.prog=P->X.w=w->X.K=K->X.calm=true->∀ (i:Nat) (π:List (Addr×Obj)) (s:Shared) (σ:St) (H:Hp) (E:Value->Shared->Prop),Inv X π σ H s->(∀ b∈fp,j0 X π H b)->tn i s.heap->J.go i H ->
  wpAny (model P w) X.A (pyNext (-it)) (fun r s1=>∃ u,r=!u /\
   wpAny (model P w) X.A (letOwnedTupleGo tg (-it) u) (fun _ s2=>∃ x H',Inv X π σ H' s2/\RelV x u/\J.kK i H x H'/\tn (i+1) s2.heap/\∀ b∈fp,H' b=none) E s1) E s
 done:∀ (X:Cx),X.prog=P->X.w=w->X.K=K->X.calm=true->∀ (i:Nat) (π:List (Addr×Obj)) (s:Shared) (σ:St) (H:Hp) (E:Value->Shared->Prop),Inv X π σ H s->(∀ b∈fp,j0 X π H b)->tn i s.heap->J.stop i H ->
  wpAny (model P w) X.A (pyNext (-it)) (fun r s1=>r=none/\Inv X π σ H s1) E s
 self:∀ (A:Around) (i:Nat) (s:Shared) (Q:Value->Shared->Prop) (E:Value->Shared->Prop),tn i s.heap->Q (-it) s->wpAny (model P w) A (pyIter (-it)) Q E s
abbrev TI:=St->Hp->(It->Hp->Prop)->Prop
def  Ib(X:Cx)(π:List (Addr×Obj))(σ:St)(tg:Expr)(R:It->Hp->Prop)(ET:Value)(s2:Shared):Prop :=
 ∃ (it:Addr) (fp:List Addr) (tn:Nat->Heap->Prop) (J:It) (H':Hp),ET=-it/\Inv X π σ H' s2/\Turn X.prog X.w X.K tg J fp it tn/\tn 0 s2.heap/\(∀ b∈fp,j0 X π H' b)/\R J H'
def  PI(X:Cx)(tg iter:Expr)(wi:TI):Prop :=
 ∀ (π:List (Addr×Obj)) (s:Shared) (σ:St) (H:Hp) (R:It->Hp->Prop),Inv X π σ H s->wi σ H R ->
  wpAny (model X.prog X.w) X.A (eval iter X.env) (fun v s1=>wpAny (model X.prog X.w) X.A (pyIter v) (Ib X π σ tg R) X.xe s1) X.xe s
def yB{M:Model}{A:Around}{E:Value->Shared->Prop}{s:Shared}{tg:Expr}{it:Addr}{u:Value}{o:Obj}{n:String}{vs:Array Value}{Q:Unit->Shared->Prop}(ho:s.heap.get? it=!o)(hc:o.cls=.type n)(hd:o.data=.fields vs)(hn:["enumerate","zip","dict_itemiterator","dict_reverseitemiterator","odict_iterator","itertools.zip_longest","itertools.pairwise"].contains n=false)(hQ:Q .unit s):wpAny M A (letOwnedTupleGo tg (-it) u) Q E s:=by
 unfold letOwnedTupleGo;cases tg <;> first
  | show ul hQ
  | (cases u <;> first
    | show ul hQ
    | (show jp (wpAny_load ho ?_)
       rw[hc,hd];change wpAny M A (if (["enumerate","zip","dict_itemiterator","dict_reverseitemiterator","odict_iterator","itertools.zip_longest","itertools.pairwise"].contains n && vs[0]? == !rawInt _)=true then _ else _) Q E s;rw[wT (by intro h;rw[hn,Jaj]at h;cases h)];show ul hQ))
def  jq(K:ν)(a:Addr):It :=
 #[fun i H=>∃ xs x,aB K H a xs/\xs[i]?=!x,fun i H x H'=>H'=H/\∀ xs,aB K H a xs->xs[i]?=!x,fun i H=>∃ xs,aB K H a xs/\xs.length<=i]
def  mF(lo:Int)(n:Nat):It:=#[fun i _=>i < n,fun i H x H'=>H'=H/\x=.int (lo+i),fun i _=>n<=i]
def Zk{P:Program}{w:World}{K:ν}{tg:Expr}(a it:Addr):Turn P w K tg (jq K a) [it] it (fun i h=>h.IsListIter it a i) where
 mem:=()
 obj:=fun i h st b hb=>by
  have e:b=it:=by simpa using hb
  subst e;let⟨o,e,c,d⟩:=st;show#[o,e,fun v z=>by rw[d]at z;cases z]
 keep:=fun i h h' st k=>st.at fun o e=>k it () o e
 item:=by
  intro X hP hw hK hc i π s σ H E I hf st hg;subst hP hw hK;let⟨xs,x,hq,hx⟩:=hg;let⟨ai,rv,p,hz⟩:=I.list hq;let⟨u,hu,ru⟩:=rv.get hx;let⟨f0,f1,f2,f3,f4,f5⟩:=hf it ();show wpAny_pyNext_list_item st p.isList (x:=u) (by simpa using hu) fun h' st' sb=>?_;have I1:Inv X π σ H { s with heap:=h' }:=I.turned (t':=s.toks) (fun b o hb e=>(sb.2 b hb).trans e) f0 f1 f3 f4 f5;let⟨o,e,c,d⟩:=id st';show#[u,rfl,yB (s:={ s with heap:=h' }) e c d ⋯ #[x,H,I1,ru,#[rfl,fun ys hy=>by rw[I.aaR hy hq];show hx],st',fun b hb=>(hf b hb).1]]
 done:=by
  intro X hP hw hK hc i π s σ H E I hf st hg;subst hP hw hK;let⟨xs,hq,hx⟩:=hg;let⟨ai,rv,p,hz⟩:=I.list hq;let⟨f0,f1,f2,f3,f4,f5⟩:=hf it ();have hl:=rv.length;show wpAny_pyNext_list_end (I.ok.hd hc) st p.isList (by simp;omega) fun h' eb=>#[rfl,I.turned (t':=s.toks) (fun b o hb e=>eb b o hb e) f0 f1 f3 f4 f5]
 self:=fun _ _ _ _ _ st h=>wpAny_pyIter_listiter st h
def Xx{P:Program}{w:World}{K:ν}{tg:Expr}(it:Addr)(lo:Int)(n:Nat):Turn P w K tg (mF lo n) [it] it (fun i h=>IsRangeIter h it (lo+(i:Nat) * 1) ((n:Int) - (i:Nat)) 1) where
 mem:=()
 obj:=fun i h st b hb=>by
  have e:b=it:=by simpa using hb
  subst e;show#[_,st,fun v z=>by
   have z':Data.fields _=Data.cell v:=z;cases z']
 keep:=fun i h h' st k=>k it () _ st
 item:=by
  intro X hP hw hK hc i π s σ H E I hf st hg;subst hP hw hK;let⟨f0,f1,f2,f3,f4,f5⟩:=hf it ();have W:=Walks.range (prog:=X.prog) (w:=X.w) (I.ok.hd hc) it lo 1 n;show W.item i s _ _ hg st fun v h' tk hv st' kk=>?_;let⟨t,rfl⟩:=hv;have I1:Inv X π σ H { s with heap:=h',toks:=tk }:=I.turned (fun b o hb e=>kk b o (by simpa using hb) e) f0 f1 f3 f4 f5;show#[_,rfl,yB (s:={ s with heap:=h',toks:=tk }) (n := "range_iterator") st' rfl rfl ⋯ #[.int (lo+i),H,I1,#[t,?_],#[rfl,rfl],st',fun b hb=>(hf b hb).1]];rw[Int.mul_one]
 done:=by
  intro X hP hw hK hc i π s σ H E I hf st hg;subst hP hw hK;let⟨f0,f1,f2,f3,f4,f5⟩:=hf it ();show wpAny_pyNext_range_end (I.ok.hd hc) st (by have:n<=i:=hg;omega) fun h' eb=>#[rfl,I.turned (t':=s.toks) (fun b o hb e=>eb b o hb e) f0 f1 f3 f4 f5]
 self:=fun _ _ _ _ _ st h=>wpAny_pyIter_rangeiter st h
section
variable {X:Cx}{tg:Expr}
def  YU(K:ν)(tl:TE):TI:=fun σ H R=>tl σ H fun x H1=>∃ a,x=-a/\(∃ xs,aB K H1 a xs)/\R (jq K a) H1
def Vn{l:Expr}{tl:TE}(hl:PE X l tl):PI X tg l (YU X.K tl):=by
 intro π s σ H R I h;show aE (hl π s σ H _ I h) fun v s1 #[x,H1,I1,r1,q1]=>?_;let⟨a,e,⟨xs,hq⟩,q⟩:=q1;subst e;cases r1;let⟨ai,rv,p,hz⟩:=I1.list hq;show wpAny_pyIter_list p.isList ?_;show#[s1.heap.objs.size,[s1.heap.objs.size],_,_,H1,rfl,I1.kept (t':=s1.toks) fun b o e=>li _ e,Zk a _,#[_,wl _ rfl,rfl,rfl],fun b hb=>?_,q];have e:b=s1.heap.objs.size:=by simpa using hb
 subst e;show I1.tZ (lm _) (I1.aA.fresh (lm _))
def V4{π:List (Addr×Obj)}{σ:St}{H:Hp}{s:Shared}{R:It->Hp->Prop}{E:Value->Shared->Prop}{lo hi:Int}{t u v:Tok}{tk:Nat}(I:Inv X π σ H s)(h1:(unop% Neg.neg ((2 ^ 62)))<=lo)(h2:lo < 2 ^ 62)(h3:(unop% Neg.neg ((2 ^ 62)))<=hi)(h4:hi < 2 ^ 62)(q:R (mF lo (hi - lo).toNat) H):wpAny (model X.prog X.w) X.A (pyIter (-s.heap.objs.size)) (Ib X π σ tg R) E { s with heap:=s.heap.push { cls:=.type "range",data:=.fields (List.toArray [.int lo t,.int hi u,.int 1 v]) },toks:=tk }:=by
 show wpAny_pyIter_range (IsRange.new ..) (small_one h1 h2 h3 h4) ?_;have I1:Inv X π σ H { s with heap:=s.heap.push { cls:=.type "range",data:=.fields (List.toArray [.int lo t,.int hi u,.int 1 v]) },toks:=tk }:=I.kept fun b o e=>li _ e;show#[(s.heap.push { cls:=.type "range",data:=.fields (List.toArray [.int lo t,.int hi u,.int 1 v]) }).objs.size,[(s.heap.push { cls:=.type "range",data:=.fields (List.toArray [.int lo t,.int hi u,.int 1 v]) }).objs.size],_,_,H,rfl,
  I1.kept (t':=tk) fun b o e=>li _ e,Xx _ lo (hi - lo).toNat,?_,fun b hb=>?_,q]
 ·have e1:lo+((0:Nat):Int) * 1=lo:=()
  have e2:(((hi - lo).toNat:Nat):Int) - ((0:Nat):Int)=Builtin.Range.rangeSize lo hi 1:=by rw[rangeSize_one];split <;> omega
  change IsRangeIter _ _ (lo+((0:Nat):Int) * 1) ((((hi - lo).toNat:Nat):Int) - ((0:Nat):Int)) 1;rw[e1,e2];show wl _ rfl
 ·have e:b=(s.heap.push { cls:=.type "range",data:=.fields (List.toArray [.int lo t,.int hi u,.int 1 v]) }).objs.size:=by simpa using hb
  subst e;show I1.tZ (lm _) (I1.aA.fresh (lm _))
def  QN(ta:TA):TI:=fun σ H R=>ta σ H fun vs H1=>∃ j:Int,vs=[.int j]/\(unop% Neg.neg ((2 ^ 62)))<=j/\j < 2 ^ 62/\R (mF 0 j.toNat) H1
def aaA{a:Expr}{ta:TA}{p pos:Pos}(hg:Gl X "range")(hm:X.mg "range" = none)(ha:PA X [a] ta)(hs:starEach [a] X.env=[(false,eval a X.env)]:=by rfl):PI X tg (.Call (.Name "range" p) [a] [] pos) (QN ta):=by
 intro π s σ H R I h;show Call_ (oQ I hg hm boot_range (WF (aE (ha pos π s σ H _ I h) fun us s1 #[vs,H1,I1,r1,q1]=>?_) hs rfl));let⟨j,e,q1,q2,q⟩:=q1;subst e;cases r1 with
 | cons r rr =>
  cases rr;let⟨t,rfl⟩:=r;show call_range_1 (V4 I1 ∅ ∅ q1 q2 (by simpa using q))
def  DB(wi:TI)(g:TG)(tb:TS):TS:=fun D σ H=>wi σ H fun J H1=>∃ W:Nat->Nat->St->Hp->Prop,(∃ m,W 0 m σ H1)/\∀ i m σ H,W i m σ H ->
 (J.stop i H/\D.nx σ H)\/(J.go i H/\∃ N:St->Hp->Prop,(∀ σ' H',N σ' H'->∃ m',m' < m/\W (i+1) m' σ' H')/\∀ x H',J.kK i H x H'->g x σ H' fun σ2 H2=>tb { D with nx:=N,ct:=N,bk:=D.nx } σ2 H2)
def  tD(fp:List Addr)(h:Heap):List (Addr×Obj):=fp.filterMap fun b=>(h.get? b).map fun o=>(b,o)
def yp{fp:List Addr}{h:Heap}{b:Addr}{o:Obj}(hb:b∈fp)(e:h.get? b=!o):(b,o)∈tD fp h:=_U.mpr #[b,hb,by rw[e];rfl]
def Uk{fp:List Addr}{h:Heap}{p:Addr×Obj}(hp:p∈tD fp h):p.1∈fp/\h.get? p.1=!p.2:=by
 let⟨b,hb,e⟩:=_U.mp hp;cases q:h.get? b with
 | none=>rw[q]at e;cases e
 | some o =>
  rw[q]at e;have e':(b,o)=p:=Id e;subst e';show#[hb,q]
def Inv.pinned{π:List (Addr×Obj)}{σ:St}{H:Hp}{s:Shared}{fp:List Addr}(I:Inv X π σ H s)(hf:∀ b∈fp,j0 X π H b)(ho:∀ b∈fp,∃ o,s.heap.get? b=!o/\∀ v,o.data≠.cell v):Inv X (π++tD fp s.heap) σ H s :=
 I.uT fun p hp=>(AC.mp hp).elim (fun z=>I.pin p (wE _ z)) fun z=>by
  let⟨hb,e⟩:=Uk z;let⟨f0,f1,f2,_⟩:=hf p.1 hb;let⟨o,e',d⟩:=ho p.1 hb;rw[e]at e';cases e';show#[e,f0,f1,f2,d]
def Inv.DF{π pl:List (Addr×Obj)}{σ:St}{H:Hp}{s:Shared}(I:Inv X (π++pl) σ H s):Inv X π σ H s:=I.uT fun p hp=>I.pin p (wE _ (xz _ hp))
def RY{iter:Expr}{body:List Stmt}{wi:TI}{g:TG}{tb:TS}{pos:Pos}(hp:PassesOwn (model X.prog X.w) X.A X.env X.xe)(hc:X.calm=true)(hi:PI X tg iter wi)(hg:PG X tg g)(hb:eE X body tb)(hs:∀ x,foldedSetIterable iter X.env x=pure x:=by intro _;rfl):PS X (.For tg iter body [] pos) (DB wi g tb):=by
 intro π s σ H D I h;show wpAny_For (aE (hi π s σ H _ I h) fun v s1 h1=>aE h1 fun ET s2 h2=>?_) hs;let⟨it,fp,tn,J,H2,e,I2,T,f6,f2,W,⟨m0,w0⟩,turn⟩:=h2;subst e
 -- what stays true of iC iterator's objects through iC loop
 have Fm:∀ {H':Hp},(∀ b∈fp,H' b=none)->∀ b∈fp,j0 X π H' b:=fun hn b hb=>#[hn b hb,(f2 b hb).2];show codeAny_forLoop_any (fun n s'=>∃ i σ' H',Inv X π σ' H' s'/\tn i s'.heap/\(∀ b∈fp,H' b=none)/\W i n σ' H') ?_ m0 #[0,σ,H2,I2,f6,fun b hb=>(f2 b hb).1,w0];rintro n s3 ⟨i,σ3,H3,I3,Oh,yN,w3⟩;rcases turn i n σ3 H3 w3 with ⟨stop,qn⟩ | ⟨go,N,hN,step⟩
 ·show _a hp (aE (T.done X rfl rfl rfl hc i π s3 σ3 H3 X.xe I3 (Fm yN) Oh stop) fun r s4 #[hr,I4]=>?_);subst hr;show Ja8 #[σ3,H3,I4,qn]
 ·show _a hp (aE (T.item X rfl rfl rfl hc i π s3 σ3 H3 X.xe I3 (Fm yN) Oh go) fun r s4 #[u,hr,h4]=>?_);subst hr;show _a hp (aE h4 fun _ s5 #[x,H5,I5,r5,y5,rO,vv]=>?_);have I5':=I5.pinned (Fm vv) (T.obj _ _ rO);show _a hp (aE (hg _ s5 σ3 H5 x u _ I5' r5 (step x H5 y5)) fun _ s6 #[σ6,H6,I6,q6]=>?_);show _a hp (aE (hb _ s6 σ6 H6 _ I6 q6) fun f s7 q7=>?_);have again:∀ {σ7:St}{H7:Hp},Inv X (π++tD fp s5.heap) σ7 H7 s7->N σ7 H7->∃ m,m < n/\∃ i σ' H',Inv X π σ' H' s7/\tn i s7.heap/\(∀ b∈fp,H' b=none)/\W i m σ' H':=fun {σ7 H7} I7 n7=>by
   let⟨m',hm,w7⟩:=hN σ7 H7 n7;show#[m',hm,i+1,σ7,H7,I7.DF,T.keep _ _ _ rO fun b hb o e=>(I7.pin (b,o) (wE _ (wE _ (yp hb e)))).1,fun b hb=>?_,w7];let⟨o,e,d⟩:=T.obj _ _ rO b hb;show(I7.pin (b,o) (wE _ (wE _ (yp hb e)))).2.1
  cases f with
  | next=>let⟨σ7,H7,I7,n7⟩:=q7;show again I7 n7
  | cont=>let⟨σ7,H7,I7,n7⟩:=q7;show again I7 n7
  | brk=>let⟨σ7,H7,I7,q7⟩:=q7;show#[σ7,H7,I7.DF,q7]
  | ret v=>let⟨x7,σ7,H7,I7,r7,q7⟩:=q7;show#[x7,σ7,H7,I7.DF,r7,q7]
end
def YS{K:ν}{a:Addr}{xs:List V}{g:TG}{tb:TS}{D:Ends}{σ:St}{H:Hp}(Pv:Nat->St->Hp->Prop)(h0:Pv 0 σ H)(hl:∀ i σ H,i<=xs.length->Pv i σ H->aB K H a xs)(hs:∀ i x σ H,xs[i]?=!x->Pv i σ H->g x σ H fun σ2 H2=>tb { D with nx:=Pv (i+1),ct:=Pv (i+1),bk:=D.nx } σ2 H2)(hd:∀ σ H,Pv xs.length σ H->D.nx σ H) :
  ∃ W:Nat->Nat->St->Hp->Prop,(∃ m,W 0 m σ H)/\∀ i m σ H,W i m σ H ->
   ((jq K a).stop i H/\D.nx σ H)\/((jq K a).go i H/\∃ N:St->Hp->Prop,(∀ σ' H',N σ' H'->∃ m',m' < m/\W (i+1) m' σ' H')/\∀ x H',(jq K a).kK i H x H'->g x σ H' fun σ2 H2=>tb { D with nx:=N,ct:=N,bk:=D.nx } σ2 H2):=by
 show#[fun i m σ H=>m=xs.length - i/\i<=xs.length/\Pv i σ H,#[xs.length,(),wS _,h0],?_];rintro i m σ H ⟨rfl,hi,p⟩;have q:=hl i σ H hi p;by_cases bO:i < xs.length
 ·show .inr #[#[xs,xs[i],q,by simp[bO]],Pv (i+1),fun σ' H' p'=>#[xs.length - (i+1),∅,rfl,bO,p'],fun x H' y=>?_];let⟨e,y⟩:=y;subst e;show hs i x σ _ (y xs q) p
 ·have e:i=xs.length:=∅
  subst e;show .inl #[#[xs,q,lm _],hd σ H p]
def Wz{lo:Int}{n:Nat}{g:TG}{tb:TS}{D:Ends}{σ:St}{H:Hp}(Pv:Nat->St->Hp->Prop)(h0:Pv 0 σ H)(hs:∀ i σ H,i < n->Pv i σ H->g (.int (lo+i)) σ H fun σ2 H2=>tb { D with nx:=Pv (i+1),ct:=Pv (i+1),bk:=D.nx } σ2 H2)(hd:∀ σ H,Pv n σ H->D.nx σ H) :
  ∃ W:Nat->Nat->St->Hp->Prop,(∃ m,W 0 m σ H)/\∀ i m σ H,W i m σ H ->
   ((mF lo n).stop i H/\D.nx σ H)\/((mF lo n).go i H/\∃ N:St->Hp->Prop,(∀ σ' H',N σ' H'->∃ m',m' < m/\W (i+1) m' σ' H')/\∀ x H',(mF lo n).kK i H x H'->g x σ H' fun σ2 H2=>tb { D with nx:=N,ct:=N,bk:=D.nx } σ2 H2):=by
 show#[fun i m σ H=>m=n - i/\i<=n/\Pv i σ H,#[n,(),wS _,h0],?_];rintro i m σ H ⟨rfl,hi,p⟩;by_cases bO:i < n
 ·show .inr #[bO,Pv (i+1),fun σ' H' p'=>#[n - (i+1),∅,rfl,bO,p'],fun x H' y=>?_];let⟨e,y⟩:=y;subst e y;show hs i σ _ bO p
 ·have e:i=n:=∅
  subst e;show .inl #[lm _,hd σ H p]
abbrev R2:=V->V->Hp->VK->Prop
def  aZ(X:Cx)(f:Value->Value->Sem Value)(r:R2):Prop :=
 ∀ (π:List (Addr×Obj)) (s:Shared) (σ:St) (H:Hp) (x y:V) (v u:Value) (Q:VK),Inv X π σ H s->RelV x v->RelV y u->r x y H Q ->
  wpAny (model X.prog X.w) X.A (f v u) (EP X π σ Q) X.xe s
def  uk(X:Cx)(f:Value->Sem Value)(r:V->Hp->VK->Prop):Prop :=
 ∀ (π:List (Addr×Obj)) (s:Shared) (σ:St) (H:Hp) (x:V) (v:Value) (Q:VK),Inv X π σ H s->RelV x v->r x H Q ->
  wpAny (model X.prog X.w) X.A (f v) (EP X π σ Q) X.xe s
def  cJ(X:Cx)(f:Value)(r:List V->Hp->VK->Prop):Prop :=
 ∀ (π:List (Addr×Obj)) (s:Shared) (σ:St) (H:Hp) (xs:List V) (us:List Value) (Q:VK),Inv X π σ H s->Vals xs us->r xs H Q ->
  wpAny (model X.prog X.w) X.A (call f us) (EP X π σ Q) X.xe s
def  iM(r:R2)(ta tb:TE):TE:=fun σ H Q=>ta σ H fun x H1=>tb σ H1 fun y H2=>r x y H2 Q
def  Bg(r:V->Hp->VK->Prop)(ta:TE):TE:=fun σ H Q=>ta σ H fun x H1=>r x H1 Q
def  rI(C:Int->Int->Prop)(g:Int->Int->V):R2:=fun x y H Q=>∃ i j,x=.int i/\y=.int j/\C i j/\Q (g i j) H
def  oP(g:Int->Int->V):R2:=fun x y H Q=>∃ i j,x=.int i/\y=.int j/\Q (g i j) H
def  rU(g:Int->V):V->Hp->VK->Prop:=fun x H Q=>∃ i,x=.int i/\Q (g i) H
section
variable {X:Cx}{a b c:Expr}{ta tb tc:TE}{pos:Pos}
def Aj(ha:PE X a ta)(hb:PE X b tb){π:List (Addr×Obj)}{s:Shared}{σ:St}{H:Hp}{R:V->V->Hp->Prop}(I:Inv X π σ H s)(h:ta σ H fun x H1=>tb σ H1 fun y H2=>R x y H2){Q:Value->Shared->Prop}{f:Value->Value->Sem Value}(hf:∀ v u s2 x y H2,Inv X π σ H2 s2->RelV x v->RelV y u->R x y H2->wpAny (model X.prog X.w) X.A (f v u) Q X.xe s2) :
  wpAny (model X.prog X.w) X.A (eval a X.env) (fun v s₁=>wpAny (model X.prog X.w) X.A (eval b X.env) (fun u s₂=>wpAny (model X.prog X.w) X.A (f v u) Q X.xe s₂) X.xe s₁) X.xe s:=by
 show aE (ha π s σ H _ I h) fun v s1 #[x,H1,I1,r1,q1]=>?_;show aE (hb π s1 σ H1 _ I1 q1) fun u s2 #[y,H2,I2,r2,q2]=>?_;show hf v u s2 x y H2 I2 r1 r2 q2
def TL{op:Operator}{r:R2}(ho:aZ X (binaryOp op) r)(ha:PE X a ta)(hb:PE X b tb):PE X (.BinOp a op b pos) (iM r ta tb):=by
 intro π s σ H Q I h;show wpAny_BinOp (Aj ha hb I h fun v u s2 x y H2 I2 rx ry q=>ho π s2 σ H2 x y v u Q I2 rx ry q)
def VQ{op:UnaryOp}{r:V->Hp->VK->Prop}(ho:uk X (unaryOp op) r)(ha:PE X a ta):PE X (.UnaryOp op a pos) (Bg r ta):=by
 intro π s σ H Q I h;show UnaryOp_ (aE (ha π s σ H _ I h) fun v s1 #[x,H1,I1,r1,q1]=>ho π s1 σ H1 x v Q I1 r1 q1)
def D0{f:Value->Value->Sem Value}{C:Int->Int->Prop}{g:Int->Int->Int}(rule:∀ (i j:Int) (t u:Tok) (s:Shared) (Q:Value->Shared->Prop) (E:Value->Shared->Prop),C i j->Q (.int (g i j) s.toks) { s with toks:=s.toks+1 }->wpAny (model X.prog X.w) X.A (f (.int i t) (.int j u)) Q E s) :
  aZ X f (rI C fun i j=>.int (g i j)):=by
 intro π s σ H x y v u Q I rx ry h;let⟨i,j,rfl,rfl,hc,q⟩:=h;let⟨t,rfl⟩:=rx;let⟨t',rfl⟩:=ry;show rule i j t t' s _ _ hc #[.int (g i j),H,I.tok _,#[_,rfl],q]
def Zf{f:Value->Value->Sem Value}{g:Int->Int->Int}(rule:∀ (i j:Int) (t u:Tok) (s:Shared) (Q:Value->Shared->Prop) (E:Value->Shared->Prop),Q (.int (g i j) s.toks) { s with toks:=s.toks+1 }->wpAny (model X.prog X.w) X.A (f (.int i t) (.int j u)) Q E s) :
  aZ X f (oP fun i j=>.int (g i j)):=by
 intro π s σ H x y v u Q I rx ry h;let⟨i,j,rfl,rfl,q⟩:=h;let⟨t,rfl⟩:=rx;let⟨t',rfl⟩:=ry;show rule i j t t' s _ _ #[.int (g i j),H,I.tok _,#[_,rfl],q]
def zW{f:Value->Value->Sem Value}{g:Int->Int->Bool}(rule:∀ (i j:Int) (t u:Tok) (s:Shared) (Q:Value->Shared->Prop) (E:Value->Shared->Prop),Q (.bool (g i j)) s->wpAny (model X.prog X.w) X.A (f (.int i t) (.int j u)) Q E s) :
  aZ X f (oP fun i j=>.bl (g i j)):=by
 intro π s σ H x y v u Q I rx ry h;let⟨i,j,rfl,rfl,q⟩:=h;let⟨t,rfl⟩:=rx;let⟨t',rfl⟩:=ry;show rule i j t t' s _ _ #[.bl (g i j),H,I,rfl,q]
def  Ij(i j:Int):Prop:=0 < j/\j < 1073741824
def  wH(i j:Int):Prop:=((unop% Neg.neg ((2 ^ 64))) < i/\i < 2 ^ 64)\/((unop% Neg.neg ((2 ^ 64))) < j/\j < 2 ^ 64)
def wH.ok{i j:Int}(h:wH i j):IntMulOk i j:=by
 rcases h with ⟨h1,h2⟩ | ⟨h1,h2⟩
 ·show .of_left (intBits_le_64 h1 h2)
 ·show .of_right (intBits_le_64 h1 h2)
def WQ:aZ X (binaryOp .Add) (oP fun i j=>.int (i+j)):=Zf fun _ _ _ _ _ _ _ q=>add_int q
def QX:aZ X (binaryOp .Mult) (rI wH fun i j=>.int (i * j)):=D0 fun _ _ _ _ _ _ _ hc q=>mul_int q hc.ok
def SA:aZ X (binaryOp .FloorDiv) (rI Ij fun i j=>.int (i / j)):=D0 fun i j _ _ _ _ _ hc q=>by
 have h1:(0:Int) < j:=hc.1;have h2:j < 1073741824:=hc.2;show floordiv_int ∅ (by rw[Int.fdiv_eq_ediv_of_nonneg i ∅];show q) (.inl (PyProof.noPylong_small ∅))
def Sr:aZ X (binaryOp .Mod) (rI (fun _ j=>0 < j) fun i j=>.int (i % j)):=D0 fun i j _ _ _ _ _ hc q=>by
 have h1:(0:Int) < j:=hc;show mod_int' ∅ (by rw[Int.fmod_eq_emod_of_nonneg i ∅];show q)
def SK{f:Value->Sem Value}{g:Int->Int}(rule:∀ (i:Int) (t:Tok) (s:Shared) (Q:Value->Shared->Prop) (E:Value->Shared->Prop),Q (.int (g i) s.toks) { s with toks:=s.toks+1 }->wpAny (model X.prog X.w) X.A (f (.int i t)) Q E s) :
  uk X f (rU fun i=>.int (g i)):=by
 intro π s σ H x v Q I rx h;let⟨i,rfl,q⟩:=h;let⟨t,rfl⟩:=rx;show rule i t s _ _ #[.int (g i),H,I.tok _,#[_,rfl],q]
def XM:uk X (unaryOp .USub) (rU fun i=>.int ((unop% Neg.neg (i)))):=SK fun _ _ _ _ _ q=>neg_int q
end
def  xx:V->V->Bool
 | .ao,.ao=>true | .ao,.int _=>true | .int _,.ao=>true | .ao,.bl _=>true | .bl _,.ao=>true | .ao,.str _=>true | .str _,.ao=>true
 | .int _,.int _=>true | .bl _,.bl _=>true | .str _,.str _=>true | .byt _,.byt _=>true
 | .int _,.str _=>true | .str _,.int _=>true | .bl _,.str _=>true | .str _,.bl _=>true
 | _,_=>false
def  Zq:R2:=fun x y H Q=>xx x y=true/\Q (.bl (decide (x=y))) H
def  P6:R2:=fun x y H Q=>xx x y=true/\Q (.bl (Bool.not (decide (x=y)))) H
def HM{i j:Int}:decide (V.int i=V.int j)=(i == j):=by
 rw[_b];simp
def GO{i j:Bool}:decide (V.bl i=V.bl j)=(i == j):=by
 rw[_b];simp
def Ly{i j:Str}:decide (V.str i=V.str j)=(i == j):=by
 rw[_b];simp
def GF{i j:Array UInt8}:decide (V.byt i=V.byt j)=(i.toList == j.toList):=by
 rw[_b];cases i;cases j;simp
section
variable {X:Cx}{a b c:Expr}{ta tb tc:TE}{pos:Pos}
def cG{π:List (Addr×Obj)}{σ:St}{H:Hp}{s:Shared}{Q:VK}{k k':Bool}(I:Inv X π σ H s)(q:Q (.bl k) H)(e:k=k'):EP X π σ Q (.bool k') s:=by
 subst e;show#[.bl k,H,I,rfl,q]
def Y3:aZ X (compareOp .Eq) Zq:=by
 intro π s σ H x y v u Q I rx ry h;let⟨hs,q⟩:=h;cases x with
 | ao =>
  cases rx;cases y with
  | ao=>cases ry;show PySem.EqNone.eq_none_none (cG I q ())
  | bl j=>cases ry;show PySem.EqNone.eq_none_bool (cG I q ())
  | int j=>let⟨t',rfl⟩:=ry;show PySem.EqNone.eq_none_int (cG I q ())
  | str j=>let⟨t',rfl⟩:=ry;show PySem.EqNone.eq_none_str (cG I q ())
  | _=>show absurd (show false=true from hs) wP
 | bl i =>
  cases rx;cases y with
  | ao=>cases ry;show PySem.EqNone.eq_bool_none (cG I q ())
  | bl j=>cases ry;show eq_bool (cG I q GO)
  | str j=>let⟨t',rfl⟩:=ry;show PySem.EqMixed.eq_bool_str (cG I q ())
  | _=>show absurd (show false=true from hs) wP
 | int i =>
  let⟨t,rfl⟩:=rx;cases y with
  | ao=>cases ry;show PySem.EqNone.eq_int_none (cG I q ())
  | int j=>let⟨t',rfl⟩:=ry;show eq_int (cG I q HM)
  | str j=>let⟨t',rfl⟩:=ry;show PySem.EqMixed.eq_int_str (cG I q ())
  | _=>show absurd (show false=true from hs) wP
 | str i =>
  let⟨t,rfl⟩:=rx;cases y with
  | ao=>cases ry;show PySem.EqNone.eq_str_none (cG I q ())
  | bl j=>cases ry;show PySem.EqMixed.eq_str_bool (cG I q ())
  | int j=>let⟨t',rfl⟩:=ry;show PySem.EqMixed.eq_str_int (cG I q ())
  | str j=>let⟨t',rfl⟩:=ry;show eq_str (cG I q Ly)
  | _=>show absurd (show false=true from hs) wP
 | byt i =>
  let⟨t,rfl⟩:=rx;cases y with
  | byt j=>let⟨t',rfl⟩:=ry;show W.eq_bytes (cG I q GF)
  | _=>show absurd (show false=true from hs) wP
 | _=>cases y <;> show absurd (show false=true from hs) wP
def Xr:aZ X (compareOp .NotEq) P6:=by
 intro π s σ H x y v u Q I rx ry h;let⟨hs,q⟩:=h;cases x with
 | ao =>
  cases rx;cases y with
  | ao=>cases ry;show PySem.EqNone.ne_none_none (cG I q ())
  | bl j=>cases ry;show PySem.EqNone.ne_none_bool (cG I q ())
  | int j=>let⟨t',rfl⟩:=ry;show PySem.EqNone.ne_none_int (cG I q ())
  | str j=>let⟨t',rfl⟩:=ry;show PySem.EqNone.ne_none_str (cG I q ())
  | _=>show absurd (show false=true from hs) wP
 | bl i =>
  cases rx;cases y with
  | ao=>cases ry;show PySem.EqNone.ne_bool_none (cG I q ())
  | bl j=>cases ry;show ne_bool (cG I q (On not GO))
  | str j=>let⟨t',rfl⟩:=ry;show PySem.EqMixed.ne_bool_str (cG I q ())
  | _=>show absurd (show false=true from hs) wP
 | int i =>
  let⟨t,rfl⟩:=rx;cases y with
  | ao=>cases ry;show PySem.EqNone.ne_int_none (cG I q ())
  | int j=>let⟨t',rfl⟩:=ry;show ne_int (cG I q (On not HM))
  | str j=>let⟨t',rfl⟩:=ry;show PySem.EqMixed.ne_int_str (cG I q ())
  | _=>show absurd (show false=true from hs) wP
 | str i =>
  let⟨t,rfl⟩:=rx;cases y with
  | ao=>cases ry;show PySem.EqNone.ne_str_none (cG I q ())
  | bl j=>cases ry;show PySem.EqMixed.ne_str_bool (cG I q ())
  | int j=>let⟨t',rfl⟩:=ry;show PySem.EqMixed.ne_str_int (cG I q ())
  | str j=>let⟨t',rfl⟩:=ry;show ne_str (cG I q (On not Ly))
  | _=>show absurd (show false=true from hs) wP
 | byt i =>
  let⟨t,rfl⟩:=rx;cases y with
  | byt j=>let⟨t',rfl⟩:=ry;show W.ne_bytes (cG I q (On not GF))
  | _=>show absurd (show false=true from hs) wP
 | _=>cases y <;> show absurd (show false=true from hs) wP
def Vx:aZ X (compareOp .Lt) (oP fun i j=>.bl (decide (i < j))):=zW fun _ _ _ _ _ _ _ q=>lt_int q
def Vd:aZ X (compareOp .LtE) (oP fun i j=>.bl (decide (i<=j))):=zW fun _ _ _ _ _ _ _ q=>le_int q
def P7:aZ X (compareOp .Gt) (oP fun i j=>.bl (decide (j < i))):=zW fun _ _ _ _ _ _ _ q=>gt_int q
def Tw:aZ X (compareOp .In) (fun x y H Q=>∃ i j,x=.str i/\y=.str j/\Q (.bl (Bool.not (Builtin.Str.occurrences j i 0 j.length 1).isEmpty)) H):=by
 intro π s σ H x y v u Q I rx ry h;let⟨i,j,rfl,rfl,q⟩:=h;let⟨t,rfl⟩:=rx;let⟨t',rfl⟩:=ry;show in_str (cG I q rfl)
def rj:aZ X (compareOp .Is) (fun x y H Q=>y=.ao/\Q (.bl (decide (x=.ao))) H):=by
 intro π s σ H x y v u Q I rx ry h;let⟨rfl,q⟩:=h;cases ry;show is_none_gen (cG I q ?_);cases x <;> first
  | (cases rx;rfl)
  | (let⟨t,rfl⟩:=rx;rfl)
def n8:aZ X (compareOp .IsNot) (fun x y H Q=>y=.ao/\Q (.bl (Bool.not (decide (x=.ao)))) H):=by
 intro π s σ H x y v u Q I rx ry h;let⟨rfl,q⟩:=h;cases ry;show isnot_none_gen (cG I q ?_);cases x <;> first
  | (cases rx;rfl)
  | (let⟨t,rfl⟩:=rx;rfl)
def aZ.or{f:Value->Value->Sem Value}{r r':R2}(h:aZ X f r)(h':aZ X f r'):aZ X f (fun x y H Q=>r x y H Q\/r' x y H Q):=by
 intro π s σ H x y v u Q I rx ry q;rcases q with q | q
 ·show h π s σ H x y v u Q I rx ry q
 ·show h' π s σ H x y v u Q I rx ry q
def Yr{op:CmpOp}{r:R2}(ho:aZ X (compareOp op) r)(ha:PE X a ta)(hb:PE X b tb)(hm:behindInMarks op b=false):PE X (.Compare a [op] [b] pos) (iM r ta tb):=by
 intro π s σ H Q I h;show wpAny_Compare1 (Aj ha hb I h fun v u s2 x y H2 I2 rx ry q=>ho π s2 σ H2 x y v u Q I2 rx ry q) hm
def sO:(sizeLine:Nat) < 2 ^ 63:=by rw[sizeLine_eq];decide
def Us:aZ X (binaryOp .Add) (fun x y H Q=>∃ i j,x=.str i/\y=.str j/\i.length+j.length<=sizeLine/\Q (.str (i++j)) H):=by
 intro π s σ H x y v u Q I rx ry h;let⟨i,j,rfl,rfl,hz,q⟩:=h;let⟨t,rfl⟩:=rx;let⟨t',rfl⟩:=ry;show add_str (fun t' tk=>#[.str (i++j),H,I.tok _,#[_,rfl],q]) hz
def vals1{x:V}{us:List Value}(r:Vals [x] us):∃ u,us=[u]/\RelV x u:=by
 cases r with
 | cons r1 r2=>cases r2;show#[_,rfl,r1]
def vals2{x y:V}{us:List Value}(r:Vals [x,y] us):∃ u w',us=[u,w']/\RelV x u/\RelV y w':=by
 cases r with
 | cons r1 r2 =>
  cases r2 with
  | cons r3 r4=>cases r4;show#[_,_,rfl,r1,r3]
def  Wu(K:ν)(x:V)(H:Hp)(n:Nat):Prop :=
 match x with
 | .str y=>y.length<=sizeLine/\n=y.length
 | .byt y=>y.size<=sizeLine/\n=y.size
 | .ref p=>(∃ xs,aB K H p xs/\n=xs.length)\/∃ xs,bE K H p xs/\n=xs.length
 | _=>False
def HE:cJ X (.builtin "len") (fun xs H Q=>∃ x n,xs=[x]/\Wu X.K x H n/\Q (.int n) H):=by
 intro π s σ H xs us Q I r h;let⟨x,n,rfl,e,q⟩:=h;let⟨u,rfl,rx⟩:=vals1 r;have hl:=sO;have hs:sizeLine=16777216:=sizeLine_eq;cases x with
 | str y =>
  let⟨t,rfl⟩:=rx;let⟨hy,e'⟩:y.length<=sizeLine/\n=y.length:=e;subst e';show len_str ∅ #[.int _,H,I.tok _,#[_,rfl],q]
 | byt y =>
  let⟨t,rfl⟩:=rx;let⟨hy,e'⟩:y.size<=sizeLine/\n=y.size:=e;subst e';show W.len_bytes ∅ #[.int _,H,I.tok _,#[_,rfl],q]
 | ref p =>
  cases rx;have e':(∃ xs,aB X.K H p xs/\n=xs.length)\/∃ xs,bE X.K H p xs/\n=xs.length:=e;rcases e' with ⟨xs,hx,e'⟩ | ⟨xs,hx,e'⟩
  ·subst e';let⟨ai,r',pl,hz⟩:=I.list hx;have hlen:=r'.length;show Calls.call_len_list pl.isList (by simp only[sB];omega) #[.int xs.length,H,I.tok _,#[_,by simp only[sB];rw[hlen]],q]
  ·subst e';let⟨ai,r',pl,hz⟩:=I.tuple hx;have hlen:=r'.length;show len_tuple pl (by simp only[sB];omega) #[.int xs.length,H,I.tok _,#[_,by simp only[sB];rw[hlen]],q]
 | _=>show(show False from e).elim
end
structure n6(h:Heap)(x dx C:Addr)(mA:Str->Option Value):Prop where
 obj:h.get? x=!W.instObj C dx
 ns:h.Ns1 dx mA
 ne:dx≠x
def U5{h:Heap}{dx:Addr}{mA:Str->Option Value}(n:h.Ns1 dx mA):∃ od,h.get? dx=!od/\∀ name,W.lookIn name od=!mA name:=by
 let⟨o,es,ep,ho,hd,hk,_,hm⟩:=n;show#[o,ho,fun name=>?_];have e:=hm name;unfold nsFind findBy at e;rw[<- Array.find?_toList]at e;unfold W.lookIn;rw[hd];dsimp only;split
 ·rename_i y q;rw[q]at e;show On some e
 ·rename_i q;rw[q]at e;have a:es.toList.any (·.refKey)=false:=by
   rw[List.any_eq_false];intro y hy;let⟨z,t,Fe⟩:=hk y (Array.mem_toList_iff.mp hy);simp[DictEntry.refKey,Fe]
  have a':¬ es.toList.any (·.refKey)=true:=by rw[a];show wP
  rw[wT a'];show On some e
def n6.look{h:Heap}{x dx C:Addr}{mA:Str->Option Value}(I:n6 h x dx C mA):∃ od,W.InstAt h x (W.instObj C dx) C (!od)/\∀ name,W.lookIn name od=!mA name :=
 let ⟨od,ho,hl⟩:=U5 I.ns
 #[od,#[I.obj,rfl,rfl,ho],hl]
section
variable {prog:Program}{w:World}{A:Around}{E:Value->Shared->Prop}{s:Shared}{K:ν}{x dx C f:Addr}{mA:Str->Option Value}{name:Str}{v:Value}
def get_map{expr:Bool}{Q:Value->Shared->Prop}(X:K.In s.heap)(I:n6 s.heap x dx C mA)(hg:W.plainGet K C name=true)(hh:W.hasDictIn K C=true)(ha:W.findIn K (-C) name=!none)(hv:mA name=!v)(hv':W.handedIn v=true)(h:Q v { s with toks:=s.toks+1 }) :
  wpAny (model prog w) A (getAttr (-x) name expr) Q E s:=by
 let⟨od,J,hl⟩:=I.look;show W.get_value X J (Jaf hg).1 (W.findObj_own hh ha rfl (by rw[hl,hv])) hv' h
def O3{pl:Sem Bool}{Q:Value×List Value->Shared->Prop}(X:K.In s.heap)(I:n6 s.heap x dx C mA)(hg:W.plainGet K C name=true)(hf:W.findIn K (-C) name=!(!-f))(ht:W.isFn K (-f)=true)(hv:mA name=none)(h:Q (-f,[-x]) s) :
  wpAny (model prog w) A (getMethod (-x) name pl) Q E s:=by
 let⟨od,J,hl⟩:=I.look;show W.method_fn X J (Jaf hg).1 (Jaf hg).2 hf (WP.mp ht) (by change(W.lookIn name od).map (·.isSome)=!false;rw[hl,hv];rfl) h
def UJ{ns:List Str}{Q:Unit->Shared->Prop}(X:K.In s.heap)(I:n6 s.heap x dx C mA)(hs:W.findIn K (-C) "__setattr__" = !(!.builtin "object.__setattr__"))(hp:W.plainOver K C=true)(ht:W.takerIn K C name=!none)(hh:W.hasDictIn K C=true)(hw:PySem.Within mA ns)(hsz:ns.length<=sizeLine)(h:∀ h',n6 h' x dx C (fun y=>if y=name then !v else mA y)->Heap.SameBut dx s.heap h'->Q .unit { s with heap:=h',toks:=s.toks+2 }) :
  wpAny (model prog w) A (setAttr (-x) name v) Q E s:=by
 let⟨od,J,hl⟩:=I.look;show W.set_plain X J hs (W.osa_open (s:={ s with toks:=s.toks+1 }) (r:=none) X J hp ht fun b=>?_);let⟨cd,hc,hd'⟩:=W.any_some hh;have hx:s.heap.get? x=!#[-C,!dx,.plain,(List.toArray [])]:=I.obj;show jp (ul (jp (jp (Jak hx (jp (W.Looks.here (s:={ s with toks:=s.toks+1 }) (W.looks_clsIn X hc) ?_))))));rw[hd'];show ul (a:=!dx) (jp (ul (jp ?_)));show wpAny_nsSet1 (s:={ s with toks:=s.toks+1 }) I.ns fun h' gW pB=>?_;let⟨oD,Jm,epD,EN,EC,Ex⟩:=gW.count (PySem.Within.cons name v hw);show jp (wpAny_lookBehind EN (by rw[EC];show pastItsLine_dict (tz Ex (by rw[xL];omega))) ?_);show ul (h _ #[(pB.2 _ (ut I.ne)).trans I.obj,gW,I.ne] pB)
def Yj{R:Result->Shared->Prop}{vs:List Value}{kw:List (Str×Value)}(X:K.In s.heap)(hm:W.makesIn K C=true)(hi:W.findIn K (-C) "__init__" = !(!-f))(hf:W.typeIn K (-f)=!.type "function")(h:codeAny (model prog w) (A.under (.builtin "type.__call__" #[-C::vs,kw])) (.call (-f) #[-(s.heap.objs.size+1)::vs,kw]) (W.InitBack (s.heap.objs.size+1) R)
   { s with heap:=(s.heap.push W.emptyDict).push (W.instObj C s.heap.objs.size) }) :
  codeAny (model prog w) A (.call (-C) #[vs,kw]) R s:=by
 let⟨hh,g,d,t,os⟩:=s;show W.make_core (W.makes_of X hm) (Tk X hi) (fun self=>W.bind_fn X self hf) (.inl rfl) h
end
def  az(f:Str)(v:V):List (Str×V)->List (Str×V)
 | []=>[(f,v)]
 | (g,x)::r=>if g=f then (g,v)::r else (g,x)::az f v r
def eO(f g:Str)(v:V):∀ fs:List (Str×V),(az f v fs).lookup g=if g=f then !v else fs.lookup g
 | []=>by
  change List.lookup g [(f,v)]=_;by_cases h:g=f
  ·have hb:(g == f)=true:=WP.mpr h;simp only[List.lookup,hb,At h]
  ·have hb:(g == f)=false:=FS.mpr h;simp only[List.lookup,hb,wT h]
 | (k,x)::r=>by
  have ih:=eO f g v r;rw[show az f v ((k,x)::r)=(if k=f then (k,v)::r else (k,x)::az f v r) from rfl];by_cases hk:k=f
  ·rw[At hk];by_cases h:g=k
   ·have hb:(g == k)=true:=WP.mpr h;simp only[List.lookup,hb,At (h.trans hk)]
   ·have hb:(g == k)=false:=FS.mpr h;simp only[List.lookup,hb,wT (fun e:g=f=>h (e.trans hk.symm))]
  ·rw[wT hk];by_cases h:g=k
   ·have hb:(g == k)=true:=WP.mpr h;simp only[List.lookup,hb,wT (fun e:g=f=>hk (h.symm.trans e))]
   ·have hb:(g == k)=false:=FS.mpr h;simp only[List.lookup,hb];show ih
def As(f:Str)(v:V):∀ fs:List (Str×V),f∈(az f v fs).map (·.1)/\∀ g,g∈fs.map (·.1)->g∈(az f v fs).map (·.1)
 | []=>#[by simp[az],fun g h=>by simp at h]
 | (k,x)::r=>by
  let⟨i1,i2⟩:=As f v r;rw[show az f v ((k,x)::r)=(if k=f then (k,v)::r else (k,x)::az f v r) from rfl];by_cases hk:k=f
  ·rw[At hk];subst hk;show#[(),fun g h=>by simpa using h]
  ·rw[wT hk];show#[?_,fun g h=>?_]
   ·rw[Fr];show IN _ i1
   ·rw[Fr]at h ⊢;rcases lv.mp h with e | e
    ·show lv.mpr (.inl e)
    ·show IN _ (i2 g e)
def Bw(f:Str)(v:V):∀ fs:List (Str×V),(az f v fs).length<=fs.length+1
 | []=>by simp[az]
 | (k,x)::r=>by
  have ih:=Bw f v r;rw[show az f v ((k,x)::r)=(if k=f then (k,v)::r else (k,x)::az f v r) from rfl];by_cases hk:k=f
  ·rw[At hk,xL,xL];omega
  ·rw[wT hk,xL,xL];omega
def eU.some_of{v:V}{o:Option Value}(r:eU (!v) o):∃ u,o=!u/\RelV v u:=by
 cases o with
 | none=>show(show False from r).elim
 | some u=>show#[u,rfl,r]
def eU.none_of{o:Option Value}(r:eU none o):o=none:=by
 cases o with
 | none=>rfl
 | some u=>show(show False from r).elim
def RT{v:V}{u:Value}(r:RelV v u):W.handedIn u=true:=by
 cases v with
 | ao=>cases (show u=Value.none from r);rfl
 | bl b=>cases (show u=Value.bool b from r);rfl
 | int i=>let⟨t,e⟩:=(show ∃ t,u=Value.int i t from r);cases e;rfl
 | str x=>let⟨t,e⟩:=(show ∃ t,u=Value.str x t from r);cases e;rfl
 | byt b=>let⟨t,e⟩:=(show ∃ t,u=Value.bytes b t from r);cases e;rfl
 | oj b=>let⟨t,e⟩:=(show ∃ t,u=Value.float b t from r);cases e;rfl
 | ref a=>cases (show u=Value.ref a from r);rfl
 | ty n=>cases (show u=Value.type n from r);rfl
section
variable {P:Program}{w:World}{H H':Hp}{h h':Heap}{a C dx:Addr}{fs fs':List (Str×V)}
def xi(aA:cy P w H h)(e:H a=!.ins C dx fs):∃ mA,n6 h a dx C mA/\(∀ f,eU (fs.lookup f) (mA f))/\PySem.Within mA (fs.map (·.1))/\fs.length<=1000/\H dx=!.own a:=by
 let⟨d,z,ne,ob,mA,n,r,q⟩:=(show cg P w H h a (.ins C dx fs) from aA a _ e);show#[mA,#[ob,n,ne],r,q,z,d]
end
structure cZ(K:ν)(C:Addr):Prop where
 pg:W.plainGet K C Str.empty=true
 hd:W.hasDictIn K C=true
 po:W.plainOver K C=true
 sa:W.findIn K (-C) "__setattr__" = !(!.builtin "object.__setattr__")
def cZ.get{K:ν}{C:Addr}(c:cZ K C)(f:Str):W.plainGet K C f=true:=c.pg
def  bN(K:ν)(C:Addr)(f:Str):Prop:=W.findIn K (-C) f=!none
def bN.Pf{K:ν}{C:Addr}{f:Str}(n:bN K C f):W.takerIn K C f=!none:=by
 unfold W.takerIn;rw[show W.findIn K (-C) f=some none from n];rfl
structure Con(K:ν)(C:Addr)(f:Str)(v:V)(u:Value):Prop where
 at_:W.findIn K (-C) f=!(!u)
 rel:RelV v u
 get:W.specialIn K u "__get__" = !none
 cp:W.copiedNames.contains f=false
structure Meth(K:ν)(C:Addr)(m:Str)(f:Addr):Prop where
 at_:W.findIn K (-C) m=!(!-f)
 fn:W.isFn K (-f)=true
 kp:W.keepIn K (-f)=true
section
variable {X:Cx}{π:List (Addr×Obj)}{σ:St}{H:Hp}{s:Shared}{a C dx:Addr}{fs:List (Str×V)}{f:Str}{v:V}{A:Around}{E:Value->Shared->Prop}
def KU{b:Bool}{Q:Value->Shared->Prop}(I:Inv X π σ H s)(e:H a=!.ins C dx fs)(c:cZ X.K C)(n:bN X.K C f)(l:fs.lookup f=!v)(h:∀ u s',Inv X π σ H s'->RelV v u->Q u s'):wpAny (model X.prog X.w) A (getAttr (-a) f b) Q E s:=by
 let⟨mA,O,r,_,_,_⟩:=xi I.aA e;let⟨u,hu,ru⟩:=eU.some_of (v:=v) (o:=mA f) (by rw[<- l];show r f);show get_map I.cw O (c.get f) c.hd n hu (RT ru) (h u _ (I.tok _) ru)
def Ae{m:Str}{g:Addr}{pl:Sem Bool}{Q:Value×List Value->Shared->Prop}(I:Inv X π σ H s)(e:H a=!.ins C dx fs)(c:cZ X.K C)(k:Meth X.K C m g)(l:fs.lookup m=none)(h:Q (-g,[-a]) s):wpAny (model X.prog X.w) A (getMethod (-a) m pl) Q E s:=by
 let⟨mA,O,r,_,_,_⟩:=xi I.aA e;have hn:mA m=none:=eU.none_of (by rw[<- l];show r m);show O3 I.cw O (c.get m) k.at_ k.fn hn h
def Gh{y:V}{u:Value}{Q:Unit->Shared->Prop}(I:Inv X π σ H s)(e:H a=!.ins C dx fs)(c:cZ X.K C)(n:bN X.K C f)(hl:fs.length < 1000)(ry:RelV y u)(h:∀ s',Inv X π σ (upd H a (.ins C dx (az f y fs))) s'->Q .unit s'):wpAny (model X.prog X.w) A (setAttr (-a) f u) Q E s:=by
 let⟨mA,O,r,wi,_,ho⟩:=xi I.aA e;have hz:(fs.map (·.1)).length<=sizeLine:=by rw[pi,sizeLine_eq];omega
 show UJ I.cw O c.sa c.po n.Pf c.hd wi hz fun h' O' sb=>h _ ?_;have hd:∃ o,h'.get? dx=!o:=let ⟨o,_,_,e',_⟩:=O'.ns;#[o,e']
 show I.write (x:=a) (e:=dx) (by rw[e];show True.intro) (.inr ho) (fun b q hb z=>(sb.2 b hb).trans z) hd ?_;show#[by rw[ah O.ne];show ho,?_,O.ne,O'.obj,_,O'.ns,fun g=>?_,fun g hg=>?_]
 ·have:=Bw f y fs;omega
 ·change eU ((az f y fs).lookup g) (if g=f then !u else mA g);rw[eO];by_cases q:g=f
  ·rw[At q,At q];show ry
  ·rw[wT q,wT q];show r g
 ·by_cases q:g=f
  ·rw[q];show(As f y fs).1
  ·show(As f y fs).2 g (wi g fun z=>hg ?_);change(if g=f then !u else mA g)=none;rw[wT q];show z
def Inv.made(I:Inv X π σ H s):Inv X π σ (upd (upd H s.heap.objs.size (.own (s.heap.objs.size+1))) (s.heap.objs.size+1) (.ins C s.heap.objs.size []))
  { s with heap:=(s.heap.push W.emptyDict).push (W.instObj C s.heap.objs.size) }:=by
 have e1:(s.heap.push W.emptyDict).get? s.heap.objs.size=!W.emptyDict:=wl s.heap rfl;have e2:((s.heap.push W.emptyDict).push (W.instObj C s.heap.objs.size)).get? (s.heap.objs.size+1)=!W.instObj C s.heap.objs.size:=by
  have:=wl (s.heap.push W.emptyDict) (o:=W.instObj C s.heap.objs.size) rfl
  rwa [_n]at this
 have e3:(s.heap.push W.emptyDict).Ns s.heap.objs.size (fun _=>none):=#[W.emptyDict,(List.toArray []),_,e1,rfl,(fun e he=>absurd he ()),fun _=>rfl];have I1:=I.laid (a:=s.heap.objs.size) (o:=.own (s.heap.objs.size+1)) (h':=s.heap.push W.emptyDict) (t':=s.toks) (fun b u q=>li _ q) (lm _) #[_,e1];show I1.laid (a:=s.heap.objs.size+1) (o:=.ins C s.heap.objs.size []) (t':=s.toks) (fun b u q=>li _ q) (_u (_n _ _)) ?_;have ne:s.heap.objs.size≠s.heap.objs.size+1:=zn (GT _);show#[by rw[ah ne,ay],wS _,ne,e2,fun _=>none,(Heap.Ns1.of_empty e3).at fun o q=>li _ q,fun _=>True.intro,fun y hy=>absurd rfl hy]
def UH{prog:Program}{w:World}{env:Env}{e:Expr}{f:Str}{pos:Pos}{s:Shared}{Q:Value->Shared->Prop}(hb:attributeBase e f env (eval e env)=eval e env)(h:wpAny (model prog w) A (eval e env) (fun o s₁=>wpAny (model prog w) A (getAttr o f true) Q E s₁) E s):wpAny (model prog w) A (eval (.Attribute e f pos) env) Q E s :=
 Attribute_any_ h (by rw[arm_eval_Attribute,hb])
end
def  zO(X:Cx)(op:Operator)(rd:V->V->Hp->VK->Prop):Prop :=
 ∀ (π:List (Addr×Obj)) (s:Shared) (σ:St) (H:Hp) (x y:V) (u v:Value) (Q:VK),Inv X π σ H s->RelV x u->RelV y v->rd x y H Q->wpAny (model X.prog X.w) X.A (inplaceOp op u v) (EP X π σ Q) X.xe s
section
variable {X:Cx}{o e value:Expr}{f:Str}{pos pos' ko:Pos}{ta tv:TE}
def  Hx:V->V->Hp->VK->Prop:=fun x y H Q=>∃ i j,x=.int i/\y=.int j/\Q (.int (i+j)) H
def lq:zO X .Add Hx:=by
 rintro π s σ H x y u v Q I rx ry ⟨i,j,rfl,rfl,q⟩;let⟨t,rfl⟩:=(show ∃ t,u=Value.int i t from rx);let⟨t',rfl⟩:=(show ∃ t',v=Value.int j t' from ry);show PyProof.Rows.iadd_int #[.int (i+j),H,I.tok _,#[_,rfl],q]
end
section
variable {X:Cx}{π:List (Addr×Obj)}{σ:St}{H:Hp}{s:Shared}{A:Around}{E:Value->Shared->Prop}{Q:Value->Shared->Prop}{c:Value}{b:Bool}
inductive fQ(K:ν)(H:Hp):V->Value->Prop where
 | ao:fQ K H .ao (.type "NoneType")
 | bl (x:Bool):fQ K H (.bl x) (.type "bool")
 | int (i:Int):fQ K H (.int i) (.type "int")
 | str (x:Str):fQ K H (.str x) (.type "str")
 | oj (x:UInt64):fQ K H (.oj x) (.type "float")
 | lst {a:Addr}{xs:List V} (e:H a=!.lst xs):fQ K H (-a) (.type "list")
 | bX {a:Addr}{o:Obj}{xs:List V} (e:H a=!.bX o (.lst xs)):fQ K H (-a) (.type "list")
 | tup {a:Addr}{xs:List V} (e:H a=!.tup xs):fQ K H (-a) (.type "tuple")
 | dK {a:Addr}{kvs:List (Key×V)} (e:H a=!.dK kvs):fQ K H (-a) (.type "dict")
 | dT {a:Addr}{kvs:List (List Key×V)} (e:H a=!.dT kvs):fQ K H (-a) (.type "dict")
 | ins {a C dx:Addr}{fs:List (Str×V)} (e:H a=!.ins C dx fs) (cl:cZ K C) (ha:W.findIn K (-C) "__class__" = !(!.builtin "object.__class__"))
   (hn:W.specialIn K (.builtin "object.__class__") "__get__" = !(!.builtin "getset_descriptor.__get__")) (eN:W.takesIn K (.builtin "object.__class__")=!true)
   (hm:W.mroIn K C (.type "object")=!true):fQ K H (-a) (-C)
def DV{x:V}{u t:Value}(I:Inv X π σ H s)(rx:RelV x u)(ty:fQ X.K H x t)(e:W.kitOne X.K t c=!b)(h:∀ tk,Q (.bool b) { s with toks:=tk }) :
  wpAny (model X.prog X.w) A (call (.builtin "isinstance") [u,c]) Q E s:=by
 cases ty with
 | ao=>cases (show u=Value.none from rx);show LT W.kitx_none I.cw True.intro e (fun z=>nomatch z) h
 | bl y=>cases (show u=Value.bool y from rx);show LT W.kitx_bool I.cw True.intro e (fun z=>nomatch z) h
 | int i=>let⟨t,q⟩:=(show ∃ t,u=Value.int i t from rx);cases q;show LT W.kitx_int I.cw True.intro e (fun z=>nomatch z) h
 | str y=>let⟨t,q⟩:=(show ∃ t,u=Value.str y t from rx);cases q;show LT W.kitx_str I.cw True.intro e (fun z=>nomatch z) h
 | oj y=>let⟨t,q⟩:=(show ∃ t,u=Value.float y t from rx);cases q;show LT W.kitx_float I.cw True.intro e (fun z=>nomatch z) h
 | @lst a xs ea =>
  cases (show u=Value.ref a from rx);let⟨_,_,n,_,h1⟩:=(show cg X.prog X.w H s.heap a (.lst xs) from I.aA a _ ea);show LT W.kitx_list I.cw #[_,h1,rfl] e (fun z=>nomatch z) h
 | @bX a ob xs ea =>
  cases (show u=Value.ref a from rx);let⟨_,_,_,n,_,h1⟩:=(show cg X.prog X.w H s.heap a (.bX ob (.lst xs)) from I.aA a _ ea);show LT W.kitx_list I.cw #[_,h1,rfl] e (fun z=>nomatch z) h
 | @tup a xs ea =>
  cases (show u=Value.ref a from rx);let⟨_,_,_,p⟩:=(show cg X.prog X.w H s.heap a (.tup xs) from I.aA a _ ea);let⟨o,h1,h2,_⟩:=p;show LT W.kitx_tuple I.cw #[o,h1,h2] e (fun z=>nomatch z) h
 | @dK a kvs ea =>
  cases (show u=Value.ref a from rx);let⟨_,_,vs,_,p⟩:=(show cg X.prog X.w H s.heap a (.dK kvs) from I.aA a _ ea);let⟨o,es,ep,h1,h2,_⟩:=p;show LT W.kitx_dict I.cw #[o,h1,h2.1] e (fun z=>nomatch z) h
 | @dT a kvs ea =>
  cases (show u=Value.ref a from rx);let⟨_,_,xs,_,o,es,ep,h1,h2,_⟩:=(show cg X.prog X.w H s.heap a (.dT kvs) from I.aA a _ ea);show LT W.kitx_dict I.cw #[o,h1,h2.1] e (fun z=>nomatch z) h
 | @ins a C dx fs ea cl ha hn eN hm =>
  cases (show u=Value.ref a from rx);let⟨mA,O,_⟩:=xi I.aA ea;let⟨od,J,_⟩:=O.look;show LT (W.kitx_own (cl.get _) cl.hd ha hn eN hm) I.cw J e (fun z=>nomatch z) h
end
structure bL(k:Nat)(A:Around):Prop where
 hd:A.handled=none
 dp:A.depth+3 * k+5 < recursionLimit
 un:A.units+16 * k+200 < cLine
def bL.mono{j k:Nat}{A:Around}(r:bL k A)(h:j<=k):bL j A:=#[r.hd,by have:=r.dp;omega,by have:=r.un;omega]
def bL.deeper{k:Nat}{A:Around}(r:bL (k+1) A)(env:Env):bL k (A.deeper env) :=
 #[r.hd,by have:=r.dp;change A.depth+1+3 * k+5 < _;omega,by have:=r.un;change A.units+3+16 * k+200 < _;omega]
def Pk{A:Around}{C:Addr}{us:List Value}{kw:List (Str×Value)}:(A.under (.builtin "type.__call__" #[-C::us,kw])).depth=A.depth+1:=by
 first | rfl | simp[Around.under,Code.weight,Code.isCreation,Code.isGuard,Code.isCaller,Code.frames,Code.isFrame,guardIds]
def P0{A:Around}{C:Addr}{us:List Value}{kw:List (Str×Value)}:(A.under (.builtin "type.__call__" #[-C::us,kw])).units=A.units+1:=by
 first | rfl | simp[Around.under,Code.cUnits,Code.frames,Code.isFrame]
def bL.make{k:Nat}{A:Around}(r:bL (k+1) A)(C:Addr)(us:List Value)(kw:List (Str×Value)):bL k (A.under (.builtin "type.__call__" #[-C::us,kw])) :=
 #[r.hd,by have:=r.dp;rw[Pk];omega,by have:=r.un;rw[P0];omega]
def bL.depth{k:Nat}{A:Around}(r:bL k A):A.depth < recursionLimit:=by have:=r.dp;omega
def bL.units{k:Nat}{A:Around}(r:bL k A):A.units+64 < cLine:=by have:=r.un;omega
def bL.fU{k:Nat}{A:Around}(r:bL k A):A.units < cLine:=by have:=r.un;omega
def  f9:TA:=fun _ H Q=>Q [] H
def  fP(ta:TE)(tr:TA):TA:=fun σ H Q=>ta σ H fun x H1=>tr σ H1 fun xs H2=>Q (x::xs) H2
section
variable {X:Cx}{e:Expr}{es:List Expr}{te:TE}{t:TA}{pos:Pos}
def Xu:PA X [] f9:=fun _ _ _ _ H Q I h=>_G #[[],H,I,.nil,h]
def RJ(ha:PE X e te)(hr:PA X es t)(hs:starEach (e::es) X.env=(false,eval e X.env)::starEach es X.env:=by rfl):PA X (e::es) (fP te t):=by
 intro pos π s σ H Q I h;rw[hs];change wpAny _ _ (spliced ((false,eval e X.env)::backTo pos (starEach es X.env))) _ _ s;show _v (aE (ha π s σ H _ I h) fun u s1 #[x,H1,I1,r1,q1]=>?_);show aE (hr pos π s1 σ H1 _ I1 q1) fun us s2 #[xs,H2,I2,r2,q2]=>#[x::xs,H2,I2,.cons r1 r2,q2]
def  kQ(t:TA):TE:=fun σ H Q=>t σ H fun xs H1=>xs.length<=sizeLine/\∀ p,H1 p=none->Q (-p) (upd H1 p (.tup xs))
def  wZ(t:TA):TE:=fun σ H Q=>t σ H fun xs H1=>xs.length<=sizeLine/\∀ p,H1 p=none->Q (-p) (upd H1 p (.lst xs))
def XY{x1}(h:PA X es t):PE X (.Tuple es x1 pos) (kQ t):=by
 intro π s σ H Q I hq;show wpAny_Tuple_spliced (aE (h pos π s σ H _ I hq) fun us s1 #[xs,H1,I1,r,z,q]=>#[by rw[<- r.length];show z,?_]);have hf:H1 s1.heap.objs.size=none:=I1.aA.fresh (lm _);show#[-s1.heap.objs.size,upd H1 s1.heap.objs.size (.tup xs),I1.laid (t':=s1.toks) (fun b u e=>li _ e) (lm _) ?_,rfl,q _ hf];show#[z,us,r,#[_,wl _ rfl,rfl,_,rfl,rfl]]
def YJ(h:PA X es t):PE X (.List es pos) (wZ t):=by
 intro π s σ H Q I hq;show wpAny_List_spliced (aE (h pos π s σ H _ I hq) fun us s1 #[xs,H1,I1,r,z,q]=>#[by rw[<- r.length];show z,?_]);have hf:H1 s1.heap.objs.size=none:=I1.aA.fresh (lm _);show#[-s1.heap.objs.size,upd H1 s1.heap.objs.size (.lst xs),I1.laid (t':=s1.toks) (fun b u e=>li _ e) (lm _) ?_,rfl,q _ hf];show#[z,us,0,r,wl _ rfl]
end
abbrev Sp:=List V->Hp->VK->XK->Prop
abbrev eK:=List Env->Hp->Shared->XK->Value->Shared->Prop
structure mD(P:Program)(w:World)(K:ν)(mg:Str->Option Value)(base:Heap)(A:Around)(outer:List Env)(s:Shared)(H:Hp):Prop where
 frames:A.frames=!outer
 mod:Mod K mg base
 bs:∀ b o,base.get? b=!o->s.heap.get? b=!o/\H b=none
 lP:base.objs.size<=s.heap.objs.size
 iK:s.heap.FunFrames base outer
 nW:∀ b∈cb outer,H b=none
 aA:cy P w H s.heap
 bare:AllBare s.gens
def  CE(outer:List Env)(P:Program)(w:World)(H:Hp)(s:Shared)(Q:VK)(u:Value)(s':Shared):Prop :=
 ∃ v H',s'.os=s.os/\AllBare s'.gens/\Un (cb outer) [] H H' s.heap s'.heap/\cy P w H' s'.heap/\RelV v u/\Q v H'
def  CR(CX:eK)(outer:List Env)(P:Program)(w:World)(H:Hp)(s:Shared)(Q:VK)(E:XK)(r:Result)(s':Shared):Prop :=
 match r with
 | .ok (.ret u)=>CE outer P w H s Q u s'
 | .ok _=>False
 | .error e=>CX outer H s E e s'
structure aC(P:Program)(w:World)(K:ν)(mg:Str->Option Value)(base:Heap)(CX:eK)(k:Nat)(f:Addr)(fd:FuncData)(ps:List Str)(sp:Sp):Prop where
 len:∀ vs H Q E,sp vs H Q E->vs.length=ps.length
 run:∀ (A:Around) (outer:List Env) (s:Shared) (H:Hp) (args:Args) (us:List Value) (vs:List V) (Q:VK) (E:XK),bL k A->mD P w K mg base A outer s H->BindsTo s fd args (ps.zip us)->Vals vs us->sp vs H Q E ->
  codeAny (model P w) A (.call (-f) args) (CR CX outer P w H s Q E) s
def mD.make{P:Program}{w:World}{K:ν}{mg:Str->Option Value}{base:Heap}{A:Around}{outer:List Env}{s:Shared}{H:Hp}(e:mD P w K mg base A outer s H)(C:Addr)(us:List Value)(kw:List (Str×Value)) :
  mD P w K mg base (A.under (.builtin "type.__call__" #[-C::us,kw])) outer s H:=#[by first | show e.frames | (simpa [Around.under,Code.envs,Code.isFrame,pushEnvs] using e.frames),e.mod,e.bs,e.lP,e.iK,e.nW,e.aA,e.bare]
section
variable {X:Cx}{π:List (Addr×Obj)}{σ:St}{H:Hp}{s s':Shared}
def Inv.vh(I:Inv X π σ H s):mD X.prog X.w X.K X.mg X.base X.A X.stack s H :=
 #[I.ok.frames,I.ok.mod,I.bs,tz I.ok.lP I.sz,I.stack,I.wM,I.aA,I.bare]
def Inv.after{Q:VK}{u:Value}(I:Inv X π σ H s)(h:CE X.stack X.prog X.w H s Q u s'):EP X π σ Q u s':=by
 let⟨v,H',os,bare,un,aA,r,q⟩:=h;let⟨hh,g,d,t,os'⟩:=s';obtain rfl:os'=s.os:=os;show#[v,H',I.call (h':=hh) (g':=g) (d':=d) (t':=t) (ch:=[]) un aA bare (fun b z=>absurd z ()),r,q]
end
def  yy(sp:Sp)(bG:List V)(E:XK)(t:TA):TE:=fun σ H Q=>t σ H fun vs H1=>sp (vs++bG) H1 Q E
inductive MI(C:Addr)(m:Str)(x:V)(H:Hp)(q:Prop):Prop
 | mk:∀ a dx fs,x=-a->H a=!.ins C dx fs->fs.lookup m=none->q->MI C m x H q
def  vi(C:Addr)(m:Str)(sp:Sp)(bG:List V)(E:XK)(ta:TE)(t:TA):TE:=fun σ H Q=>ta σ H fun x H1=>MI C m x H1 (t σ H1 fun vs H2=>sp (x::(vs++bG)) H2 Q E)
def  uP(C:Addr)(sp:Sp)(bG:List V)(E:XK)(t:TA):TE:=fun σ H Q=>t σ H fun vs H1=>∀ x dx,H1 x=none->H1 dx=none->dx≠x ->
 sp (-x::(vs++bG)) (upd (upd H1 dx (.own x)) x (.ins C dx [])) (fun v H2=>v=.ao/\Q (-x) H2) E
def  Binds(K:ν)(fd:FuncData)(ps:List Str)(ds:List Value):Prop :=
 ∀ (s:Shared) (us:List Value),K.In s.heap->(us++ds).length=ps.length->BindsTo s fd #[us,[]] (ps.zip (us++ds))
def Binds.all{K:ν}{fd:FuncData}{ps:List Str}(h:∀ us:List Value,us.length=ps.length->bindArgs fd #[us,[]]=pure (ps.zip us)):Binds K fd ps []:=fun s us _ hl=>by
 rw[FB]at hl ⊢;show .of_eq (h us hl)
def  Passes(CX:eK)(X:Cx)(E:XK):Prop:=∀ (π:List (Addr×Obj)) (σ:St) (H:Hp) (s:Shared) (e:Value) (s':Shared),Inv X π σ H s->CX X.stack H s E e s'->X.xe e s'
section
variable {X:Cx}{CX:eK}{k:Nat}{f C:Addr}{fd:FuncData}{ps:List Str}{sp:Sp}{bG:List V}{ds:List Value}{E:XK}{x m:Str}{p pos apos:Pos}{e o:Expr}{es:List Expr}{ta:TE}{t:TA}
def Ca{π:List (Addr×Obj)}{σ:St}{H:Hp}{s:Shared}{Q:VK}{us:List Value}{vs:List V}(F:aC X.prog X.w X.K X.mg X.base CX k f fd ps sp)(hr:bL k X.A)(hb:Binds X.K fd ps ds)(hd:Vals bG ds)(hx:Passes CX X E)(I:Inv X π σ H s)(r:Vals vs us)(h:sp (vs++bG) H Q E):wpAny (model X.prog X.w) X.A (call (-f) us) (EP X π σ Q) X.xe s:=by
 have r2:Vals (vs++bG) (us++ds):=r.append hd;have hl:(us++ds).length=ps.length:=by rw[<- r2.length];show F.len _ _ _ _ h
 show _w (_1 (F.run X.A X.stack s H #[us,[]] (us++ds) (vs++bG) Q E hr I.vh (hb s us I.cw hl) r2 h) fun r s' hq=>?_);cases r with
 | error e=>show hx π σ H s e s' I hq
 | ok fl =>
  cases fl with
  | ret u=>show I.after hq
  | next=>show False.elim hq
  | brk=>show False.elim hq
  | cont=>show False.elim hq
def Qa(F:aC X.prog X.w X.K X.mg X.base CX k f fd ps sp)(hr:bL k X.A)(hg:Gl X x)(hm:X.mg x=!-f)(hk:W.keepIn X.K (-f)=true)(hb:Binds X.K fd ps ds)(hd:Vals bG ds)(hx:Passes CX X E)(ha:PA X (e::es) t)(cm:(x == ("__debug__":Str))=false:=by decide)(he:starEach (e::es) X.env=(false,eval e X.env)::starEach es X.env:=by rfl)(bx:(backTo pos (starEach es X.env)).any (·.1)=false:=by rfl) :
  PE X (.Call (.Name x p) (e::es) [] pos) (yy sp bG E t):=by
 intro π s σ H Q I h;show KM (mR I hg hm ?_ cm);show W1 (h₀:=X.base) I.ok.mod.jb hk (aE (ha pos π s σ H _ I h) fun us s1 #[vs,H1,I1,r,q]=>#[I1.cw,?_]) he bx;show Ca F hr hb hd hx I1 r q
def Zi{pl:Sem Bool}(he:PE X o ta)(c:cZ X.K C)(hm:Meth X.K C m f)(F:aC X.prog X.w X.K X.mg X.base CX k f fd ps sp)(hr:bL k X.A)(hb:Binds X.K fd ps ds)(hd:Vals bG ds)(hx:Passes CX X E)(ha:PA X (e::es) t)(aQ:starEach (e::es) X.env=(false,eval e X.env)::starEach es X.env:=by rfl)(bx:(backTo pos (starEach es X.env)).any (·.1)=false:=by rfl)(ht:eval (.Call (.Attribute o m apos) (e::es) [] pos) X.env=(do
   let ov <- eval o X.env
   standAt apos.atName
   let (f,first) <- holding [ov] (getMethod ov m pl)
   callWith pos f first (backTo pos (starEach (e::es) X.env)) (backToKw pos (keywordEach [] X.env))):=by rfl) :
  PE X (.Call (.Attribute o m apos) (e::es) [] pos) (vi C m sp bG E ta t):=by
 intro π s σ H Q I h;show _6 (pl:=pl) (aE (he π s σ H _ I h) fun u s1 ⟨x,H1,I1,rx,a,dx,fs,ex,ea,l,q⟩=>?_) ht;subst ex;obtain rfl:u=Value.ref a:=rx;show Ae I1 ea c hm l ?_;show W1 (first:=[-a]) (h₀:=X.base) I.ok.mod.jb hm.kp (aE (ha pos π s1 σ H1 _ I1 q) fun us s2 ⟨vs,H2,I2,r,q2⟩=>#[I2.cw,?_]) aQ bx;show Ca (us:=-a::us) (vs:=-a::vs) F hr hb hd hx I2 (.cons rfl r) q2
def PD{pl:Sem Bool}(he:PE X o ta)(c:cZ X.K C)(hm:Meth X.K C m f)(F:aC X.prog X.w X.K X.mg X.base CX k f fd ps sp)(hr:bL k X.A)(hb:Binds X.K fd ps ds)(hd:Vals bG ds)(hx:Passes CX X E)(ht:eval (.Call (.Attribute o m apos) [] [] pos) X.env=(do
   let ov <- eval o X.env
   standAt apos.atName
   let (f,first) <- holding [ov] (getMethod ov m pl)
   callWith pos f first (backTo pos (starEach [] X.env)) (backToKw pos (keywordEach [] X.env))):=by rfl) :
  PE X (.Call (.Attribute o m apos) [] [] pos) (vi C m sp bG E ta f9):=by
 intro π s σ H Q I h;show _6 (pl:=pl) (aE (he π s σ H _ I h) fun u s1 ⟨x,H1,I1,rx,a,dx,fs,ex,ea,l,q⟩=>?_) ht;subst ex;obtain rfl:u=Value.ref a:=rx;show Ae I1 ea c hm l ?_;show W.callWith_K0 (first:=[-a]) I1.cw hm.kp (Ca (us:=[-a]) (vs:=[-a]) F hr hb hd hx I1 (.cons rfl .nil) q)
structure Mk(K:ν)(C f:Addr):Prop where
 makes:W.makesIn K C=true
 init:W.findIn K (-C) "__init__" = !(!-f)
 fn:W.isFn K (-f)=true
 kp:W.keepIn K (-C)=true
def JV{π:List (Addr×Obj)}{σ:St}{H:Hp}{s:Shared}{Q:VK}{us:List Value}{vs:List V}(M:Mk X.K C f)(F:aC X.prog X.w X.K X.mg X.base CX k f fd ps sp)(hr:bL (k+1) X.A)(hb:Binds X.K fd ps ds)(hd:Vals bG ds)(hx:Passes CX X E)(I:Inv X π σ H s)(r:Vals vs us)(h:∀ x dx,H x=none->H dx=none->dx≠x->sp (-x::(vs++bG)) (upd (upd H dx (.own x)) x (.ins C dx [])) (fun v H2=>v=.ao/\Q (-x) H2) E) :
  wpAny (model X.prog X.w) X.A (call (-C) us) (EP X π σ Q) X.xe s:=by
 have hq:=h (s.heap.objs.size+1) s.heap.objs.size (I.aA.fresh (_W _)) (I.aA.fresh (lm _)) (zn (GT _));have I2:=Inv.made (C:=C) I;have r2:Vals (V.ref (s.heap.objs.size+1)::(vs++bG)) (Value.ref (s.heap.objs.size+1)::(us++ds)):=.cons rfl (r.append hd);have hl:(Value.ref (s.heap.objs.size+1)::us++ds).length=ps.length:=by
  have e:=r2.length;rw[F.len _ _ _ _ hq]at e;show e.symm
 show _w (Yj (f:=f) I.cw M.makes M.init (WP.mp M.fn) (_1 (F.run _ X.stack _ _ #[Value.ref (s.heap.objs.size+1)::us,[]] (Value.ref (s.heap.objs.size+1)::(us++ds)) _ _ E (hr.make C us [])
  (I2.vh.make C us []) (hb _ (Value.ref (s.heap.objs.size+1)::us) I2.cw hl) r2 hq) fun r s' hq'=>?_))
 cases r with
 | error e=>show hx π σ _ _ e s' I2 hq'
 | ok fl =>
  cases fl with
  | ret u =>
   let⟨v,H',I3,rv,ev,q3⟩:=I2.after hq';subst ev;show#[rv,#[V.ref (s.heap.objs.size+1),H',I3,rfl,q3]]
  | next=>show False.elim hq'
  | brk=>show False.elim hq'
  | cont=>show False.elim hq'
def Ti(M:Mk X.K C f)(F:aC X.prog X.w X.K X.mg X.base CX k f fd ps sp)(hr:bL (k+1) X.A)(hg:Gl X x)(hm:X.mg x=!-C)(hb:Binds X.K fd ps ds)(hd:Vals bG ds)(hx:Passes CX X E)(ha:PA X (e::es) t)(cm:(x == ("__debug__":Str))=false:=by decide)(he:starEach (e::es) X.env=(false,eval e X.env)::starEach es X.env:=by rfl)(bx:(backTo pos (starEach es X.env)).any (·.1)=false:=by rfl) :
  PE X (.Call (.Name x p) (e::es) [] pos) (uP C sp bG E t):=by
 intro π s σ H Q I h;show KM (mR I hg hm ?_ cm);show W1 (h₀:=X.base) I.ok.mod.jb M.kp (aE (ha pos π s σ H _ I h) fun us s1 #[vs,H1,I1,r,q]=>#[I1.cw,?_]) he bx;show JV M F hr hb hd hx I1 r q
def XT(M:Mk X.K C f)(F:aC X.prog X.w X.K X.mg X.base CX k f fd ps sp)(hr:bL (k+1) X.A)(hg:Gl X x)(hm:X.mg x=!-C)(hb:Binds X.K fd ps ds)(hd:Vals bG ds)(hx:Passes CX X E)(cm:(x == ("__debug__":Str))=false:=by decide):PE X (.Call (.Name x p) [] [] pos) (uP C sp bG E f9):=by
 intro π s σ H Q I h;show KM (mR I hg hm ?_ cm);show W.callWith_K0 I.cw M.kp (JV (us:=[]) M F hr hb hd hx I .nil h)
end
def  PK(X:Cx)(kz:List Keyword)(t:TA):Prop :=
 ∀ (pos:Pos) (π:List (Addr×Obj)) (s:Shared) (σ:St) (H:Hp) (Q:List V->Hp->Prop),Inv X π σ H s->t σ H Q->wpAny (model X.prog X.w) X.A (evalAll ((backToKw pos (keywordEach kz X.env)).map (·.2))) (AP X π σ Q) X.xe s
section
variable {X:Cx}{CX:eK}{k:Nat}{f C:Addr}{fd:FuncData}{ps ks:List Str}{sp:Sp}{E:XK}{x m:Str}{p pos apos yO:Pos}{e o:Expr}{es:List Expr}{kz:List Keyword}{te ta:TE}{t tk:TA}{nm:Option Str}
def Vh:PK X [] f9:=fun _ _ _ _ H Q I h=>wpAny_evalAll_nil #[[],H,I,.nil,h]
def ZN(ha:PE X e te)(hr:PK X kz t):PK X (#[nm,e,yO]::kz) (fP te t):=by
 intro pos π s σ H Q I h;change wpAny _ _ (evalAll ((do let v <- eval e X.env;standAt pos;pure v)::(backToKw pos (keywordEach kz X.env)).map (·.2))) _ _ s;show wpAny_evalAll_cons (jp (aE (ha π s σ H _ I h) fun u s1 #[x,H1,I1,r1,q1]=>jp (_S (ul ?_))));show aE (hr pos π s1 σ H1 _ I1 q1) fun us s2 #[xs,H2,I2,r2,q2]=>#[x::xs,H2,I2,.cons r1 r2,q2]
structure yf(K:ν)(fd:FuncData)(ps ks:List Str)(g:List Value->List Value->List Value)(gV:List V->List V->List V):Prop where
 to:∀ (s:Shared) (us ws:List Value),K.In s.heap->(g us ws).length=ps.length->BindsTo s fd #[us,ks.zip ws] (ps.zip (g us ws))
 rel:∀ {vs:List V}{us:List Value}{zs:List V}{ws:List Value},Vals vs us->Vals zs ws->Vals (gV vs zs) (g us ws)
def  DA(sp:Sp)(gV:List V->List V->List V)(E:XK)(t tk:TA):TE:=fun σ H Q=>t σ H fun vs H1=>tk σ H1 fun zs H2=>sp (gV vs zs) H2 Q E
variable {g:List Value->List Value->List Value}{gV:List V->List V->List V}
def V8{π:List (Addr×Obj)}{σ:St}{H:Hp}{s:Shared}{Q:VK}{us ws:List Value}{vs zs:List V}(F:aC X.prog X.w X.K X.mg X.base CX k f fd ps sp)(hr:bL k X.A)(hb:yf X.K fd ps ks g gV)(hx:Passes CX X E)(I:Inv X π σ H s)(r:Vals vs us)(rz:Vals zs ws)(h:sp (gV vs zs) H Q E):wpAny (model X.prog X.w) X.A (call (-f) us (ks.zip ws)) (EP X π σ Q) X.xe s:=by
 have r2:=hb.rel r rz;have hl:(g us ws).length=ps.length:=by rw[<- r2.length];show F.len _ _ _ _ h
 show _w (_1 (F.run X.A X.stack s H #[us,ks.zip ws] (g us ws) (gV vs zs) Q E hr I.vh (hb.to s us ws I.cw hl) r2 h) fun r s' hq=>?_);cases r with
 | error e=>show hx π σ H s e s' I hq
 | ok fl =>
  cases fl with
  | ret u=>show I.after hq
  | next=>show False.elim hq
  | brk=>show False.elim hq
  | cont=>show False.elim hq
def aaL(F:aC X.prog X.w X.K X.mg X.base CX k f fd ps sp)(hr:bL k X.A)(hg:Gl X x)(hm:X.mg x=!-f)(hk:W.keepIn X.K (-f)=true)(hb:yf X.K fd ps ks g gV)(hx:Passes CX X E)(ha:PA X (e::es) t)(FR:PK X kz tk)(ju:(backToKw pos (keywordEach kz X.env)).all (·.1.isSome)=true:=by rfl)(wc:(backToKw pos (keywordEach kz X.env)).filterMap (·.1)=ks:=by rfl)(cm:(x == ("__debug__":Str))=false:=by decide)(he:starEach (e::es) X.env=(false,eval e X.env)::starEach es X.env:=by rfl)(bx:((backTo pos (starEach (e::es) X.env)).any (·.1) || (backToKw pos (keywordEach kz X.env)).any (·.1.isNone))=false:=by rfl) :
  PE X (.Call (.Name x p) (e::es) kz pos) (DA sp gV E t tk):=by
 intro π s σ H Q I h;show KM (mR I hg hm ?_ cm);show W.callWith_KW (h₀:=X.base) I.ok.mod.jb hk ju (aE (ha pos π s σ H _ I h) fun us s1 #[vs,H1,I1,r,q]=>?_) bx he;show aE (FR pos π s1 σ H1 _ I1 q) fun ws s2 #[zs,H2,I2,rz,q2]=>#[I2.cw,?_];rw[wc];show V8 F hr hb hx I2 r rz q2
end
structure aF(N P:List Str)(sc:Scope):Prop where
 kind:sc.kind=.function
 co:sc.isCoroutine=false
 gen:sc.isGenerator=false
 nd:N.Nodup
 pre:N.take P.length=P
 par:∀ x∈P,sc.names.lookup x=!.local\/sc.names.lookup x=!.cell
 TU:∀ y∈sc.names,y.2≠.free
def KP{kindOf:Str->Option NameKind}{x:Str}:∀ {binds:List (Str×Value)}{m:Str->Option Value},(∀ v,(x,v) ∉ binds)->bindL kindOf binds m x=m x
 | [],_,_=>rfl
 | (n,v)::r,m,h=>by
  unfold bindL;rw[KP fun w hw=>h w (IN _ hw)];split
  ·have:x≠n:=by rintro rfl;show h v _t
   simp[this]
  ·rfl
def JQ{kindOf:Str->Option NameKind}{x:Str}:∀ {binds:List (Str×Value)}{m:Str->Option Value},(∀ v,(x,v) ∉ binds)->bindC kindOf binds m x=m x
 | [],_,_=>rfl
 | (n,v)::r,m,h=>by
  unfold bindC;rw[JQ fun w hw=>h w (IN _ hw)];split
  ·rfl
  ·have:x≠n:=by rintro rfl;show h v _t
   simp[this]
def GB{kindOf:Str->Option NameKind}{x:Str}{v:Value}:∀ {P:List Str}{vs:List Value}{i:Nat}{m:Str->Option Value},P.Nodup->P[i]?=!x->vs[i]?=!v->kindOf x=!.local ->
  bindL kindOf (P.zip vs) m x=!v
 | [],_,_,_,_,h,_,_=>by simp at h
 | _::_,[],_,_,_,_,h,_=>by simp at h
 | p::P,w::vs,0,m,nd,h1,h2,hk=>by
  simp at h1 h2;subst h1;subst h2;change bindL kindOf ((p,w)::P.zip vs) m p=_;unfold bindL;rw[KP fun v hv=>(Gc.mp nd).1 (List.of_mem_zip hv).1,At hk];simp
 | p::P,w::vs,i+1,m,nd,h1,h2,hk=>by
  change bindL kindOf ((p,w)::P.zip vs) m x=_;unfold bindL;show GB (i:=i) (Gc.mp nd).2 (by simpa using h1) (by simpa using h2) hk
def J2{kindOf:Str->Option NameKind}{x:Str}{v:Value}:∀ {P:List Str}{vs:List Value}{i:Nat}{m:Str->Option Value},P.Nodup->P[i]?=!x->vs[i]?=!v->kindOf x≠!.local ->
  bindC kindOf (P.zip vs) m x=!v
 | [],_,_,_,_,h,_,_=>by simp at h
 | _::_,[],_,_,_,_,h,_=>by simp at h
 | p::P,w::vs,0,m,nd,h1,h2,hk=>by
  simp at h1 h2;subst h1;subst h2;change bindC kindOf ((p,w)::P.zip vs) m p=_;unfold bindC;rw[JQ fun v hv=>(Gc.mp nd).1 (List.of_mem_zip hv).1,wT hk];simp
 | p::P,w::vs,i+1,m,nd,h1,h2,hk=>by
  change bindC kindOf ((p,w)::P.zip vs) m x=_;unfold bindC;show J2 (i:=i) (Gc.mp nd).2 (by simpa using h1) (by simpa using h2) hk
def  start(N:List Str)(vs:List V):St:=vs.map some++List.replicate (N.length - vs.length) none
def  ij(CX:eK)(P:Program)(w:World)(K:ν)(mg:Str->Option Value)(base:Heap)(N:List Str)(qual:Str)(scope:Scope)(f:Addr)(cd:Value)(A:Around)(outer:List Env)(s:Shared)(H:Hp)(E:XK):Cx where
 prog:=P
 w:=w
 K:=K
 mg:=mg
 base:=base
 A:=A.deeper (envOfC qual scope s.heap.objs.size f cd)
 N:=N
 s₀:=s
 H₀:=H
 env:=envOfC qual scope s.heap.objs.size f cd
 outer:=outer
 stack:=envOfC qual scope s.heap.objs.size f cd::outer
 ex:=[]
 calm:=true
 fn:=fun _=>true
 pn:=[]
 xe:=fun e s'=>wpAny (model P w) (A.deeper (envOfC qual scope s.heap.objs.size f cd)) (leaving (envOfC qual scope s.heap.objs.size f cd) e) (fun _ s''=>CX outer H s E e s'') (fun e' s''=>CX outer H s E e' s'') s'
def Gi{sc:Scope}{n:Nat}{x:Str}(h:sc.names.lookup x=!.cell):∃ c,(cellsFrom n sc.names []).lookup x=!c:=by
 have q:=W.cellsFrom_some sc.names n [] (.inl h);show Option.isSome_iff_exists.mp q
def WV{CX:eK}{P:Program}{w:World}{K:ν}{mg:Str->Option Value}{base:Heap}{N ps:List Str}{qual:Str}{scope:Scope}{f:Addr}{cd:Value}{A:Around}{outer:List Env}{s s1:Shared}{H:Hp}{E:XK}{us:List Value}{vs:List V}(S:aF N ps scope)(hd:A.handled=none)(e0:mD P w K mg base A outer s H)(hl:vs.length=ps.length)(r:Vals vs us)(x:InCallC s s.heap.objs.size (bindL (envOfC qual scope s.heap.objs.size f cd).kindOf (ps.zip us) fun _=>none) (cellsFrom (s.heap.objs.size+1) scope.names []) (bindC (envOfC qual scope s.heap.objs.size f cd).kindOf (ps.zip us) fun _=>none) s1) :
  Inv (ij CX P w K mg base N qual scope f cd A outer s H E) [] (start N vs) H s1:=by
 have bx:ps.length<=N.length:=by have:=On List.length S.pre;rw[Tm]at this;omega
 let⟨h1,tk,rfl,hk⟩:=x.done;have vq:∀ b:Addr,b ∉ (ij CX P w K mg base N qual scope f cd A outer s H E).ex:=fun b z=>absurd (show b∈([]:List Addr) from z) ();show#[#[e0.mod,S.kind,rfl,rfl,lm _,fun y z c h1 h2=>?_,fun y hy=>?_,fun y c _ h=>?_,fun _=>hd,Around.frames_deeper e0.frames,.inr #[rfl,rfl],fun b z=>absurd z (vq b),e0.bs,e0.lP,fun b _ _=>vq b,fun b z=>absurd z (vq b),e0.iK,e0.nW],
  rfl,e0.bare,Un.kept hk,#[_,x.toInCall.ns,fun i y v h1 h2 h3=>?_],fun y c h=>#[_,x.cell y c h],e0.aA.fresh (lm _),fun y c h=>?_,fun p hp=>absurd (show p∈([]:List (Addr×Obj)) from hp) (),e0.aA.kept hk,?_]
 ·show name_of_addr x.apart (Rs h1) (Rs h2)
 ·have hy:scope.names.lookup y=!.cell\/scope.names.lookup y=!.free:=hy;rcases hy with hy | hy
  ·show Gi hy
  ·show absurd rfl (S.TU _ (Rs hy))
 ·show _Z (x.above y c (Rs h))
 ·have hi:i < vs.length:=by
   unfold start at h2;by_cases hi:i < vs.length
   ·show hi
   ·rw[Cl (by simpa using hi)]at h2;rw[List.getElem?_replicate]at h2;split at h2 <;> cases h2
  have ha:vs[i]?=!v:=by
   unfold start at h2;rw[EQ (by simpa using hi),Da]at h2;cases e:vs[i]? with
   | none=>rw[e]at h2;cases h2
   | some a=>rw[e]at h2;cases h2;rfl
  let⟨u,hu,rv⟩:=r.get ha;have hp:ps[i]?=!y:=by
   rw[<- S.pre,List.getElem?_take_of_lt ∅];show h1
  have N1:ps.Nodup:=by rw[<- S.pre];show S.nd.sublist (List.take_sublist _ _)
  show#[u,rv,?_];rcases S.par y (Go hp) with k | k
  ·show .inl #[k,GB N1 hp hu k]
  ·let⟨c,e⟩:=Gi (n:=s.heap.objs.size+1) k;show .inr #[.inl k,c,e,?_];have q:=x.cell y c e;rw[J2 N1 hp hu (by change scope.names.lookup y≠_;rw[k];decide)]at q;show q
 ·show e0.aA.fresh (_Z (x.above y c (Rs h)))
 ·unfold start;change _=N.length;rw[mo,pi,List.length_replicate];omega
def En{CX:eK}{P:Program}{w:World}{K:ν}{mg:Str->Option Value}{base:Heap}{k:Nat}{f:Addr}{name qual:Str}{params:Arguments}{body:List Stmt}{scope:Scope}{dV kV doc pm ax ct oc:Value}{an od:Option Addr}{ei:Array (Option Value)}{N ps:List Str}{sp:Sp}(lk:K.lookup f=!#[oc,od,.func (W.fnOf name qual params body scope dV kV doc pm an ax ct),ei])(dD:W.codeIn K ax qual=true)(S:aF N ps scope)(len:∀ vs H Q E,sp vs H Q E->vs.length=ps.length)(Fb:∀ (A:Around) (outer:List Env) (s:Shared) (H:Hp) (vs:List V) (Q:VK) (E:XK),bL k (A.deeper (envOfC qual scope s.heap.objs.size f ax))->sp vs H Q E ->
   ∃ t,eE (ij CX P w K mg base N qual scope f ax A outer s H E) body t/\t { nx:=fun _ H'=>Q .ao H',rt:=Q } (start N vs) H) :
  aC P w K mg base CX (k+1) f (W.fnOf name qual params body scope dV kV doc pm an ax ct) ps sp:=by
 show#[len,fun A outer s H args us vs Q E hr e0 hb r gQ=>?_];have hl:=len _ _ _ _ gQ;have KX:K.In s.heap:=e0.mod.jb.keeps fun b o e=>(e0.bs b o e).1;have lim:s.heap.NoLimit:=e0.mod.nolimit.keeps fun b o e=>(e0.bs b o e).1;have hkind:∀ y∈ps.zip us,scope.names.lookup y.1=!.local\/(scope.names.lookup y.1=!.cell/\((cellsFrom (s.heap.objs.size+1) scope.names []).lookup y.1).isSome=true):=fun ⟨n,v⟩ hy=>by
  rcases S.par n (List.of_mem_zip hy).1 with q | q
  ·show .inl q
  ·show .inr #[q,W.cellsFrom_some _ _ _ (.inl q)]
 show codeAny_call_function hr.depth (KX _ _ lk) rfl S.co S.gen rfl (W.codeRec_of KX dD) (hb _ _ _ _ ?_);show wpAny_newFunctionEnv_cells S.kind hkind fun env he s1 x=>?_;subst he;show#[lim.keeps x.toInCall.keep,codeAny_func ?_];let⟨t,ht,hq⟩:=Fb A outer s H vs Q E (hr.deeper _) gQ;have I:Inv (ij CX P w K mg base N qual scope f ax A outer s H E) [] (start N vs) H s1:=WV S hr.hd e0 hl r x;show Re (ht [] s1 (start N vs) H _ I hq) (fun fl s' hs=>?_) fun e s' hs=>hs;have fin:∀ {σ':St}{H':Hp}{v:V}{u:Value},Inv (ij CX P w K mg base N qual scope f ax A outer s H E) [] σ' H' s'->RelV v u->Q v H'->CE outer P w H s Q u s' :=
  fun {σ' H' v u} J rv q=>#[v,H',J.os,J.bare,J.base,J.aA,rv,q]
 cases fl with
 | ret u =>
  let⟨v,σ',H',J,rv,q⟩:=hs;show fin J rv q
 | next =>
  let⟨σ',H',J,q⟩:=hs;show fin (v:=V.ao) (u:=Value.none) J rfl q
 | brk =>
  let⟨_,_,_,q⟩:=hs;show False.elim q
 | cont =>
  let⟨_,_,_,q⟩:=hs;show False.elim q
section
variable {X:Cx}{x:Str}{p pos:Pos}{e:Expr}{es:List Expr}{t:TA}{id T:String}{r:List V->Hp->VK->Prop}
def  nQ(r:List V->Hp->VK->Prop)(t:TA):TE:=fun σ H Q=>t σ H fun vs H1=>r vs H1 Q
def W6(hc:cJ X (.builtin id) r)(hg:Gl X x)(hm:X.mg x=none)(hv:bootBuiltins x=!.builtin id)(ha:PA X (e::es) t)(hn:x ≠ "__name__" := by decide)(cm:(x == ("__debug__":Str))=false:=by decide)(he:starEach (e::es) X.env=(false,eval e X.env)::starEach es X.env:=by rfl)(bx:(backTo pos (starEach es X.env)).any (·.1)=false:=by rfl):PE X (.Call (.Name x p) (e::es) [] pos) (nQ r t):=by
 intro π s σ H Q I h;show KM (oQ I hg hm hv ?_ hn cm);show PyProof.Rows.callWith_builtin1 (aE (ha pos π s σ H _ I h) fun us s1 #[vs,H1,I1,r1,q1]=>hc π s1 σ H1 vs us Q I1 r1 q1) he bx
def WR(hc:cJ X (.type T) r)(hg:Gl X x)(hm:X.mg x=none)(hv:bootBuiltins x=!.type T)(ha:PA X (e::es) t)(hn:x ≠ "__name__" := by decide)(cm:(x == ("__debug__":Str))=false:=by decide)(he:starEach (e::es) X.env=(false,eval e X.env)::starEach es X.env:=by rfl)(bx:(backTo pos (starEach es X.env)).any (·.1)=false:=by rfl):PE X (.Call (.Name x p) (e::es) [] pos) (nQ r t):=by
 intro π s σ H Q I h;show KM (oQ I hg hm hv ?_ hn cm);show WF (aE (ha pos π s σ H _ I h) fun us s1 #[vs,H1,I1,r1,q1]=>hc π s1 σ H1 vs us Q I1 r1 q1) he bx
end
end L2
namespace HT
open PySem PyProof.Rows
section
open PySem.SeqAt
open PySem.AutoSeq1 (wpAny_loadPart')
open PySem.MeetsSeq PySem.MeetsSeq2 PySem.MeetsSeq3
end
section
variable {prog:Program}{w:World}{A:Around}{E:Value->Shared->Prop}{s:Shared}
def Tg{t b:Addr}{vs ws:List Value}{Q:Value->Shared->Prop}(ht:IsTup s.heap t vs.toArray)(hb:IsTup s.heap b ws.toArray)(hv:vs≠[])(h1:ws=[]->Q (-t) s)(h2:ws≠[]->Q (-s.heap.objs.size) { s with heap:=s.heap.push { cls:=.type "tuple",data:=.seq (vs++ws).toArray } })(hsz:vs.length+ws.length<=sizeLine):wpAny (model prog w) A (binaryOp .Add (-t) (-b)) Q E s:=by
 let⟨⟨cls,dd,data,sl⟩,ho,hc,n,hd⟩:=id ht;let⟨⟨cls2,zl,data2,yM⟩,pj,jx,n2,hd2⟩:=id hb;simp only at hc hd jx hd2;subst hc hd jx hd2;have e:vs.toArray++ws.toArray=(vs++ws).toArray:=()
 by_cases hw:ws=[]
 ·show concat_meets #[_,ho,rfl] #[_,pj,rfl] noFill_tuple_add seq_tuple_add PySem.F.slot_tuple_add PySem.F.entry_tuple_add (PySem.F.args_tuple_add_2 _ _)
   (tuple_addW1 t b vs.toArray ws.toArray n n2 dd zl sl yM (by simpa using hv) (by simp[hw])) #[ho,pj,h1 hw]
 ·show concat_meets #[_,ho,rfl] #[_,pj,rfl] noFill_tuple_add seq_tuple_add PySem.F.slot_tuple_add PySem.F.entry_tuple_add (PySem.F.args_tuple_add_2 _ _)
   (tuple_addW2 t b vs.toArray ws.toArray n n2 dd zl sl yM (by simpa using hv) (by simpa using hw) (by rw[List.size_toArray,List.size_toArray];show hsz)) #[ho,pj,?_]
  rw[e];show h2 hw
def  bg(n d:Nat):Option Int->Nat
 | none=>d
 | some v=>if v < 0 then (v+(n:Int)).toNat else min v.toNat n
def AO(n d:Nat):bg n d none=d:=rfl
def CB(n d k:Nat):bg n d (!(k:Int))=min k n:=by
 change(if (k:Int) < 0 then ((k:Int)+(n:Int)).toNat else min (k:Int).toNat n)=min k n;rw[if_neg ∅,Int.toNat_natCast]
def aan(n d:Nat)(hd:d<=n)(o:Option Int):bg n d o<=n:=by
 cases o with
 | none=>show hd
 | some v =>
  change(if v < 0 then (v+(n:Int)).toNat else min v.toNat n)<=n;by_cases hv:v < 0
  ·rw[if_pos hv];omega
  ·rw[if_neg hv];show Nat.min_le_right _ _
def G4(v:Int)(n d:Nat):(if v < 0 then max (v+(n:Int)) 0 else min v (n:Int))=((bg n d (!v):Nat):Int):=by
 change(if v < 0 then max (v+(n:Int)) 0 else min v (n:Int))=(((if v < 0 then (v+(n:Int)).toNat else min v.toNat n):Nat):Int);by_cases hv:v < 0
 ·simp only[if_pos hv];omega
 ·simp only[if_neg hv];omega
def aaz(lo hi:Option Int)(n:Nat):Builtin.Slice.sliceAdjust lo hi 1 (n:Int)=(((bg n 0 lo:Nat):Int),((bg n n hi:Nat):Int)):=by
 have h1:¬ ((1:Int) < 0):=∅
 unfold Builtin.Slice.sliceAdjust;simp only[h1,if_false];show Prod.ext ?_ ?_
 ·cases lo with
  | none=>rfl
  | some v=>show G4 v n 0
 ·cases hi with
  | none=>rfl
  | some v=>show G4 v n n
def Zn(i j:Nat):Builtin.Slice.slicePlaces (i:Int) (j:Int) 1=j - i:=by
 unfold Builtin.Slice.slicePlaces;have h1:(1:Int) > 0:=∅
 simp only[h1,if_true,Int.ediv_one];split <;> omega
def LD{v:Value}{o:Option Int}{Q:Option Int->Shared->Prop}(p:IsPart v o)(h:Q o s):wpAny (model prog w) A (Builtin.Slice.slicePartIndex v) Q E s:=by
 cases p with
 | none=>show slicePart_none h
 | int i t=>show slicePart_int h
def LJ{sl:Addr}{vl vu:Value}{lo hi:Option Int}{n:Nat}{Q:Int×Int×Nat->Shared->Prop}(hs:s.heap.IsSliceOf sl vl vu .none)(pl:IsPart vl lo)(pu:IsPart vu hi)(h:Q (((bg n 0 lo:Nat):Int),1,bg n n hi - bg n 0 lo) s):wpAny (model prog w) A (Builtin.Slice.sliceApplied (-sl) (pure (n:Int))) Q E s:=by
 let⟨os,lY,zx,vG⟩:=id hs;unfold Builtin.Slice.sliceApplied Builtin.Slice.sliceFields;show wpAny_bind (wpAny_bind (wpAny_field lY vG (x:=vl) rfl (wpAny_bind (wpAny_field lY vG (x:=vu) rfl (wpAny_bind (wpAny_field lY vG (x:=.none) rfl (wpAny_pure ?_)))))));show wpAny_bind (slicePart_none ?_);change wpAny _ _ (if ((1:Int) == 0)=true then _ else _) _ _ s;rw[if_neg ⋯];show wpAny_bind (LD pl (wpAny_bind (LD pu (wpAny_bind (wpAny_pure ?_)))));change wpAny _ _ (match Builtin.Slice.sliceAdjust lo hi 1 (n:Int) with | (lo,hi)=>pure (lo,(1:Int),Builtin.Slice.slicePlaces lo hi 1)) _ _ s;rw[aaz lo hi n];change wpAny _ _ (pure (((bg n 0 lo:Nat):Int),(1:Int),Builtin.Slice.slicePlaces ((bg n 0 lo:Nat):Int) ((bg n n hi:Nat):Int) 1)) _ _ s;rw[Zn];show wpAny_pure h
def XR(xs:Array Value)(i k:Nat):((List.range k).filterMap fun (m:Nat)=>xs[((i:Int)+(m:Int) * 1).toNat]?).toArray=((xs.toList.drop i).take k).toArray:=by
 have e:(fun (m:Nat)=>xs[((i:Int)+(m:Int) * 1).toNat]?)=fun m=>xs[i+m]?:=by
  funext m
  have:((i:Int)+(m:Int) * 1).toNat=i+m:=∅
  rw[this]
 rw[e];have:=pick_run xs i k;rw[List.filterMap_map]at this;have e2:((fun x=>xs[x]?) ∘ fun x=>i+x)=fun m=>xs[i+m]?:=rfl;rw[e2]at this;rw[this]
def O5{t sl:Addr}{items:Array Value}{vl vu:Value}{lo hi:Option Int}{Q:Value->Shared->Prop}(ht:IsTup s.heap t items)(hs:s.heap.IsSliceOf sl vl vu .none)(pl:IsPart vl lo)(pu:IsPart vu hi)(hw:¬ (bg items.size 0 lo=0/\bg items.size items.size hi=items.size))(h:Q (-s.heap.objs.size) { s with heap:=s.heap.push { cls:=.type "tuple",data:=.seq ((items.toList.drop (bg items.size 0 lo)).take (bg items.size items.size hi - bg items.size 0 lo)).toArray } })(hsz:items.size<=sizeLine):wpAny (model prog w) A (getItem (-t) (-sl)) Q E s:=by
 have y9:sizeOk (.seq ((items.toList.drop (bg items.size 0 lo)).take (bg items.size items.size hi - bg items.size 0 lo)).toArray):=by
  change((items.toList.drop (bg items.size 0 lo)).take (bg items.size items.size hi - bg items.size 0 lo)).toArray.size<=sizeLine;rw[List.size_toArray,List.length_take,List.length_drop,Array.length_toList];omega
 have hj:bg items.size items.size hi<=items.size:=aan _ _ (Nat.le_refl _) hi;let⟨os,lY,zx,vG⟩:=id hs;have FX:s.TypeIs (-sl) "slice" := #[os,lY,zx];unfold getItem
 try with_reducible show wpAny_holding ?_
 first | show wpAny_bind (wpAny_pure ?_) | skip
 show wpAny_bind (wpAny_sequenceKey ht.typeIs ⋯ ?_);show wpAny_bind (wpAny_callSpecial?_slot (name:=Str.ofString "__getitem__") ht.typeIs PyProof.Rows.slot_tuple_getitem
  (wpAny_call_entry PyProof.Rows.slot_tuple_getitem ht.typeIs entry_tuple_getitem ?_ (args_tuple_getitem _ _)))
 change wpAny _ _ (Builtin.Tuple.tupleItemsOf (-t) >>= _) _ _ s;show wpAny_bind (tupleItemsOf_ ht ?_);show wpAny_bind (wpAny_typeOf FX ?_);rw[if_pos ⋯];show wpAny_bind (LJ hs pl pu ?_);have ky:¬ ((((bg items.size 0 lo:Nat):Int) == 0 && (1:Int) == 1 && (bg items.size items.size hi - bg items.size 0 lo) == items.size)=true):=by
  intro q;rw[Bool.and_eq_true,Bool.and_eq_true]at q;have q1:((bg items.size 0 lo:Nat):Int)=0:=eq_of_beq q.1.1;have q2:bg items.size items.size hi - bg items.size 0 lo=items.size:=eq_of_beq q.2;show hw #[∅,∅]
 change wpAny _ _ (if (((bg items.size 0 lo:Nat):Int) == 0 && (1:Int) == 1 && (bg items.size items.size hi - bg items.size 0 lo) == items.size)=true then _ else _) _ _ s;rw[if_neg ky,XR]
 first
  | show wpAny_bind (m:=Builtin.Tuple.tupleExact _) (wpAny_newObj_type (wpAny_pure #[_,rfl,wpAny_pure h]) y9)
  | show wpAny_bind (m:=Builtin.Tuple.tupleExact _) (wpAny_newObj_type (wpAny_bind (wpAny_pure (wpAny_pure #[_,rfl,wpAny_pure h]))) y9)
  | show wpAny_bind (wpAny_bind (m:=Builtin.Tuple.tupleExact _) (wpAny_newObj_type (wpAny_pure (wpAny_pure #[_,rfl,wpAny_pure h])) y9))
  | show wpAny_bind (wpAny_bind (m:=Builtin.Tuple.tupleExact _) (wpAny_newObj_type (wpAny_pure #[_,rfl,wpAny_pure h]) y9))
end
end HT
namespace L2
open PySem PySem.Spec PyProof.Rows
abbrev TO:=St->Hp->(Option Int->Hp->Prop)->Prop
def  PO(X:Cx)(e:Option Expr)(t:TO):Prop :=
 ∀ (π:List (Addr×Obj)) (s:Shared) (σ:St) (H:Hp) (Q:Option Int->Hp->Prop),Inv X π σ H s->t σ H Q ->
  wpAny (model X.prog X.w) X.A (evalPart e X.env) (fun u s'=>∃ o H',Inv X π σ H' s'/\IsPart u o/\Q o H') X.xe s
def  BQ:TO:=fun _ H Q=>Q none H
section
variable {X:Cx}{e:Expr}{te:TE}{lo hi:Option Expr}{tl th:TO}{pos p2:Pos}
def Qt:PO X none BQ:=by
 intro π s σ H Q I h;rw[evalPart_none];show ul #[none,H,I,.none,h]
def  g7(X:Cx)(r:V->Option Int->Option Int->Hp->VK->Prop):Prop :=
 ∀ (π:List (Addr×Obj)) (s:Shared) (σ:St) (H:Hp) (x:V) (v vl vu:Value) (lo hi:Option Int) (sl:Addr) (Q:VK),Inv X π σ H s->RelV x v->s.heap.IsSliceOf sl vl vu .none->IsPart vl lo->IsPart vu hi->r x lo hi H Q ->
  ∃ T id,typeLookup (.type T) "__getitem__" = pure (!.builtin id)/\s.TypeIs v T/\wpAny (model X.prog X.w) X.A (getItem v (-sl)) (EP X π σ Q) X.xe s
def g7.or{r r':V->Option Int->Option Int->Hp->VK->Prop}(h:g7 X r)(h':g7 X r'):g7 X (fun x lo hi H Q=>r x lo hi H Q\/r' x lo hi H Q):=by
 intro π s σ H x v vl vu lo hi sl Q I rx hs pl pu q;rcases q with q | q
 ·show h π s σ H x v vl vu lo hi sl Q I rx hs pl pu q
 ·show h' π s σ H x v vl vu lo hi sl Q I rx hs pl pu q
def  C6(r:V->Option Int->Option Int->Hp->VK->Prop)(te:TE)(tl th:TO):TE:=fun σ H Q=>te σ H fun x H1=>tl σ H1 fun l H2=>th σ H2 fun u H3=>r x l u H3 Q
def O4{r:V->Option Int->Option Int->Hp->VK->Prop}(hr:g7 X r)(he:PE X e te)(hl:PO X lo tl)(hu:PO X hi th):PE X (.Subscript e (.Slice lo hi none p2) pos) (C6 r te tl th):=by
 intro π s σ H Q I h;show Subscript_ (aE (he π s σ H _ I h) fun v s1 #[x,H1,I1,r1,q1]=>?_);show wpAny_Slice (aE (hl π s1 σ H1 _ I1 q1) fun vl s2 #[l,H2,I2,pl,q2]=>aE (hu π s2 σ H2 _ I2 q2) fun vu s3 #[u,H3,I3,pu,q3]=>?_);rw[evalPart_none];show ul ?_;have I4:Inv X π σ H3 { s3 with heap:=s3.heap.push { cls:=.type "slice",data:=.fields (List.toArray [vl,vu,.none]) } }:=I3.kept (t':=s3.toks) fun b ob q=>li _ q;let⟨T,id,hT,ht,hg⟩:=hr π { s3 with heap:=s3.heap.push { cls:=.type "slice",data:=.fields (List.toArray [vl,vu,.none]) } } σ H3 x v vl vu l u s3.heap.objs.size Q I4 r1 (Heap.IsSliceOf.new ..) pl pu q3;change wpAny (model X.prog X.w) X.A (subscriptTail e (.Slice lo hi none p2) v (-s3.heap.objs.size)) (EP X π σ Q) X.xe { s3 with heap:=s3.heap.push { cls:=.type "slice",data:=.fields (List.toArray [vl,vu,.none]) } };show tail_any (ops:=[-s3.heap.objs.size,v]) ht hT hg (by with_unfolding_all rfl)
def  gm(xs:List V)(lo hi:Option Int):List V:=(xs.drop (HT.bg xs.length 0 lo)).take (HT.bg xs.length xs.length hi - HT.bg xs.length 0 lo)
def IG(xs:List V)(lo hi:Option Int):(gm xs lo hi).length<=xs.length:=by
 unfold gm;rw[Tm,List.length_drop];omega
def  G6(K:ν):V->Option Int->Option Int->Hp->VK->Prop:=fun x lo hi H Q=>∃ a xs,x=-a/\bE K H a xs /\
 ¬ (HT.bg xs.length 0 lo=0/\HT.bg xs.length xs.length hi=xs.length)/\∀ p,H p=none->Q (-p) (upd H p (.tup (gm xs lo hi)))
def K6:g7 X (G6 X.K):=by
 intro π s σ H x v vl vu lo hi sl Q I rx hs pl pu h;let⟨a,xs,rfl,hx,hw,q⟩:=h;cases rx;let⟨ai,r,ht,hz⟩:=I.tuple hx;have hlen:ai.toArray.size=xs.length:=by rw[sB];show r.length.symm
 show#["tuple",_,PyProof.Rows.slot_tuple_getitem.lookup,ht.typeIs,?_];show HT.O5 ht hs pl pu (by rw[hlen];show hw) ?_ (by rw[hlen];show hz);rw[hlen];show#[-s.heap.objs.size,_,I.laid (t':=s.toks) (o:=.tup (gm xs lo hi)) (fun b ob q=>li _ q) (lm _) ?_,rfl,q _ (I.aA.fresh (lm _))];show#[tz (IG xs lo hi) hz,_,(r.drop (HT.bg xs.length 0 lo)).take (HT.bg xs.length xs.length hi - HT.bg xs.length 0 lo),oO.new _ _]
def  YW(K:ν):R2:=fun x y H Q=>∃ a b xs ys,x=-a/\y=-b/\bE K H a xs/\bE K H b ys/\xs≠[]/\xs.length+ys.length<=sizeLine /\
 (ys=[]->Q (-a) H)/\(ys≠[]->∀ p,H p=none->Q (-p) (upd H p (.tup (xs++ys))))
def Vals.Dl{xs:List V}{us:List Value}(r:Vals xs us):us=[] ↔ xs=[]:=by
 cases r with
 | nil=>simp
 | cons _ _=>simp
def Vf:aZ X (binaryOp .Add) (YW X.K):=by
 intro π s σ H x y v u Q I rx ry h;let⟨a,b,xs,ys,rfl,rfl,ha,hb,hx,hz,q1,q2⟩:=h;cases rx;cases ry;let⟨ai,r1,p1,_⟩:=I.tuple ha;let⟨kh,r2,p2,_⟩:=I.tuple hb;show HT.Tg p1 p2 (fun z=>hx (r1.Dl.mp z)) (fun z=>#[-a,H,I,rfl,q1 (r2.Dl.mp z)]) (fun z=>?_) (by rw[<- r1.length,<- r2.length];show hz);show#[-s.heap.objs.size,_,I.laid (t':=s.toks) (o:=.tup (xs++ys)) (fun b ob q=>li _ q) (lm _) ?_,rfl,q2 (fun w=>z (r2.Dl.mpr w)) _ (I.aA.fresh (lm _))];show#[by rw[mo];show hz,_,r1.append r2,oO.new _ _]
end
def  gB(n:Nat)(i:Int):Option Nat:=if 0<=i then (if i < n then !i.toNat else none) else if (unop% Neg.neg ((n:Int)))<=i then !(i+n).toNat else none
def  cR{α:Type}(xs:List α)(i:Int):Option α:=(gB xs.length i).bind fun j=>xs[j]?
def Iz{n:Nat}{i:Int}{j:Nat}(h:gB n i=!j):seqIndex? i n=!j/\j < n/\(unop% Neg.neg ((n:Int)))<=i/\i < n:=by
 unfold gB at h;by_cases h0:0<=i
 ·rw[At h0]at h;by_cases h1:i < n
  ·rw[At h1]at h;have e:i.toNat=j:=Id h;show#[by rw[seqIndex_of h0 h1,e],∅,∅,h1]
  ·rw[wT h1]at h;cases h
 ·rw[wT h0]at h;by_cases h1:(unop% Neg.neg ((n:Int)))<=i
  ·rw[At h1]at h;have e:(i+n).toNat=j:=Id h;show#[by rw[seqIndex_neg ∅ h1,e],∅,h1,∅]
  ·rw[wT h1]at h;cases h
def AM{α:Type}{xs:List α}{i:Int}{v:α}(h:cR xs i=!v):∃ j,seqIndex? i xs.length=!j/\xs[j]?=!v/\j < xs.length/\(unop% Neg.neg ((xs.length:Int)))<=i/\i < xs.length:=by
 unfold cR at h;cases e:gB xs.length i with
 | none=>rw[e]at h;cases h
 | some j =>
  rw[e]at h;let⟨h1,h2,h3,h4⟩:=Iz e;show#[j,h1,h,h2,h3,h4]
def jR{α:Type}{xs:List α}{j:Nat}{v:α}(h:xs[j]?=!v):cR xs (j:Int)=!v:=by
 have hj:j < xs.length:=(ss.mp h).1;have e:gB xs.length (j:Int)=!j:=by
  unfold gB;rw[At ∅,At ∅];simp
 unfold cR;rw[e];show h
def lS{α:Type}(xs:List α)(v:α):cR (xs++[v]) ((unop% Neg.neg (1)))=!v:=by
 have hl:(xs++[v]).length=xs.length+1:=()
 have e:gB (xs++[v]).length ((unop% Neg.neg (1)))=!xs.length:=by
  unfold gB;rw[hl,wT ⋯,At ∅]
  congr 1
  omega
 unfold cR;rw[e];change(xs++[v])[xs.length]?=!v;simp
def  JS(b:Expr):Prop:=∀ o i,subscripted b false o i=operate [o,i] (getItem o i)
def  fM(X:Cx)(r:R2):Prop :=
 ∀ (value slice:Expr) (π:List (Addr×Obj)) (s:Shared) (σ:St) (H:Hp) (x y:V) (v u:Value) (Q:VK),Inv X π σ H s->RelV x v->RelV y u->r x y H Q ->
  subscripted slice false v u=operate [v,u] (getItem v u)->wpAny (model X.prog X.w) X.A (subscriptTail value slice v u) (EP X π σ Q) X.xe s
def  cP(X:Cx)(id:String)(r:V->List V->Hp->VK->Prop):Prop :=
 ∀ (π:List (Addr×Obj)) (s:Shared) (σ:St) (H:Hp) (x:V) (xs:List V) (v:Value) (us:List Value) (Q:VK),Inv X π σ H s->RelV x v->Vals xs us->r x xs H Q ->
  wpAny (model X.prog X.w) X.A (call (.builtin id) (v::us)) (EP X π σ Q) X.xe s
section
variable {X:Cx}{a b:Expr}{ta tb:TE}{pos:Pos}
def fM.or{r r':R2}(h:fM X r)(h':fM X r'):fM X (fun x y H Q=>r x y H Q\/r' x y H Q):=by
 intro value slice π s σ H x y v u Q I rx ry q hs;rcases q with q | q
 ·show h value slice π s σ H x y v u Q I rx ry q hs
 ·show h' value slice π s σ H x y v u Q I rx ry q hs
def PB{r:R2}(hr:fM X r)(ha:PE X a ta)(hb:PE X b tb)(hs:JS b):PE X (.Subscript a b pos) (iM r ta tb):=by
 intro π s σ H Q I h;show Subscript_ (Aj ha hb I h fun v u s2 x y H2 I2 rx ry q=>hr a b π s2 σ H2 x y v u Q I2 rx ry q (hs _ _))
def  Hi(K:ν):R2:=fun x y H Q=>∃ p xs i v,x=-p/\y=.int i/\aB K H p xs/\cR xs i=!v/\Q v H
def  Mn(K:ν):R2:=fun x y H Q=>∃ p xs i v,x=-p/\y=.int i/\bE K H p xs/\cR xs i=!v/\Q v H
def  Mw:R2:=fun x y H Q=>∃ z i c,x=.str z/\y=.int i/\z.length<=sizeLine/\cR z.cps.toList i=!c/\Q (.str #[(List.toArray [c])]) H
def Hc:fM X (Hi X.K):=by
 intro value slice π s σ H x y v u Q I rx ry h hs;let⟨p,xs,i,z,rfl,rfl,hq,he,q⟩:=h;cases rx;let⟨t,rfl⟩:=ry;let⟨ai,r,pl,hz⟩:=I.list hq;let⟨j,h1,h2,h3,h4,h5⟩:=AM he;let⟨w,ew,rw'⟩:=r.get h2;have hl:=r.length;have hn:=sO;have fin:EP X π σ Q w s:=#[z,H,I,rw',q];by_cases h0:0<=i
 ·have hj:i.toNat=j:=by
   rw[seqIndex_of h0 h5]at h1;show Id h1
  show item_listR pl.isList h0 ∅ (by rw[hj];simpa using ew) fin hs
 ·have hj:(i+(ai.toArray.size:Int)).toNat=j:=by
   rw[seqIndex_neg ∅ h4]at h1;rw[sB,<- hl];show Id h1
  show subscriptTail_builtinR (x:=w) pl.isList.typeIs slot_list_getitem.lookup
   (wpAny_getItem_list_neg (Q:=fun r s'=>r=w/\EP X π σ Q r s') pl.isList ∅ (by rw[sB] <;> omega) ∅ (by rw[hj];simpa using ew) #[rfl,fin]) hs
def Sm:fM X (Mn X.K):=by
 intro value slice π s σ H x y v u Q I rx ry h hs;let⟨p,xs,i,z,rfl,rfl,hq,he,q⟩:=h;cases rx;let⟨t,rfl⟩:=ry;let⟨ai,r,pl,hz⟩:=I.tuple hq;let⟨j,h1,h2,h3,h4,h5⟩:=AM he;let⟨w,ew,rw'⟩:=r.get h2;have hl:=r.length;have hn:=sO;have fin:EP X π σ Q w s:=#[z,H,I,rw',q];show subscriptTail_builtinR (x:=w) pl.typeIs slot_tuple_getitem.lookup
  (getItem_tuple (j:=j) (Q:=fun r s'=>r=w/\EP X π σ Q r s') pl ∅ ∅ (by rw[sB,<- hl];show h1) (by simpa using ew) #[rfl,fin]) hs
def Ts:fM X Mw:=by
 intro value slice π s σ H x y v u Q I rx ry h hs;let⟨z,i,c,rfl,rfl,hz,he,q⟩:=h;let⟨t,rfl⟩:=rx;let⟨t',rfl⟩:=ry;let⟨j,h1,h2,h3,h4,h5⟩:=AM he;have hl:z.cps.toList.length=z.length:=by simp[Str.length]
 rw[hl]at h1 h4 h5;have hn:=sO;show tail_any (_K s z t) slot_str_getitem.lookup (getItem_str (c:=c) (by
  have e1:decide (i < (unop% Neg.neg ((2 ^ 63:Int))))=false:=kt ∅;have e2:decide (i ≥ 2 ^ 63)=false:=kt ∅;rw[e1,e2,Jas]) (by rw[h1];simpa using h2) #[.str #[(List.toArray [c])],H,I.tok _,#[_,rfl],q]) hs
def  Rw(K:ν):R2:=fun x y H Q=>Hi K x y H Q\/Mn K x y H Q\/Mw x y H Q
def R6:fM X (Rw X.K):=Hc.or (Sm.or Ts)
def Sq(ai:List Value)(n j:Nat)(u:Value):Obj.mapSeq (·.setIfInBounds j u) { cls:=.type "list",data:=.seq ai.toArray n }={ cls:=.type "list",data:=.seq (ai.set j u).toArray n }:=by
 simp[Obj.mapSeq]
def Inv.lst{π:List (Addr×Obj)}{σ:St}{H:Hp}{s:Shared}{p:Addr}{xs:List V}(I:Inv X π σ H s)(h:H p=!.lst xs) :
  ∃ (ai:List Value) (n:Nat),Vals xs ai/\s.heap.get? p=!{ cls:=.type "list",data:=.seq ai.toArray n }/\xs.length<=sizeLine:=by
 let⟨z,ai,n,r,e⟩:=I.aA p _ h;show#[ai,n,r,e,z]
def Inv.S0{π:List (Addr×Obj)}{σ:St}{H:Hp}{s:Shared}{p:Addr}{xs ys:List V}{ai its':List Value}{n n':Nat}{f:Obj->Obj}(I:Inv X π σ H s)(h:H p=!.lst xs)(ho:s.heap.get? p=!{ cls:=.type "list",data:=.seq ai.toArray n })(hf:f { cls:=.type "list",data:=.seq ai.toArray n }={ cls:=.type "list",data:=.seq its'.toArray n' })(r:Vals ys its')(hz:ys.length<=sizeLine)(t:Nat) :
  Inv X π σ (upd H p (.lst ys)) { s with heap:=s.heap.update p f,toks:=t }:=by
 have e:(s.heap.update p f).get? p=!{ cls:=.type "list",data:=.seq its'.toArray n' }:=by
  rw[UF f ho (by rw[hf] <;> rfl),hf]
 show I.write (x:=p) (e:=p) (by rw[h];trivial) (.inl rfl) (fun b u hb q=>(IO _ _ (ut hb)).trans q) #[_,e] ?_;show#[hz,its',n',r,e]
def  Zd:V->V->V->Hp->(Hp->Prop)->Prop:=fun o i v H Q=>∃ p xs k j,o=-p/\i=.int k/\H p=!.lst xs/\gB xs.length k=!j/\Q (upd H p (.lst (xs.set j v)))
def set_list:yG X Zd:=by
 intro π s σ H o i v ov iv u Q I ro ri rv h;let⟨p,xs,k,j,rfl,rfl,hp,hj,q⟩:=h;cases ro;let⟨t,rfl⟩:=ri;let⟨ai,n,r,ho,hz⟩:=I.lst hp;let⟨h1,h2,h3,h4⟩:=Iz hj;have hl:=r.length;have hn:=sO;have I':Inv X π σ (upd H p (.lst (xs.set j v))) { s with heap:=s.heap.update p (Obj.mapSeq (·.setIfInBounds j u)) } :=
  I.S0 hp ho (Sq ai n j u) (r.set rv j) (by rw[_c];show hz) s.toks
 by_cases h0:0<=k
 ·have hk:k.toNat=j:=by
   rw[seqIndex_of h0 h4]at h1;show Id h1
  show W.ki_setAt ho h0 ∅ (by rw[sB,<- hl];show h4) (by rw[hk];show#[_,I',q])
 ·have hk:(k+(ai.toArray.size:Int)).toNat=j:=by
   rw[seqIndex_neg ∅ h3]at h1;rw[sB,<- hl];show Id h1
  show W.ki_setBack ho ∅ (by rw[sB,<- hl];show h3) ∅ (by rw[hk];show#[_,I',q])
def V5(lo hi:Option Int)(n:Nat):(sliceBounds lo hi none n).1=((HT.bg n 0 lo:Nat):Int)/\(sliceBounds lo hi none n).2.1=((HT.bg n n hi:Nat):Int)/\(sliceBounds lo hi none n).2.2=1:=by
 show#[?_,?_,rfl]
 ·cases lo with
  | none=>simp[sliceBounds,HT.bg]
  | some i =>
   simp only[sliceBounds,HT.bg,Option.getD_none,show(1:Int) > 0 by decide,if_true];by_cases h:i < 0
   ·simp only[h,if_true] <;> omega
   ·simp only[h,_B] <;> omega
 ·cases hi with
  | none=>simp[sliceBounds,HT.bg]
  | some i =>
   simp only[sliceBounds,HT.bg,Option.getD_none,show(1:Int) > 0 by decide,if_true];by_cases h:i < 0
   ·simp only[h,if_true] <;> omega
   ·simp only[h,_B] <;> omega
def Vg(ai:List Value)(lo hi:Option Int):slicePick ai.toArray lo hi none=((ai.drop (HT.bg ai.length 0 lo)).take (HT.bg ai.length ai.length hi - HT.bg ai.length 0 lo)).toArray:=by
 let⟨h1,h2,h3⟩:=V5 lo hi ai.toArray.size;unfold slicePick;rw[h1,h2,h3];simp only[sliceRange_one,pick_run,sB] <;> rfl
def  aat(K:ν):V->Option Int->Option Int->Hp->VK->Prop:=fun x lo hi H Q=>∃ a xs,x=-a/\aB K H a xs/\∀ p,H p=none->Q (-p) (upd H p (.lst (gm xs lo hi)))
def UQ:g7 X (aat X.K):=by
 intro π s σ H x v vl vu lo hi sl Q I rx hs pl pu h;let⟨a,xs,rfl,hx,q⟩:=h;cases rx;let⟨ai,r,ht,hz⟩:=I.list hx;have hlen:=r.length;show#["list",_,slot_list_getitem.lookup,ht.isList.typeIs,?_];show wpAny_getItem_list_slice ht.isList hs pl pu .none () ?_ (by rw[sB] <;> omega);rw[Vg,<- hlen];show#[-s.heap.objs.size,_,I.laid (t':=s.toks) (o:=.lst (gm xs lo hi)) (fun b ob q=>li _ q) (lm _) ?_,rfl,q _ (I.aA.fresh (lm _))];show#[tz (IG xs lo hi) hz,_,0,(r.drop (HT.bg xs.length 0 lo)).take (HT.bg xs.length xs.length hi - HT.bg xs.length 0 lo),wl _ rfl]
def  cE:V->Bool
 | .ao=>true
 | .bl _=>true
 | .int _=>true
 | .str _=>true
 | _=>false
def  ff:V->V->Bool
 | .ao,.ao=>true
 | .bl a,.bl b=>a == b
 | .bl a,.int b=>(if a then 1 else 0) == b
 | .int a,.bl b=>a == (if b then 1 else 0)
 | .int a,.int b=>a == b
 | .str a,.str b=>a == b
 | _,_=>false
def Ma{A:Around}{s:Shared}{y x:V}{u v:Value}(ry:RelV y u)(rx:RelV x v)(fy:cE y=true)(fx:cE x=true):SeqAt.EqAt A s u v (ff y x):=by
 cases y with
 | ao =>
  cases ry;cases x with
  | ao=>cases rx;show SeqAt.EqAt.same _
  | bl b=>cases rx;show SeqAt.EqAt.none_bool b
  | int b=>let⟨t,rfl⟩:=rx;show SeqAt.EqAt.none_int b t
  | str b=>let⟨t,rfl⟩:=rx;show SeqAt.EqAt.none_str b t
  | _=>show absurd (show false=true from fx) wP
 | bl a =>
  cases ry;cases x with
  | ao=>cases rx;show SeqAt.EqAt.bool_none a
  | bl b=>cases rx;show SeqAt.EqAt.bool_bool a b
  | int b=>let⟨t,rfl⟩:=rx;show SeqAt.EqAt.bool_int a b t
  | str b=>let⟨t,rfl⟩:=rx;show SeqAt.EqAt.bool_str a b t
  | _=>show absurd (show false=true from fx) wP
 | int a =>
  let⟨t',rfl⟩:=ry;cases x with
  | ao=>cases rx;show SeqAt.EqAt.int_none a t'
  | bl b=>cases rx;show SeqAt.EqAt.int_bool a t' b
  | int b=>let⟨t,rfl⟩:=rx;show SeqAt.EqAt.int_int a t' b t
  | str b=>let⟨t,rfl⟩:=rx;show SeqAt.EqAt.int_str a t' b t
  | _=>show absurd (show false=true from fx) wP
 | str a =>
  let⟨t',rfl⟩:=ry;cases x with
  | ao=>cases rx;show SeqAt.EqAt.str_none a t'
  | bl b=>cases rx;show SeqAt.EqAt.str_bool a t' b
  | int b=>let⟨t,rfl⟩:=rx;show SeqAt.EqAt.str_int a t' b t
  | str b=>let⟨t,rfl⟩:=rx;show SeqAt.EqAt.str_str a t' b t
  | _=>show absurd (show false=true from fx) wP
 | _=>show absurd (show false=true from fy) wP
def  gk(x:V)(u:Value):Bool:=match u with
 | .none=>ff .ao x
 | .bool b=>ff (.bl b) x
 | .int i _=>ff (.int i) x
 | .str z _=>ff (.str z) x
 | _=>false
def Jp{x y:V}{u:Value}(r:RelV y u)(f:cE y=true):gk x u=ff y x:=by
 cases y with
 | ao=>cases r;rfl
 | bl b=>cases r;rfl
 | int i=>let⟨t,rfl⟩:=r;rfl
 | str z=>let⟨t,rfl⟩:=r;rfl
 | _=>show absurd (show false=true from f) wP
def uN{x:V}:∀ {xs:List V}{us:List Value},Vals xs us->xs.all cE=true->us.any (gk x)=xs.any fun y=>ff y x
 | _,_,.nil,_=>rfl
 | y::xs,u::us,.cons r t,f=>by
  rw[LE,Fk]at f;rw[_j,_j,Jp r f.1,uN t f.2]
def sZ{A:Around}{s:Shared}{x:V}{v:Value}(rx:RelV x v)(fx:cE x=true):∀ {xs:List V}{us:List Value},Vals xs us->xs.all cE=true->∀ u∈us,SeqAt.EqAt A s u v (gk x u)
 | _,_,.nil,_=>fun u hu=>by cases hu
 | y::xs,u::us,.cons r t,f=>fun u' hu=>by
  rw[LE,Fk]at f;rcases lv.mp hu with rfl | hu
  ·rw[Jp r f.1];show Ma r rx f.1 fx
  ·show sZ rx fx t f.2 u' hu
def  ik(x:V)(xs:List V):Bool:=xs.any fun y=>ff y x
def  K3(K:ν)(neg:Bool):R2:=fun x y H Q=>∃ p xs,y=-p/\(aB K H p xs\/bE K H p xs)/\cE x=true/\xs.all cE=true/\Q (.bl (if neg then Bool.not (ik x xs) else ik x xs)) H
def GN:aZ X (compareOp .In) (K3 X.K false):=by
 intro π s σ H x y v u Q I rx ry h;let⟨p,xs,rfl,hq,fx,fs,q⟩:=h;cases ry;rcases hq with hq | hq
 ·let⟨ai,r,pl,hz⟩:=I.list hq;show SeqAt.in_listAt (gk x) pl.isList (fun w hw=>sZ rx fx r fs w (by simpa using hw)) #[.bl _,H,I,rfl,?_];rw[show ai.toArray.any (gk x)=ai.any (gk x) by simp,uN r fs];show q
 ·let⟨ai,r,pl,hz⟩:=I.tuple hq;show SeqAt.in_tupleAt (gk x) pl (fun w hw=>sZ rx fx r fs w (by simpa using hw)) #[.bl _,H,I,rfl,?_];rw[show ai.toArray.any (gk x)=ai.any (gk x) by simp,uN r fs];show q
def OR:aZ X (compareOp .NotIn) (K3 X.K true):=by
 intro π s σ H x y v u Q I rx ry h;let⟨p,xs,rfl,hq,fx,fs,q⟩:=h;cases ry;rcases hq with hq | hq
 ·let⟨ai,r,pl,hz⟩:=I.list hq;show SeqAt.notIn_listAt (gk x) pl.isList (fun w hw=>sZ rx fx r fs w (by simpa using hw)) #[.bl _,H,I,rfl,?_];rw[show ai.toArray.any (gk x)=ai.any (gk x) by simp,uN r fs];show q
 ·let⟨ai,r,pl,hz⟩:=I.tuple hq;show SeqAt.notIn_tupleAt (gk x) pl (fun w hw=>sZ rx fx r fs w (by simpa using hw)) #[.bl _,H,I,rfl,?_];rw[show ai.toArray.any (gk x)=ai.any (gk x) by simp,uN r fs];show q
def S4:cJ X (.type "list") (fun xs H Q=>∃ p ys,xs=[-p]/\(aB X.K H p ys\/bE X.K H p ys)/\∀ l,H l=none->Q (-l) (upd H l (.lst ys))):=by
 intro π s σ H xs us Q I r h;let⟨p,ys,rfl,hq,q⟩:=h;let⟨u,rfl,rx⟩:=vals1 r;cases rx;have fin:∀ (ai:List Value),Vals ys ai->ys.length<=sizeLine->∀ (h':Heap) (c':Nat),(∀ b o',s.heap.get? b=!o'->h'.get? b=!o') ->
   h'.get? s.heap.objs.size=!{ cls:=.type "list",dict:=none,data:=.seq ai.toArray c',slots:=(List.toArray []) }->EP X π σ Q (-s.heap.objs.size) { s with heap:=h' }:=fun ai r' hz h' c' kp e =>
  #[-s.heap.objs.size,_,I.laid (t':=s.toks) kp (lm _) (show cg X.prog X.w _ h' _ (.lst ys) from#[hz,ai,c',r',e]),rfl,q _ (I.aA.fresh (lm _))]
 rcases hq with hq | hq
 ·let⟨ai,r',pl,hz⟩:=I.list hq;have hlen:=r'.length;let⟨o,ho,hc,n,hd⟩:=pl.isList;show call_list_seq p (.inl rfl) ho hc hd (fun h' c' kp e=>fin ai r' hz h' c' kp e) (by simp only[sB] <;> omega)
 ·let⟨ai,r',pl,hz⟩:=I.tuple hq;have hlen:=r'.length;let⟨o,ho,hc,n,hd⟩:=pl;show call_list_seq p (.inr rfl) ho hc hd (fun h' c' kp e=>fin ai r' hz h' c' kp e) (by simp only[sB] <;> omega)
def  Qc(K:ν)(T:String)(x:V)(H:Hp):Prop:=match x with
 | .str _=>T = "str"
 | .int _=>T = "int"
 | .ref p=>(T = "list" /\ ∃ xs,aB K H p xs)\/(T = "tuple" /\ ∃ o,K.lookup p=!o/\o.cls=.type "tuple" /\ o.dict=none) \/
   (T = "dict" /\ ((∃ kvs,H p=!.dK kvs)\/∃ kvs,H p=!.dT kvs))\/(T = "set" /\ ∃ S n,H p=!.set S n)
 | _=>False
def Ci{π:List (Addr×Obj)}{σ:St}{H:Hp}{s:Shared}{T:String}{x:V}{v:Value}(I:Inv X π σ H s)(r:RelV x v)(ty:Qc X.K T x H) :
  s.TypeIs v T/\∀ a,v=-a->∃ ob,s.heap.get? a=!ob/\ob.dict=none:=by
 cases x with
 | str z =>
  let⟨t,rfl⟩:=r;cases (show T = "str" from ty);show#[_K s z t,fun _ e=>nomatch e]
 | int i =>
  let⟨t,rfl⟩:=r;cases (show T = "int" from ty);show#[typeIs_int s i t,fun _ e=>nomatch e]
 | ref p =>
  cases r;rcases ty with ⟨rfl,xs,hq⟩ | ⟨rfl,o,hk,hc,hd⟩ | ⟨rfl,hk⟩ | ⟨rfl,S,n,hk⟩
  ·let⟨ai,_,pl,_⟩:=I.list hq;show#[pl.isList.typeIs,fun a e=>?_];cases e;let⟨o,n,e,c,hd,_⟩:=pl;show#[o,e,hd]
  ·show#[#[o,I.cw p o hk,hc],fun a e=>?_];cases e;show#[o,I.cw _ o hk,hd]
  ·have z:∃ o,s.heap.get? p=!o/\o.ExactDict:=by
    rcases hk with ⟨kvs,hk⟩ | ⟨kvs,hk⟩
    ·let⟨_,_,_,_,o,_,_,e,ex,_⟩:=I.aA p _ hk;show#[o,e,ex]
    ·let⟨_,_,_,_,o,_,_,e,ex,_⟩:=I.aA p _ hk;show#[o,e,ex]
   let⟨o,e,ex⟩:=z;show#[#[o,e,ex.1],fun a e2=>?_];cases e2;show#[o,e,ex.2.1]
  ·let⟨o,_,_,_,e,ex,_⟩:=I.aA p _ hk;show#[#[o,e,ex.1],fun a e2=>?_];cases e2;show#[o,e,ex.2.1]
 | _=>show False.elim ty
variable {o e:Expr}{es:List Expr}{to:TE}{t:TA}{name:Str}{apos bc:Pos}{T id:String}{r:V->List V->Hp->VK->Prop}
/- xs.append(e),list.index on a module's tuple .. are cP facts of 06m -/
end
def  sH(X:Cx)(id:String)(r:V->List V->Hp->VK->Prop):Prop :=
 ∀ (π:List (Addr×Obj)) (s:Shared) (σ:St) (H:Hp) (x:V) (xs:List V) (v:Value) (us:List Value) (Q:VK),Inv X π σ H s->RelV x v->Vals xs us->r x xs H Q ->
  wpAny (model X.prog X.w) X.A (call (.builtin id) (v::us)) (EP X π σ Q) X.xe s
def Vals.one:∀ {x:V}{us:List Value},Vals [x] us->∃ u,us=[u]/\RelV x u
 | _,_,.cons r .nil=>#[_,rfl,r]
def Vals.zero:∀ {us:List Value},Vals [] us->us=[]
 | _,.nil=>rfl
def Vals.dropLast{xs:List V}{us:List Value}(h:Vals xs us):Vals xs.dropLast us.dropLast:=by
 induction h with
 | nil=>show .nil
 | cons r t ih =>
  cases t with
  | nil=>show .nil
  | cons q t'=>show .cons r ih
def Vals.eraseIdx:∀ {xs:List V}{us:List Value} (i:Nat),Vals xs us->Vals (xs.eraseIdx i) (us.eraseIdx i)
 | _,_,_,.nil=>.nil
 | _,_,0,.cons _ t=>t
 | _,_,i+1,.cons r t=>.cons r (Vals.eraseIdx i t)
def Vals.rep{xs:List V}{us:List Value}(h:Vals xs us):∀ k:Nat,Vals (List.replicate k xs).flatten (List.replicate k us).flatten
 | 0=>.nil
 | k+1=>by
  rw[_m,_m,_2,_2];show Vals.append h (Vals.rep h k)
def Uz{α:Type}(l:List α):l.eraseIdx (l.length - 1)=l.dropLast:=by
 induction l with
 | nil=>rfl
 | cons a r ih =>
  cases r with
  | nil=>rfl
  | cons b r =>
   have e:(a::b::r).length - 1=((b::r).length - 1)+1:=by
    have h1:(a::b::r).length=r.length+2:=rfl;have h2:(b::r).length=r.length+1:=rfl;omega
   rw[e,List.eraseIdx_cons_succ,ih]
   all_goals rfl
def Gp{α:Type}:∀ (l:List α) (i:Nat),(l.eraseIdx i).length<=l.length
 | [],_=>lm _
 | _::_,0=>_W _
 | _::r,i+1=>Ja0 (Gp r i)
def foldl_rep(ai:List Value):∀ (k:Nat) (acc:List Value),
  List.foldl (fun x1 x2=>x1++x2) acc.toArray (List.replicate k ai.toArray)=(acc++(List.replicate k ai).flatten).toArray
 | 0,acc=>by simp
 | k+1,acc=>by
  have e:acc.toArray++ai.toArray=(acc++ai).toArray:=()
  have e2:(acc++ai)++(List.replicate k ai).flatten=acc++(List.replicate (k+1) ai).flatten:=by
   rw[_m,_2,IR]
  rw[<- e2,<- foldl_rep ai k (acc++ai),<- e,_m,List.foldl_cons]
section
variable {X:Cx}{π:List (Addr×Obj)}{σ:St}{H:Hp}{s:Shared}{l b:Addr}{xs ys zs:List V}
def Inv.tJ{ai its':List Value}{n:Nat}{f:Array Value->Array Value}{t':Nat}(I:Inv X π σ H s)(hH:H l=!.lst xs)(e:s.heap.get? l=!{ cls:=.type "list",data:=.seq ai.toArray n })(hf:f ai.toArray=its'.toArray)(hv:Vals ys its')(hz:ys.length<=sizeLine) :
  Inv X π σ (upd H l (.lst ys)) { s with heap:=s.heap.update l (Obj.mapSeq f),toks:=t' }:=by
 have q:=PySem.IsL.update e f;rw[hf]at q;show I.write (x:=l) (e:=l) (by rw[hH];show trivial) (.inl rfl) (fun b' u hb hu=>(IO s.heap (Obj.mapSeq f) (ut hb)).trans hu) #[_,q] ?_;show#[hz,its',_,hv,q]
def Inv.IF{ai:List Value}{t':Nat}(I:Inv X π σ H s)(hv:Vals ys ai)(hz:ys.length<=sizeLine) :
  Inv X π σ (upd H s.heap.objs.size (.lst ys)) { s with heap:=s.heap.push { cls:=.type "list",data:=.seq ai.toArray },toks:=t' } :=
 I.laid (fun _ _ q=>li _ q) (lm _) #[hz,ai,0,hv,wl _ rfl]
def Inv.fresh(I:Inv X π σ H s):H s.heap.objs.size=none:=I.aA.fresh (lm _)
def Inv.lR(I:Inv X π σ H s)(hH:H l=!.lst xs):xs.length<=sizeLine/\∃ (ai:List Value) (n:Nat),Vals xs ai/\xs.length=ai.length/\s.heap.get? l=!{ cls:=.type "list",data:=.seq ai.toArray n }:=by
 let⟨z,ai,n,r,e⟩:=I.aA l _ hH;show#[z,ai,n,r,r.length,e]
def Kc{n:Nat}(h:n<=sizeLine):Builtin.List.listTooLong n=false:=by
 unfold Builtin.List.listTooLong;show kt ∅
end
section
variable {X:Cx}
def  YH:V->List V->Hp->VK->Prop:=fun x vs H Q=>∃ l xs y,x=-l/\vs=[y]/\H l=!.lst xs/\xs.length < sizeLine/\Q .ao (upd H l (.lst (xs++[y])))
def Vl:sH X "list.append" YH:=by
 intro π s σ H x vs v us Q I rx rv h;let⟨l,xs,y,rfl,rfl,hH,hz,q⟩:=h;cases rx;let⟨u,rfl,ru⟩:=rv.one;let⟨z,ai,n,r,hl,e⟩:=I.lR hH;show ST F.slot_list_append #[_,e,rfl] F.entry_list_append (F.args_list_append_2 _ _) (PySem.list_append l ai.toArray n u (by rw[sB];omega)) #[e,?_];show#[.ao,_,I.tJ (its':=ai++[u]) hH e () (r.append (.cons ru .nil)) ?_,rfl,q];rw[mo,List.length_singleton];omega
def  WN:V->List V->Hp->VK->Prop:=fun x vs H Q=>∃ l b xs zs,x=-l/\vs=[-b]/\H l=!.lst xs/\H b=!.lst zs/\xs.length+zs.length<=sizeLine/\Q .ao (upd H l (.lst (xs++zs)))
def OZ:sH X "list.extend" WN:=by
 intro π s σ H x vs v us Q I rx rv h;let⟨l,b,xs,zs,rfl,rfl,hH,hB,hz,q⟩:=h;cases rx;let⟨u,rfl,ru⟩:=rv.one;cases ru;let⟨z,ai,n,r,hl,e⟩:=I.lR hH;let⟨z2,kh,n2,r2,cB,e2⟩:=I.lR hB;have hsz:ai.toArray.size+kh.toArray.size<=sizeLine:=by rw[sB,sB];omega
 have Ey:¬ (Bool.not ai.toArray.isEmpty && Builtin.List.listTooLong (ai.toArray.size+kh.toArray.size))=true:=by
  rw[Kc hsz,Bool.and_false];show wP
 show ST F.slot_list_extend #[_,e,rfl] F.entry_list_extend (F.args_list_extend_2 _ _)
  (AutoSeq1.list_extend_list_list_0 l ai.toArray n b kh.toArray n2 Ey (by rw[sB];omega) ∅) #[e,e2,?_]
 show#[.ao,_,I.tJ (its':=ai++kh) hH e () (r.append r2) ?_,rfl,q];rw[mo];omega
def  Gb:V->List V->Hp->VK->Prop:=fun x vs H Q=>∃ l xs y,x=-l/\vs=[]/\H l=!.lst xs/\xs[xs.length - 1]?=!y/\Q y (upd H l (.lst xs.dropLast))
def Yx:sH X "list.pop" Gb:=by
 intro π s σ H x vs v us Q I rx rv h;let⟨l,xs,y,rfl,rfl,hH,hy,q⟩:=h;cases rx;have FD:=rv.zero;subst FD;let⟨z,ai,n,r,hl,e⟩:=I.lR hH;let⟨u,hu,ru⟩:=r.get hy;have hy':ai.toArray[ai.toArray.size - 1]?=!u:=by
  change ai.toArray[ai.length - 1]?=!u;rw[<- SC,<- hl];show hu
 show ST F.slot_list_pop #[_,e,rfl] F.entry_list_pop (F.args_list_pop_1 _) (MeetsSeq.list_pop_last l ai.toArray n u hy' (by rw[sB];omega)) #[e,?_];show#[y,_,I.tJ (its':=ai.dropLast) hH e ?_ r.dropLast ?_,ru,q]
 ·change ai.toArray.eraseIdxIfInBounds (ai.toArray.size - 1)=ai.dropLast.toArray;rw[sB,List.eraseIdxIfInBounds_toArray,Uz]
 ·rw[List.length_dropLast];omega
def  Hb:V->List V->Hp->VK->Prop:=fun x vs H Q=>∃ l xs i k y,x=-l/\vs=[.int i]/\H l=!.lst xs/\(unop% Neg.neg ((2 ^ 63)))<=i/\i < 2 ^ 63/\seqIndex? i xs.length=!k/\xs[k]?=!y/\Q y (upd H l (.lst (xs.eraseIdx k)))
def Vw:sH X "list.pop" Hb:=by
 intro π s σ H x vs v us Q I rx rv h;let⟨l,xs,i,k,y,rfl,rfl,hH,h1,h2,hk,hy,q⟩:=h;cases rx;let⟨u,rfl,ru⟩:=rv.one;let⟨t,rfl⟩:=ru;let⟨z,ai,n,r,hl,e⟩:=I.lR hH;let⟨w,hw,rw'⟩:=r.get hy;show ST F.slot_list_pop #[_,e,rfl] F.entry_list_pop (F.args_list_pop_2 _ _)
  (MeetsSeq.list_pop_at l ai.toArray n i t k w (fitsIndex_both h1 h2) (by rw[sB,<- hl];show hk) (by rw[<- SC];show hw) (by rw[sB];omega)) #[e,?_]
 show#[y,_,I.tJ (its':=ai.eraseIdx k) hH e ?_ (r.eraseIdx k) ?_,rw',q]
 ·change ai.toArray.eraseIdxIfInBounds k=(ai.eraseIdx k).toArray;rw[List.eraseIdxIfInBounds_toArray]
 ·have:=Gp xs k;omega
def  HG:V->List V->Hp->VK->Prop:=fun x vs H Q=>∃ l xs,x=-l/\vs=[]/\H l=!.lst xs/\Q .ao (upd H l (.lst []))
def Z3:sH X "list.clear" HG:=by
 intro π s σ H x vs v us Q I rx rv h;let⟨l,xs,rfl,rfl,hH,q⟩:=h;cases rx;have FD:=rv.zero;subst FD;let⟨z,ai,n,r,hl,e⟩:=I.lR hH;show ST F.slot_list_clear #[_,e,rfl] F.entry_list_clear (F.args_list_clear_1 _) (AutoSeq1.list_clear_list_0 l ai.toArray n (by rw[sB];omega)) #[e,?_];show#[.ao,_,I.tJ (its':=[]) (ys:=[]) hH e rfl .nil (wS _),rfl,q]
def  U0:R2:=fun x y H Q=>∃ l b xs zs,x=-l/\y=-b/\H l=!.lst xs/\H b=!.lst zs/\xs.length+zs.length<=sizeLine/\∀ p,H p=none->Q (-p) (upd H p (.lst (xs++zs)))
def VI:aZ X (binaryOp .Add) U0:=by
 intro π s σ H x y v u Q I rx ry h;let⟨l,b,xs,zs,rfl,rfl,hH,hB,hz,q⟩:=h;cases rx;cases ry;let⟨z,ai,n,r,hl,e⟩:=I.lR hH;let⟨z2,kh,n2,r2,cB,e2⟩:=I.lR hB;show PySem.P.add_list e e2 ?_ (by rw[sB,sB];omega);have ea:ai.toArray++kh.toArray=(ai++kh).toArray:=()
 rw[ea];show#[-_,_,I.IF (t':=s.toks) (r.append r2) (by rw[mo];omega),rfl,q _ I.fresh]
def  Xn:R2:=fun x y H Q=>∃ l k xs,x=-l/\y=.int k/\H l=!.lst xs/\(unop% Neg.neg ((2 ^ 63)))<=k/\k < 2 ^ 63/\xs.length * k.toNat<=sizeLine /\
 ∀ p,H p=none->Q (-p) (upd H p (.lst (List.replicate k.toNat xs).flatten))
def len_rep{α:Type}(xs:List α)(k:Nat):(List.replicate k xs).flatten.length=k * xs.length:=by
 induction k with
 | zero=>simp
 | succ k ih=>rw[_m,_2,mo,ih,Nat.succ_mul,Nat.add_comm]
def R4:aZ X (binaryOp .Mult) Xn:=by
 intro π s σ H x y v u Q I rx ry h;let⟨l,k,xs,rfl,rfl,hH,h1,h2,hz,q⟩:=h;cases rx;let⟨t,rfl⟩:=ry;let⟨z,ai,n,r,hl,e⟩:=I.lR hH;have hlen:ai.toArray.size * k.toNat<=sizeLine:=by rw[sB,<- hl];show hz
 have hcap:¬ ai.toArray.size * k.toNat > (2 ^ 63 - 1) / 8:=by
  have:(sizeLine:Nat)<=(2 ^ 63 - 1) / 8:=⋯
  omega
 have FL:¬ (Bool.not (Builtin.List.listFitsIndex k))=true:=by
  rw[fitsIndex_both h1 h2];show wP
 have Ey:¬ Builtin.List.listTooLong (ai.toArray.size * k.toNat)=true:=by
  rw[Kc hlen];show wP
 have vN:List.foldl (fun x1 x2=>x1++x2) (List.toArray []) (List.replicate (if ai.toArray.isEmpty=true then 0 else k.toNat) ai.toArray)=(List.replicate k.toNat ai).flatten.toArray:=by
  have f0:∀ m:Nat,List.foldl (fun x1 x2=>x1++x2) (List.toArray []) (List.replicate m ai.toArray)=(List.replicate m ai).flatten.toArray:=fun m=>by
   have:=foldl_rep ai m [];rw[List.nil_append]at this;show this
  rw[f0];cases ai with
  | nil=>simp
  | cons a r'=>rw[wT ()]
 show wpAny_binaryOp_repeat_ref (T := "list") (U := "int") ⋯ #[_,e,rfl] (fun s'=>typeIs_int s' k t) noFill_list_mul F.fills_int_mul F.slot_int_rmul repeat_list F.slot_int_index.lookup
  (ST F.slot_int_rmul (typeIs_int s k t) F.entry_int_rmul (F.args_int_rmul_2 _ _) (int___rmul___int_list k t l ai.toArray n)
   #[e,rfl,#[_,e,rfl],ST F.slot_list_mul #[_,e,rfl] F.entry_list_mul (F.args_list_mul_2 _ _) (AutoListH.list___mul___list_int_3 l ai.toArray n k t FL hcap Ey) #[e,?_]])
 rw[vN];show#[-_,_,I.IF (t':=s.toks) (r.rep k.toNat) (by rw[len_rep,Nat.mul_comm];show hz),rfl,q _ I.fresh]
end
section
variable {prog:Program}{w:World}{A:Around}{E:Value->Shared->Prop}{s:Shared}
end
section
variable {X:Cx}
end
section
variable {κ:Type}[DecidableEq κ]
def  aG(kvs:List (κ×V))(k:κ):Option V:=(kvs.find? fun kv=>decide (kv.1=k)).map (·.2)
def  putK(kvs:List (κ×V))(k:κ)(v:V):List (κ×V) :=
 if (kvs.any fun kv=>decide (kv.1=k))=true then kvs.map (fun kv=>if kv.1=k then (kv.1,v) else kv) else kvs++[(k,v)]
def  K5(kvs:List (κ×V))(k:κ):List (κ×V):=kvs.filter fun kv=>decide (kv.1≠k)
def oC{p:κ×V}{r:List (κ×V)}{k:κ}(e:p.1=k):aG (p::r) k=!p.2:=by simp[aG,_C,e]
def nH{p:κ×V}{r:List (κ×V)}{k:κ}(e:¬ p.1=k):aG (p::r) k=aG r k:=by simp[aG,_C,e]
def zN(k:κ):∀ kvs:List (κ×V),(kvs.any fun kv=>decide (kv.1=k))=(aG kvs k).isSome
 | []=>rfl
 | p::r=>by
  rw[_j];by_cases e:p.1=k
  ·simp only[oC e,u8 e,Bool.true_or,Option.isSome_some]
  ·rw[nH e,kt e,Bool.false_or];show zN k r
def z7(k j:κ)(y:V):∀ kvs:List (κ×V),aG kvs k=none->aG (kvs++[(k,y)]) j=if j=k then !y else aG kvs j
 | [],_=>by
  by_cases e:k=j
  ·rw[At e.symm];show oC (p:=(k,y)) e
  ·rw[wT (fun z=>e z.symm)];show nH (p:=(k,y)) e
 | p::r,hn=>by
  rw[List.cons_append];have hk:¬ p.1=k:=fun z=>by rw[oC z]at hn;cases hn
  rw[nH hk]at hn;have ih:=z7 k j y r hn;by_cases e:p.1=j
  ·rw[oC e,oC e,wT (fun z=>hk (e.trans z))]
  ·rw[nH e,nH e,ih]
def Jo(kvs:List (κ×V))(k:κ)(v:V):(putK kvs k v).length<=kvs.length+1:=by
 unfold putK;split
 ·rw[pi];omega
 ·rw[mo,xL,_d];omega
def eU.sM{o:Option V}{u:Option Value}(r:eU o u):o.isSome=u.isSome:=by
 cases o with
 | none=>cases u with
  | none=>rfl
  | some _=>show(show False from r).elim
 | some _=>cases u with
  | none=>show(show False from r).elim
  | some _=>rfl
def eU.getD{o:Option V}{u:Option Value}{d:V}{d':Value}(r:eU o u)(rd:RelV d d'):RelV (o.getD d) (u.getD d'):=by
 cases o with
 | none=>cases u with
  | none=>show rd
  | some _=>show(show False from r).elim
 | some _=>cases u with
  | none=>show(show False from r).elim
  | some _=>show r
def KV.val{kvs:List (κ×V)}{vs:List (κ×Value)}(r:KV kvs vs)(k:κ):eU (aG kvs k) (valueAt vs k):=by
 unfold KV at r
 induction r with
 | nil=>show True.intro
 | @cons p q ps qs h t ih =>
  let⟨h1,h2⟩:=h;by_cases e:p.1=k
  ·have e':q.1=k:=h1.symm.trans e;have b:valueAt (q::qs) k=!q.2:=by simp[valueAt,_C,e']
   rw[oC e,b];show h2
  ·have e':¬ q.1=k:=fun z=>e (h1.trans z);have b:valueAt (q::qs) k=valueAt qs k:=by simp[valueAt,_C,e']
   rw[nH e,b];show ih
def KV.any{kvs:List (κ×V)}{vs:List (κ×Value)}(r:KV kvs vs)(k:κ):(kvs.any fun kv=>decide (kv.1=k))=vs.any fun kv=>decide (kv.1=k):=by
 unfold KV at r
 induction r with
 | nil=>rfl
 | cons h t ih=>rw[_j,_j,ih,h.1]
def KV.Dx{kvs:List (κ×V)}{vs:List (κ×Value)}(r:KV kvs vs)(k:κ){y:V}{u:Value}(ry:RelV y u) :
  KV (kvs.map fun kv=>if kv.1=k then (kv.1,y) else kv) (vs.map fun kv=>if kv.1=k then (kv.1,u) else kv):=by
 unfold KV at r ⊢
 induction r with
 | nil=>show .nil
 | @cons p q ps qs h t ih =>
  rw[Fr,Fr];show .cons ?_ ih;let⟨h1,h2⟩:=h;by_cases e:p.1=k
  ·rw[At e,At (h1.symm.trans e)];show#[h1,ry]
  ·rw[wT e,wT (fun z=>e (h1.trans z))];show#[h1,h2]
def KV.put{kvs:List (κ×V)}{vs:List (κ×Value)}(r:KV kvs vs)(k:κ){y:V}{u:Value}(ry:RelV y u):KV (putK kvs k y) (stored vs k u):=by
 unfold putK stored;rw[r.any k];by_cases e:(vs.any fun kv=>decide (kv.1=k))=true
 ·rw[At e,At e];show r.Dx k ry
 ·rw[wT e,wT e];show Paired.snoc r #[rfl,ry]
def KV.keys{kvs:List (κ×V)}{vs:List (κ×Value)}(r:KV kvs vs):kvs.map (·.1)=vs.map (·.1):=by
 unfold KV at r
 induction r with
 | nil=>rfl
 | cons h t ih=>rw[Fr,Fr,ih,h.1]
def KV.length{kvs:List (κ×V)}{vs:List (κ×Value)}(r:KV kvs vs):kvs.length=vs.length:=Paired.length r
end
def pY{P:Program}{w:World}{k:Key}{u:Value}(r:RelV (kV k) u):(dI P w).is k u=true:=by
 cases k with
 | inl i=>let⟨t,e⟩:=(show ∃ t,u=Value.int i t from r);subst e;show Ys P w i t
 | inr x=>let⟨t,e⟩:=(show ∃ t,u=Value.str x t from r);subst e;show OO P w x t
def JZ{P:Program}{w:World}:∀ {ks:List Key}{us:List Value},Vals (ks.map kV) us->ItemsAre (dI P w) ks us
 | [],_,r=>by rw[_N]at r;cases r;show .nil
 | k::ks,_,r=>by
  rw[Fr]at r;cases r with
  | cons h t=>show .cons (pY h) (JZ t)
abbrev KT(H:Hp):List (List Key×V)->List (List Key×Addr×Value)->Prop:=Paired fun p q=>p.1=q.1/\H q.2.1=!.tup (p.1.map kV)/\RelV p.2 q.2.2
def KT.val{H:Hp}{kvs:List (List Key×V)}{xs:List (List Key×Addr×Value)}(r:KT H kvs xs)(k:List Key):eU (aG kvs k) ((atKey xs k).map (·.2)):=by
 induction r with
 | nil=>show True.intro
 | @cons p q ps qs h t ih =>
  let⟨h1,_,h2⟩:=h;by_cases e:p.1=k
  ·have e':q.1=k:=h1.symm.trans e;have b:atKey (q::qs) k=!q.2:=by simp[atKey,_C,e']
   rw[oC e,b];show h2
  ·have e':¬ q.1=k:=fun z=>e (h1.trans z);have b:atKey (q::qs) k=atKey qs k:=by simp[atKey,_C,e']
   rw[nH e,b];show ih
def KT.Dx{H:Hp}{kvs:List (List Key×V)}{xs:List (List Key×Addr×Value)}(r:KT H kvs xs)(k:List Key){y:V}{u:Value}(ry:RelV y u) :
  KT H (kvs.map fun kv=>if kv.1=k then (kv.1,y) else kv) (xs.map (putAt k u)):=by
 induction r with
 | nil=>show .nil
 | @cons p q ps qs h t ih =>
  rw[Fr,Fr];show .cons ?_ ih;let⟨h1,h2,h3⟩:=h;unfold putAt;by_cases e:p.1=k
  ·rw[At e,At (h1.symm.trans e)];show#[h1,h2,ry]
  ·rw[wT e,wT (fun z=>e (h1.trans z))];show#[h1,h2,h3]
def KT.put{H:Hp}{kvs:List (List Key×V)}{xs:List (List Key×Addr×Value)}(r:KT H kvs xs)(k:List Key){b:Addr}{y:V}{u:Value}(hb:H b=!.tup (k.map kV))(ry:RelV y u) :
  KT H (putK kvs k y) (storedH xs k b u):=by
 have e:(kvs.any fun kv=>decide (kv.1=k))=(atKey xs k).isSome:=by
  rw[zN,(r.val k).sM,Option.isSome_map]
 unfold putK storedH;rw[e];by_cases q:(atKey xs k).isSome=true
 ·rw[At q,At q];show r.Dx k ry
 ·rw[wT q,wT q];show Paired.snoc r #[rfl,hb,ry]
def KT.keeps{H H':Hp}{kvs:List (List Key×V)}{xs:List (List Key×Addr×Value)}(r:KT H kvs xs)(ht:∀ b ys,H b=!.tup ys->H' b=!.tup ys):KT H' kvs xs :=
 Paired.AR r fun _ _ z=>#[z.1,ht _ _ z.2.1,z.2.2]
section
variable {P:Program}{w:World}{H:Hp}{h:Heap}{a:Addr}
def HC{u:HO}(ok:cy P w H h)(e:Rd H a u):cg P w H h a u:=e.ok ok
def ou{kvs:List (Key×V)}(ok:cy P w H h)(e:Rd H a (.dK kvs)):kvs.length<=sizeLine/\(a == sysModules)=false/\∃ vs,KV kvs vs/\h.DictOf (dI P w) a vs :=
 show cg P w H h a (.dK kvs) from HC ok e
def Vq{kvs:List (Key×V)}(ok:cy P w H h)(e:H a=!.dK kvs):kvs.length<=sizeLine/\(a == sysModules)=false/\∃ vs,KV kvs vs/\h.DictOf (dI P w) a vs:=ou ok (.inl e)
def qg{ks:List Key}(ok:cy P w H h)(e:H a=!.tup (ks.map kV)):(tupleKind (dI P w)).is h ks a:=by
 let⟨_,ai,r,o,h1,h2,n,h3⟩:=(show cg P w H h a (.tup (ks.map kV)) from ok a _ e);show#[o,ai.toArray,n,h1,h2,h3.1,by simpa using JZ r]
def oN{kvs:List (List Key×V)}(ok:cy P w H h)(e:Rd H a (.dT kvs)):kvs.length<=sizeLine/\(a == sysModules)=false /\
  ∃ xs,KT H kvs xs/\h.DictOfH (tupleKind (dI P w)) a xs:=by
 let⟨z,y,xs,r,o,es,ep,h1,h2,h3,h4,h5⟩:=(show cg P w H h a (.dT kvs) from HC ok e);show#[z,y,xs,r,o,es,ep,h1,h2,h3,h4,fun x hx=>?_,h5];have all:∀ {l:List (List Key×V)}{m:List (List Key×Addr×Value)},KT H l m->∀ x∈m,(tupleKind (dI P w)).is h x.1 x.2.1:=by
  intro l m q
  induction q with
  | nil=>intro x hx;show nomatch hx
  | @cons p q ps qs hq t ih =>
   intro x hx;rcases lv.mp hx with e | hx
   ·subst e;show qg ok (by rw[<- hq.1];show hq.2.1)
   ·show ih x hx
 show all r x hx
def Pj{kvs:List (List Key×V)}(ok:cy P w H h)(e:H a=!.dT kvs):kvs.length<=sizeLine/\(a == sysModules)=false /\
  ∃ xs,KT H kvs xs/\h.DictOfH (tupleKind (dI P w)) a xs:=oN ok (.inl e)
end
def  dN(H:Hp)(a:Addr)(y:V)(r:Option V):Prop :=
 (∃ kvs k,Rd H a (.dK kvs)/\y=kV k/\r=aG kvs k)\/∃ kvs k b,Rd H a (.dT kvs)/\y=-b/\H b=!.tup (k.map kV)/\r=aG kvs k
def  hV(H:Hp)(a:Addr)(y v:V)(H':Hp):Prop :=
 (∃ kvs k,H a=!.dK kvs/\y=kV k/\kvs.length < sizeLine/\H'=upd H a (.dK (putK kvs k v))) \/
 ∃ kvs k b,H a=!.dT kvs/\y=-b/\H b=!.tup (k.map kV)/\kvs.length < sizeLine/\H'=upd H a (.dT (putK kvs k v))
def dN.k{H:Hp}{a:Addr}{kvs:List (Key×V)}{k:Key}(e:H a=!.dK kvs):dN H a (kV k) (aG kvs k):=.inl #[kvs,k,.inl e,rfl,rfl]
def hV.k{H:Hp}{a:Addr}{kvs:List (Key×V)}{k:Key}{v:V}(e:H a=!.dK kvs)(hl:kvs.length < sizeLine):hV H a (kV k) v (upd H a (.dK (putK kvs k v))):=.inl #[kvs,k,e,rfl,hl,rfl]
def hV.t{H:Hp}{a b:Addr}{kvs:List (List Key×V)}{k:List Key}{v:V}(e:H a=!.dT kvs)(eb:H b=!.tup (k.map kV))(hl:kvs.length < sizeLine) :
  hV H a (-b) v (upd H a (.dT (putK kvs k v))):=.inr #[kvs,k,b,e,rfl,eb,hl,rfl]
section
variable {X:Cx}{π:List (Addr×Obj)}{σ:St}{H:Hp}{s:Shared}{a:Addr}{y v:V}{u r:Value}{o:Option V}{A:Around}{E:Value->Shared->Prop}
def Inv.big(I:Inv X π σ H s):sysModules < s.heap.objs.size:=by
 have h:mainGlobals < s.heap.objs.size:=(I.mod.glob.keeps I.bk).lt;show Nat.lt_trans ⋯ h
def Yw{Q:Value->Shared->Prop}(hu:A.units+1 < cLine)(I:Inv X π σ H s)(g:dN H a y (!v))(ry:RelV y u)(h:∀ w' s',Inv X π σ H s'->RelV v w'->Q w' s') :
  wpAny (model X.prog X.w) A (getItem (-a) u) Q E s:=by
 rcases g with ⟨kvs,k,e,ey,l⟩ | ⟨kvs,k,b,e,ey,eb,l⟩
 ·subst ey;let⟨z,hd,vs,rel,dd⟩:=ou I.aA e;let⟨w',hw,rw'⟩:=eU.some_of (v:=v) (o:=valueAt vs k) (by rw[l];show rel.val k);show wpAny_getItem_of (pY ry) dd.mapOf hw (h w' _ (I.tok _) rw')
 ·subst ey;cases (show u=Value.ref b from ry);let⟨z,hd,xs,rel,dd⟩:=oN I.aA e;let⟨w',hw,rw'⟩:=eU.some_of (v:=v) (o:=(atKey xs k).map (·.2)) (by rw[l];show rel.val k);let⟨p,hp,cH⟩:=Ty.mp hw;show wpAny_getItem_heap (_x hu) (qg I.aA eb) dd hp ?_;rw[cH];show h w' _ (I.tok _) rw'
def UW{Q:Value->Shared->Prop}(hu:A.units+1 < cLine)(I:Inv X π σ H s)(g:dN H a y o)(ry:RelV y u)(h:∀ s',Inv X π σ H s'->Q (.bool o.isSome) s') :
  wpAny (model X.prog X.w) A (compareOp .In u (-a)) Q E s:=by
 rcases g with ⟨kvs,k,e,ey,l⟩ | ⟨kvs,k,b,e,ey,eb,l⟩
 ·subst ey;let⟨z,hd,vs,rel,dd⟩:=ou I.aA e;show wpAny_in_of (pY ry) hd dd.mapOf ?_;rw[<- (rel.val k).sM,<- l];show h _ (I.tok _)
 ·subst ey;cases (show u=Value.ref b from ry);let⟨z,hd,xs,rel,dd⟩:=oN I.aA e;show wpAny_in_heap (_x hu) (qg I.aA eb) hd dd ?_;have q:=(rel.val k).sM;rw[Option.isSome_map]at q;rw[<- q,<- l];show h _ (I.tok _)
def Yh{Q:Value->Shared->Prop}(hu:A.units+1 < cLine)(I:Inv X π σ H s)(g:dN H a y o)(ry:RelV y u)(h:∀ s',Inv X π σ H s'->Q (.bool (Bool.not o.isSome)) s') :
  wpAny (model X.prog X.w) A (compareOp .NotIn u (-a)) Q E s:=by
 rcases g with ⟨kvs,k,e,ey,l⟩ | ⟨kvs,k,b,e,ey,eb,l⟩
 ·subst ey;let⟨z,hd,vs,rel,dd⟩:=ou I.aA e;show wpAny_notIn_of (pY ry) hd dd.mapOf ?_;rw[<- (rel.val k).sM,<- l];show h _ (I.tok _)
 ·subst ey;cases (show u=Value.ref b from ry);let⟨z,hd,xs,rel,dd⟩:=oN I.aA e;show wpAny_notIn_heap (_x hu) (qg I.aA eb) hd dd ?_;have q:=(rel.val k).sM;rw[Option.isSome_map]at q;rw[<- q,<- l];show h _ (I.tok _)
def Gw{h':Heap}{t':Nat}{ob:HO}(I:Inv X π σ H s)(mu:qP (H a))(hs:Heap.SameBut a s.heap h')(he:∃ q,h'.get? a=!q)(new:cg X.prog X.w (upd H a ob) h' a ob) :
  Inv X π σ (upd H a ob) { s with heap:=h',toks:=t' } :=
 I.write (x:=a) (e:=a) mu (.inl rfl) (fun b q hb z=>(hs.2 b hb).trans z) he new
def Y5{P:Program}{w:World}{H':Hp}{h':Heap}{kvs:List (Key×V)}{vs:List (Key×Value)}(z:kvs.length<=sizeLine)(hd:(a == sysModules)=false)(rel:KV kvs vs)(dd:h'.DictOf (dI P w) a vs) :
  cg P w H' h' a (.dK kvs):=#[z,hd,vs,rel,dd]
def Xc{H':Hp}{Q:Unit->Shared->Prop}(hu:A.units+1 < cLine)(I:Inv X π σ H s)(g:hV H a y v H')(ry:RelV y u)(rv:RelV v r)(h:∀ s',Inv X π σ H' s'->Q .unit s') :
  wpAny (model X.prog X.w) A (setItem (-a) u r) Q E s:=by
 rcases g with ⟨kvs,k,e,ey,l,eH⟩ | ⟨kvs,k,b,e,ey,eb,l,eH⟩
 ·subst ey eH;let⟨z,hd,vs,rel,dd⟩:=Vq I.aA e;have hz:vs.length<=sizeLine:=by rw[<- rel.length];show z
  have hl:(putK kvs k v).length<=sizeLine:=by have:=Jo kvs k v;omega
  show wpAny_setItem_pairs (hsz:=hz) (pY ry) dd fun h' dd' hs=>h _ ?_;have he:∃ q,h'.get? a=!q:=let ⟨q,_,_,hq,_⟩:=dd';#[q,hq]
  show Gw I (by rw[e];show True.intro) hs he (Y5 hl hd (rel.put k rv) dd')
 ·subst ey eH;cases (show u=Value.ref b from ry);let⟨z,hd,xs,rel,dd⟩:=Pj I.aA e;have hz:xs.length<=sizeLine:=by rw[<- Paired.length rel];show z
  have hl:(putK kvs k v).length<=sizeLine:=by have:=Jo kvs k v;omega
  show wpAny_setItem_heap (hsz:=hz) (_x hu) (qg I.aA eb) dd fun h' dd' hs=>h _ ?_;let⟨q,es,ep,hq,h2,h3,h4,_,h5⟩:=dd';show Gw I (by rw[e];show True.intro) hs #[q,hq] #[hl,hd,_,(rel.put k eb rv).keeps fun c ys ec=>?_,q,es,ep,hq,h2,h3,h4,h5];rw[ah (Qg ec e (fun z=>nomatch z))];show ec
end
section
variable {X:Cx}{π:List (Addr×Obj)}{σ:St}{H:Hp}{s:Shared}{a:Addr}{kvs:List (Key×V)}{k:Key}{u:Value}{A:Around}{E:Value->Shared->Prop}
end
def  BJ(i:Expr):Prop:=∀ ov iv,subscripted i false ov iv=operate [ov,iv] (getItem ov iv)
def UC{prog:Program}{w:World}{A:Around}{E:Value->Shared->Prop}{s:Shared}{env:Env}{value slice:Expr}{pos:Pos}{T id:String}{Q:Value->Shared->Prop}(hl:typeLookup (.type T) "__getitem__" = pure (!.builtin id))(hs:BJ slice)(h:wpAny (model prog w) A (eval value env) (fun o s₁=>wpAny (model prog w) A (eval slice env) (fun i s₂=>s₂.TypeIs o T/\wpAny (model prog w) A (getItem o i) Q E s₂) E s₁) E s) :
  wpAny (model prog w) A (eval (.Subscript value slice pos) env) Q E s:=by
 show Subscript_ (Re h (fun o s₁ h₁=>Re h₁ (fun i s₂ h₂=>?_) fun _ _ x=>x) fun _ _ x=>x);let⟨hT,h₂⟩:=h₂;unfold subscriptTail;show jp ?_;rw[getitemInPython_of_ne hT.not_modules];show jp (wpAny_specialOf hT hl ?_);have fin:wpAny (model prog w) A (subscripted slice false o i) (fun r s₃=>wpAny (model prog w) A (letTemporaryGo value o r >>= fun _=>pure r) Q E s₃) E s₂:=by
  rw[hs o i];show wpAny_operating (Re h₂ (fun r s₃ h₃=>jp (wpAny_letTemporaryGo (ul h₃))) fun _ _ x=>x)
 first
  | show ul (jp fin)
  | show jp (ul (jp fin))
  | show jp fin
def Vp{X:Cx}{π:List (Addr×Obj)}{σ:St}{H:Hp}{s:Shared}{a:Addr}{y:V}{o:Option V}(I:Inv X π σ H s)(g:dN H a y o):s.TypeIs (-a) "dict" := by
 rcases g with ⟨kvs,k,e,_,_⟩ | ⟨kvs,k,b,e,_,_,_⟩
 ·let⟨_,_,vs,_,dd⟩:=ou I.aA e;show dd.typeIs
 ·let⟨_,_,xs,_,dd⟩:=oN I.aA e;show dd.typeIs
def  A0(td ty:TE):TE:=fun σ H Q=>td σ H fun x H1=>ty σ H1 fun y H2=>∃ a v,x=-a/\dN H2 a y (!v)/\Q v H2
def  DP(ty td:TE):TE:=fun σ H Q=>ty σ H fun y H1=>td σ H1 fun x H2=>∃ a o,x=-a/\dN H2 a y o/\Q (.bl o.isSome) H2
def  DQ(ty td:TE):TE:=fun σ H Q=>ty σ H fun y H1=>td σ H1 fun x H2=>∃ a o,x=-a/\dN H2 a y o/\Q (.bl (Bool.not o.isSome)) H2
def  Ef(td ty tv:TE):TS:=fun D σ H=>tv σ H fun v H1=>td σ H1 fun x H2=>ty σ H2 fun y H3=>∃ a H4,x=-a/\hV H3 a y v H4/\D.nx σ H4
section
variable {X:Cx}{o i e value:Expr}{pos pos' ko:Pos}{td ty tv:TE}
def Ry(hu:X.A.units+1 < cLine)(ho:PE X o td)(hi:PE X i ty)(hs:BJ i):PE X (.Subscript o i pos) (A0 td ty):=by
 intro π s σ H Q I h;show UC PySem.F.slot_dict_getitem.lookup hs (aE (ho π s σ H _ I h) fun u s1 #[x,H1,I1,rx,q1]=>aE (hi π s1 σ H1 _ I1 q1) fun iv s2 #[y,H2,I2,ry,a,v,ex,g,q2]=>?_);subst ex;obtain rfl:u=Value.ref a:=rx;show#[Vp I2 g,Yw hu I2 g ry fun w' s3 I3 rw'=>#[v,H2,I3,rw',q2]]
def XE(hu:X.A.units+1 < cLine)(hi:PE X i ty)(ho:PE X o td):PC X .In i o (DP ty td):=by
 intro π s σ H Q I h;show aE (hi π s σ H _ I h) fun iv s1 #[y,H1,I1,ry,q1]=>aE (ho π s1 σ H1 _ I1 q1) fun u s2 #[x,H2,I2,rx,a,ov,ex,g,q2]=>?_;subst ex;obtain rfl:u=Value.ref a:=rx;show UW hu I2 g ry fun s3 I3=>#[.bl ov.isSome,H2,I3,rfl,q2]
def aap(hu:X.A.units+1 < cLine)(hi:PE X i ty)(ho:PE X o td):PC X .NotIn i o (DQ ty td):=by
 intro π s σ H Q I h;show aE (hi π s σ H _ I h) fun iv s1 #[y,H1,I1,ry,q1]=>aE (ho π s1 σ H1 _ I1 q1) fun u s2 #[x,H2,I2,rx,a,ov,ex,g,q2]=>?_;subst ex;obtain rfl:u=Value.ref a:=rx;show Yh hu I2 g ry fun s3 I3=>#[.bl (Bool.not ov.isSome),H2,I3,rfl,q2]
def OT(hu:X.A.units+1 < cLine)(ho:PE X o td)(hi:PE X i ty)(hv:PE X value tv)(hs:swapsWith value (!.Subscript o i pos') pos.line X.env=pure false) :
  PS X (.Assign [.Subscript o i pos'] value pos) (Ef td ty tv):=by
 intro π s σ H D I h;show wpAny_Assign_Subscript (aE (hv π s σ H _ I h) fun r s1 #[v,H1,I1,rv,q1]=>aE (ho π s1 σ H1 _ I1 q1) fun u s2 #[x,H2,I2,rx,q2]=>aE (hi π s2 σ H2 _ I2 q2) fun iv s3 #[y,H3,I3,ry,a,H4,ex,g,q3]=>?_) hs;subst ex;obtain rfl:u=Value.ref a:=rx;show Xc hu I3 g ry rv fun s4 I4=>#[σ,H4,I4,q3]
end
def QQ{P:Program}{w:World}{H:Hp}(h:Heap)(hb:sysModules < h.objs.size):cg P w H (h.push { cls:=.type "dict",data:=.dict (List.toArray []) }) h.objs.size (.dK []) :=
 #[wS _,FS.mpr (ut (zn hb)),[],.nil,Heap.DictOf.new h]
def Tt{P:Program}{w:World}{H:Hp}(h:Heap)(hb:sysModules < h.objs.size):cg P w H (h.push { cls:=.type "dict",data:=.dict (List.toArray []) }) h.objs.size (.dT []) :=
 #[wS _,FS.mpr (ut (zn hb)),[],.nil,_,(List.toArray []),0,wl _ rfl,#[rfl,rfl,rfl],rfl,rfl,Jal]
def  yi:TE:=fun _ H Q=>∀ p,H p=none->Q (-p) (upd H p (.dK []))
def  AX:TE:=fun _ H Q=>∀ p,H p=none->Q (-p) (upd H p (.dT []))
section
variable {X:Cx}{pos:Pos}
def Wn:PE X (.Dict [] [] pos) yi:=fun π s σ H Q I h =>
 wpAny_Dict_empty #[-s.heap.objs.size,_,I.laid (a:=s.heap.objs.size) (o:=.dK []) (t':=s.toks) (fun _ _ q=>li _ q) (lm _) (QQ s.heap I.big),rfl,h _ (I.aA.fresh (lm _))]
def Zz:PE X (.Dict [] [] pos) AX:=fun π s σ H Q I h =>
 wpAny_Dict_empty #[-s.heap.objs.size,_,I.laid (a:=s.heap.objs.size) (o:=.dT []) (t':=s.toks) (fun _ _ q=>li _ q) (lm _) (Tt s.heap I.big),rfl,h _ (I.aA.fresh (lm _))]
end
def  LK:List (TE×TE)->St->Hp->(List (V×V)->Hp->Prop)->Prop
 | [],_,H,Q=>Q [] H
 | (tk,tv)::r,σ,H,Q=>tk σ H fun x H1=>tv σ H1 fun y H2=>LK r σ H2 fun ps H3=>Q ((x,y)::ps) H3
abbrev VV:List (V×V)->List (Value×Value)->Prop:=Paired fun p q=>RelV p.1 q.1/\RelV p.2 q.2
def  Vz(X:Cx)(pos:Pos)(keys:List (Option Expr))(values:List Expr)(trs:List (TE×TE)):Prop :=
 ∀ (π:List (Addr×Obj)) (s:Shared) (σ:St) (H:Hp) (Q:List (V×V)->Hp->Prop),Inv X π σ H s->LK trs σ H Q ->
  wpAny (model X.prog X.w) X.A (evalPairs (pairTrees keys values X.env pos)) (fun vs s'=>∃ ps H',Inv X π σ H' s'/\VV ps vs/\Q ps H') X.xe s
structure M1(X:Cx)(o:Expr)(m:Str)(apos:Pos)(e:Expr)(bc:Pos):Prop where
 base:attributeBase o m X.env (eval o X.env)=eval o X.env
 Jr:((backTo bc (starEach [e] X.env)).all (fun x=>Bool.not x.1) && (backToKw bc (keywordEach [] X.env)).all (fun x=>x.1.isSome)
  && decide (([e]:List Expr).length+([]:List Keyword).length+(if ([]:List Keyword).isEmpty then 0 else 1) < 30))=true
 line:(apos.endLine == bc.line)=true
 trees:backTo bc (starEach [e] X.env)=[(false,eval e X.env)]
structure M2(X:Cx)(o:Expr)(m:Str)(apos:Pos)(e f:Expr)(bc:Pos):Prop where
 base:attributeBase o m X.env (eval o X.env)=eval o X.env
 Jr:((backTo bc (starEach [e,f] X.env)).all (fun x=>Bool.not x.1) && (backToKw bc (keywordEach [] X.env)).all (fun x=>x.1.isSome)
  && decide (([e,f]:List Expr).length+([]:List Keyword).length+(if ([]:List Keyword).isEmpty then 0 else 1) < 30))=true
 line:(apos.endLine == bc.line)=true
 trees:backTo bc (starEach [e,f] X.env)=[(false,eval e X.env),(false,eval f X.env)]
def  ym(H:Hp)(a:Addr):Prop:=(∃ kvs,Rd H a (.dK kvs))\/∃ kvs,Rd H a (.dT kvs)
def RG{X:Cx}{π:List (Addr×Obj)}{σ:St}{H:Hp}{s:Shared}{a:Addr}(I:Inv X π σ H s)(d:ym H a) :
  s.TypeIs (-a) "dict" /\ (∀ b,Value.ref a=-b->∃ ob,s.heap.get? b=!ob/\ob.dict=none)/\(a == sysModules)=false:=by
 rcases d with ⟨kvs,e⟩ | ⟨kvs,e⟩
 ·let⟨_,hd,vs,_,dd⟩:=ou I.aA e;show#[dd.typeIs,fun b q=>?_,hd];cases q;let⟨ob,_,_,h1,h2,_⟩:=dd;show#[ob,h1,h2.2.1]
 ·let⟨_,hd,xs,_,dd⟩:=oN I.aA e;show#[dd.typeIs,fun b q=>?_,hd];cases q;let⟨ob,_,_,h1,h2,_⟩:=dd;show#[ob,h1,h2.2.1]
section
variable {X:Cx}{π:List (Addr×Obj)}{σ:St}{H:Hp}{s:Shared}{a:Addr}{y d:V}{u r:Value}{o:Option V}{A:Around}{E:Value->Shared->Prop}
def YN{Q:Value->Shared->Prop}(hu:A.units+1 < cLine)(I:Inv X π σ H s)(g:dN H a y o)(ry:RelV y u)(h:∀ w' s',Inv X π σ H s'->RelV (o.getD .ao) w'->Q w' s') :
  wpAny (model X.prog X.w) A (call (.builtin "dict.get") [-a,u]) Q E s:=by
 rcases g with ⟨kvs,k,e,ey,l⟩ | ⟨kvs,k,b,e,ey,eb,l⟩
 ·subst ey;let⟨z,hd,vs,rel,dd⟩:=ou I.aA e;show call_meetsIn _7 dd.typeIs PySem.F.entry_dict_get (PySem.F.args_dict_get_2 _ _) (meets_dict_get (dI X.prog X.w) a (pY ry) hd) #[_,dd.mapOf,h _ _ (I.tok _) ?_];rw[l];show(rel.val k).getD rfl
 ·subst ey;cases (show u=Value.ref b from ry);let⟨z,hd,xs,rel,dd⟩:=oN I.aA e;show call_meetsIn _7 dd.typeIs PySem.F.entry_dict_get (PySem.F.args_dict_get_2 _ _) (meetsH_dict_get (tupleKind (dI X.prog X.w)) a b hd) #[_x hu,k,xs,qg I.aA eb,dd,h _ _ (I.tok _) ?_];rw[l];show(rel.val k).getD rfl
end
def  DD(td ty:TE):TE:=fun σ H Q=>td σ H fun x H1=>∃ a,x=-a/\ym H1 a/\ty σ H1 fun y H2=>∃ o,dN H2 a y o/\Q (o.getD .ao) H2
def  SE(td ty:TE):TE:=fun σ H Q=>td σ H fun x H1=>∃ a,x=-a/\ym H1 a/\ty σ H1 fun y H2=>∃ kvs k v,H2 a=!.dK kvs/\y=kV k/\aG kvs k=!v/\Q v (upd H2 a (.dK (K5 kvs k)))
section
variable {X:Cx}{o e f:Expr}{apos bc:Pos}{td ty tx:TE}
def XW(hu:X.A.units+1 < cLine)(ho:PE X o td)(he:PE X e ty)(m:M1 X o "get" apos e bc):PE X (.Call (.Attribute o "get" apos) [e] [] bc) (DD td ty):=by
 intro π s σ H Q I h;show wpAny_Call_method m.base m.Jr m.line PySem.F.plainAttrs_dict _7 PySem.F.type_dict_get (aE (ho π s σ H _ I h) fun u s1 #[x,H1,I1,rx,a,ex,d,q1]=>?_);subst ex;obtain rfl:u=Value.ref a:=rx;let⟨t1,t2,_⟩:=RG I1 d;show#[t1,t2,?_];rw[m.trees];show TD rfl (_e (_v (aE (he π s1 σ H1 _ I1 q1) fun iv s2 #[y,H2,I2,ry,ov,g,q2]=>_G ?_)));show YN hu I2 g ry fun w' s3 I3 rw'=>#[_,H2,I3,rw',q2]
end
section
variable {X:Cx}{π:List (Addr×Obj)}{σ:St}{H:Hp}{s:Shared}{a:Addr}{kvs:List (Key×V)}{A:Around}{E:Value->Shared->Prop}
end
section
variable {X:Cx}{π:List (Addr×Obj)}{σ:St}{H:Hp}{s:Shared}{a:Addr}{y:V}{u:Value}{A:Around}{E:Value->Shared->Prop}
end
end L2
namespace Att
open PySem PySem.W PySem.Calls PyProof.Rows
def PJ{P:Params}{h:Heap}:∀ (ns:List Int) (vs:List Value),WellAll P h vs (ns.map WData.int)->IntsAre vs ns:=by
 intro ns
 induction ns with
 | nil =>
  intro vs w;rw[List.map_nil]at w;cases w;show .nil
 | cons n ns ih =>
  intro vs w;rw[List.map_cons]at w;cases w with
  | cons a b =>
   cases a;show .cons _ _ (ih _ b)
def Ur{l:OpenLaw}{n:Nat}(hn:l.most=!n){P:Params}{h:Heap}{args:List WData}{vals:List Value}(yP:l.row.toRowW.claim.pre args=true)(lZ:WellAll P h vals args) :
  ∃ a vs ns,vals=[Value.ref a]/\args=[WData.list (ns.map WData.int)]/\h.get? a=!{ cls:=.type "list",data:=.seq vs.toArray }/\IntsAre vs ns/\ns.length<=n:=by
 have me:WShape.hasAll [] args [.list .int]=true:=(pre_splitW yP).1;have hc:l.pre.holds [] { args:=args }=true:=(pre_splitW yP).2;let⟨d,r,rfl,h1,h2⟩:=hasAllW_cons me;obtain rfl:=hasAllW_nil h2;let⟨xs,rfl,h3⟩:=hasW_list h1;let⟨ns,rfl⟩:=items_int h3;have hlen:ns.length<=n:=by
  unfold OpenLaw.pre at hc;have h4:(WTm.not (.lt (.lit (.int (n:Int))) (.len (.arg 0)))).holds [] { args:=[.list (ns.map .int)] }=true:=by
   have h4:=(holds_andW hc).1;rw[hn]at h4;show h4
  have h5:=condW_of h4 (w_not (w_lt w_lit (w_len_list (w_arg rfl))));rw[List.length_map]at h5;show Nat.le_of_not_lt fun q=>?_;have q':(n:Int) < ((ns.length:Nat):Int):=∅
  first
   | (rw[decide_eq_true q']at h5;show absurd h5 ⋯)
   | (simp at h5;omega)
 cases lZ with
 | cons w1 w2 =>
  cases w2;cases w1 with
  | list ho ju=>show#[_,_,ns,rfl,rfl,ho,PJ ns _ ju,hlen]
def abh(l:OpenLaw)(args:List WData):l.row.toRowW.claim.post args (.bool true) args=true :=
 postW_of (r:=l.row.toRowW) (X:=(true == true))
  (show WShape.has [] (.bool true) .bool=true by first | rfl | decide | simp[WShape.has,WShape.arms,WShape.armsAll])
  (show(WTm.eq .res (.lit (.bool true))).value [] { args:=args,res:=!.bool true,after:=args }=some (.bool (true == true)) from w_eq_bool (w_res rfl) w_lit) rfl
def Qh{l:OpenLaw}{n:Nat}{q:Program}{loose:List Str}{XP:(Str->Option Value)->Heap->Prop}{YP:World->Heap->Prop}{d:DefRec}(hn:l.most=!n)(vp:d.params.defaults=[])(call:∀ (w:World) (s₀ s₁:Shared) (mg mb:Str->Option Value) (fa:Addr) (o:Obj) (pm cd doc:Value) (a:Addr) (vs:List Value) (ns:List Int),
   Ground q loose [] XP w s₀ mg mb s₁.heap->YP w s₁.heap ->
   s₁.heap.get? fa=!o->o.data=.func (docDef d.name d.params d.body d.scope pm cd doc)->s₁.heap.CodeRec cd d.name->mg d.name=!-fa ->
   s₁.heap.get? a=!{ cls:=.type "list",data:=.seq vs.toArray }->IntsAre vs ns->ns.length<=n->s₁.gens=(List.toArray []) ->
   codeAny (model l.prog w) callerA (.call (-fa) #[[-a],[]]) (fun r s'=>r=.ok (.ret (.bool true))/\OldK s₁.heap s'.heap/\s'.os=s₁.os/\AllBare s'.gens) s₁) :
  WalkO q loose XP YP l.row.toRowW d [] (fun f vs=>PySem.call f vs):=by
 intro w s₀ s₁ mg mb G Y fa o pm cd doc dV kV ho hd dD hD hmg hg args vals as yP hlay gP lZ hlo;obtain rfl:dV=.none:=Dflts.none hD vp;obtain rfl:kV=.none:=Dflts.noKw hD;let⟨a,vs,ns,rfl,rfl,wg,hints,hlen⟩:=Ur hn yP lZ;show enter_call (codeAny_mono (call w s₀ s₁ mg mb fa o pm cd doc a vs ns G Y ho (fd_plain hd) dD hmg wg hints hlen hg) fun r s' hq=>?_);let⟨rfl,h2,h3,h4⟩:=hq;show#[.inl #[.bool true,.bool true,[],rfl,fun _=>rfl,.bool true,abh l _,fun _=>#[List.Pairwise.nil,fun _ hm=>(nomatch hm)]],h2,h3,h4]
section
variable {prog:Program}{w:World}{A:Around}{E:Value->Shared->Prop}{s:Shared}{K:Frag}
end
end Att
namespace L2
open PySem PySem.Spec PyProof.Rows
def JR:∀ {vs:List Value}{ns:List Int},IntsAre vs ns->Vals (ns.map V.int) vs
 | _,_,.nil=>.nil
 | _,_,.cons n t h=>.cons #[t,rfl] (JR h)
def  tI(H:Hp):Prop:=∀ b,H b=none\/∃ o xs,H b=!.bX o (.lst xs)
def WC{P:Program}{w:World}{K:ν}{mg mb:Str->Option Value}{CX:eK}{k:Nat}{fa a:Addr}{fd:FuncData}{x:Str}{sp:Sp}{s₁:Shared}{vs:List Value}{ns:List Int}(KX:K.In s₁.heap)(eT:s₁.heap.Ns mainGlobals mg)(hb:s₁.heap.Ns builtinsNs mb)(hbb:∀ x:Str,x ≠ "__name__" -> mb x=bootBuiltins x)(hlim:s₁.heap.NoLimit)(hg:s₁.gens=(List.toArray []))(ha:s₁.heap.get? a=!{ cls:=.type "list",data:=.seq vs.toArray })(hi:IntsAre vs ns)(hl:ns.length<=sizeLine)(hr:bL k callerA)(F:∀ base:Heap,K.In base->base.Ns mainGlobals mg->aC P w K mg base CX k fa fd [x] sp)(hbind:∀ (s:Shared) (u:Value),BindsTo s fd #[[u],[]] [(x,u)])(gQ:∀ H:Hp,tI H->aB K H a (ns.map V.int)->sp [-a] H (fun v _=>v=.bl true) fun _ _ _=>False)(EW:∀ H e s',CX [] H s₁ (fun _ _ _=>False) e s'->False) :
  codeAny (model P w) callerA (.call (-fa) #[[-a],[]]) (fun r s'=>r=.ok (.ret (.bool true))/\OldK s₁.heap s'.heap/\s'.os=s₁.os/\AllBare s'.gens) s₁:=by
 have rv:=JR hi;have lenV:=hi.length
 -- from an abstract heap in which nothing but iC script may be tracked
 have core:∀ H:Hp,tI H->aB K H a (ns.map V.int)->cy P w H s₁.heap->(∀ b,H b≠none->b=a)->(H a≠none->K.lookup a=none) ->
   codeAny (model P w) callerA (.call (-fa) #[[-a],[]]) (fun r s'=>r=.ok (.ret (.bool true))/\OldK s₁.heap s'.heap/\s'.os=s₁.os/\AllBare s'.gens) s₁:=by
  intro H hO hS aA hA hK;have Nh:∀ {b:Addr}{o:Obj},s₁.heap.get? b=!o->H b=none->(lJ s₁.heap H).get? b=!o:=fun e n=>Yl e n;have vq:∀ {b:Addr}{o:Obj}{es:Array DictEntry}{ep:Nat},s₁.heap.get? b=!o->o.data=.dict es ep->H b=none:=fun {b o es ep} e d=>by
   cases q:H b with
   | none=>rfl
   | some u =>
    have e':b=a:=hA b (by rw[q];simp);subst e';rw[ha]at e;cases e;have d':Data.seq vs.toArray _=Data.dict es ep:=d;cases d'
  have zj:∀ {b:Addr}{m:Str->Option Value},s₁.heap.Ns b m->(lJ s₁.heap H).Ns b m:=fun {b m} ⟨o,es,ep,e,d,r⟩=>#[o,es,ep,Nh e (vq e d),d,r];have OE:K.In (lJ s₁.heap H):=fun b o e=>Nh (KX b o e) (by
   cases q:H b with
   | none=>rfl
   | some u =>
    have e':b=a:=hA b (by rw[q];simp);subst e';rw[hK (by rw[q];simp)]at e;cases e)
  have hM:Mod K mg (lJ s₁.heap H):=#[OE,zj eT,#[mb,zj hb,hbb],let ⟨mc,h1,h2⟩:=hlim;#[mc,zj h1,h2]];have e0:mD P w K mg (lJ s₁.heap H) callerA [] s₁ H:=#[rfl,hM,fun b o e=>UP e,_u (TC _ _),trivial,fun b hb=>absurd (show b∈([]:List Addr) from hb) (),aA,.of_eq hg];show _1 ((F _ OE (zj eT)).run callerA [] s₁ H #[[-a],[]] [-a] [-a] _ _ hr e0 (hbind s₁ (-a)) (.cons rfl .nil) (gQ H hO hS)) fun r s' h=>?_;cases r with
  | error e=>show(EW H e s' h).elim
  | ok fl =>
   cases fl with
   | next=>show False.elim h
   | brk=>show False.elim h
   | cont=>show False.elim h
   | ret u =>
    let⟨v,H',os,bare,un,hok',r',q⟩:=h;have q':v=.bl true:=q;subst q';obtain rfl:u=Value.bool true:=r';show#[rfl,OldK.of_keep fun b o e=>?_,os,bare];cases q:H b with
    | none=>show un.keep b o e q (by intro z;show absurd (show b∈([]:List Addr) from z) ()) ()
    | some u =>
     rcases hO b with z | ⟨ob,xs,z⟩
     ·rw[q]at z;cases z
     ·have z2:=un.gv b ob _ z;let⟨e1,_⟩:=aA b _ z;let⟨e2,_⟩:=hok' b _ z2;rw[e]at e1;cases e1;show e2
 cases hk:K.lookup a with
 | some o =>
  -- iC script is one of iC module's own objects
  have e:=KX a o hk;rw[ha]at e;cases e;show core (fun _=>none) (fun _=>.inl rfl) (.inr #[_,vs.toArray,_,hk,rfl,rfl,rfl,by rw[sB,lenV];show hl,by simpa using rv]) (fun b u z=>by have z':(none:Option HO)=!u:=z;cases z') (fun b z=>absurd rfl z) fun z=>absurd rfl z
 | none =>
  show core (fun b=>if b=a then !.bX { cls:=.type "list",data:=.seq vs.toArray } (.lst (ns.map V.int)) else none) (fun b=>?_) (.inl (.inr #[{ cls:=.type "list",data:=.seq vs.toArray },At rfl])) (fun b u z=>?_) (fun b z=>?_) fun _=>hk
  ·by_cases hb:b=a
   ·show .inr #[_,_,At hb]
   ·show .inl (wT hb)
  ·by_cases hb:b=a
   ·have z':=(At hb).symm.trans z;cases z';subst hb;show#[ha,by rw[pi];show hl,vs,_,rv,ha]
   ·have z':=(wT hb).symm.trans z;cases z'
  ·by_cases hb:b=a
   ·show hb
   ·show absurd (wT hb) z
abbrev KOf{K:ν}{h:Heap}(_:K.In h):ν:=K
def Wa{l:W.OpenLaw}{n k:Nat}{q:Program}{loose:List Str}{XP:(Str->Option Value)->Heap->Prop}{YP:World->Heap->Prop}{d:DefRec}{K:Params->ν}{CX:World->eK}{sp:World->Sp}{x:Str}(hn:l.most=!n)(gW:n<=sizeLine)(vp:d.params.defaults=[])(hr:bL k callerA)(hY:∀ (w:World) (h:Heap),YP w h->(K w.params).In h)(F:∀ (w:World) (mg:Str->Option Value) (fa:Addr) (h:Heap),(K w.params).In h->h.Ns mainGlobals mg->mg d.name=!-fa ->
   ∃ fd:FuncData,(∀ (s:Shared) (u:Value),BindsTo s fd #[[u],[]] [(x,u)]) /\
    ∀ base:Heap,(K w.params).In base->base.Ns mainGlobals mg->aC l.prog w (K w.params) mg base (CX w) k fa fd [x] (sp w))(gQ:∀ (w:World) (H:Hp) (a:Addr) (ns:List Int),ns.length<=n->tI H->aB (K w.params) H a (ns.map V.int)->sp w [-a] H (fun v _=>v=.bl true) fun _ _ _=>False)(EW:∀ (w:World) (H:Hp) (s:Shared) (e:Value) (s':Shared),CX w [] H s (fun _ _ _=>False) e s'->False) :
  W.WalkO q loose XP YP l.row.toRowW d [] (fun f vs=>PySem.call f vs):=by
 show Att.Qh hn vp fun w s₀ s₁ mg mb fa o pm cd doc a vs ns G Y ho hd dD hmg wg hints hlen hg=>?_;have KX:=hY w _ Y;let⟨fd,hb,hF⟩:=F w mg fa _ KX G.T.g hmg;show WC KX G.T.g G.T.b G.T.builtins G.T.nolimit hg wg hints (tz hlen gW) hr hF hb (fun H hO hS=>gQ w H a ns hlen hO hS) fun H e s'=>EW w H s₁ e s'
def  inClass(s:Stmt)(j:Nat):Stmt:=match s with
 | .ClassDef _ _ _ body _ _ _ _ _ _ _=>body.getD j (.Pass #[0,0,0,0])
 | _=>.Pass #[0,0,0,0]
def  fm(s:Stmt):Arguments:=match s with
 | .FunctionDef _ a _ _ _ _ _ _ _ _=>a
 | _=>{ posonlyargs:=[],args:=[],vararg:=none,kwonlyargs:=[],kw_defaults:=[],kwarg:=none,defaults:=[] }
def  aW(s:Stmt):List Stmt:=match s with
 | .FunctionDef _ _ b _ _ _ _ _ _ _=>b
 | _=>[]
def  aD(s:Stmt):Scope:=match s with
 | .FunctionDef _ _ _ _ _ _ sc _ _ _=>sc
 | _=>{ kind:=.function,names:=[],isGenerator:=false,isCoroutine:=false }
abbrev aM:eK:=fun _ _ _ _ _ _=>False
abbrev E0:XK:=fun _ _ _=>False
def aw{X:Cx}:Passes aM X E0:=fun _ _ _ _ _ _ _ h=>h.elim
structure jX(K:ν)(x qual:Str)(st:Stmt)(f:Addr)(fd:FuncData):Prop where
 ex:∃ (oc:Value) (od:Option Addr) (kV doc pm:Value) (an:Option Addr) (ax ct:Value) (ei:Array (Option Value)),
  fd=W.fnOf x qual (fm st) (aW st) (aD st) .none kV doc pm an ax ct/\K.lookup f=!#[oc,od,.func fd,ei]/\W.codeIn K ax qual=true
 kp:W.keepIn K (-f)=true
section
variable {P:Program}{w:World}{K:ν}{mg:Str->Option Value}{base:Heap}
def jX.ok{x qual:Str}{st:Stmt}{f:Addr}{fd:FuncData}{N ps:List Str}{k:Nat}{sp:Sp}(F:jX K x qual st f fd)(S:aF N ps (aD st))(len:∀ vs H Q E,sp vs H Q E->vs.length=ps.length)(Fb:∀ (ax:Value) (A:Around) (outer:List Env) (s:Shared) (H:Hp) (vs:List V) (Q:VK) (E:XK),bL k (A.deeper (envOfC qual (aD st) s.heap.objs.size f ax))->sp vs H Q E ->
   ∃ t,eE (ij aM P w K mg base N qual (aD st) f ax A outer s H E).qH (aW st) t/\t { nx:=fun _ H'=>Q .ao H',rt:=Q } (start N vs) H):aC P w K mg base aM (k+1) f fd ps sp:=by
 let⟨oc,od,kV,doc,pm,an,ax,ct,ei,rfl,lk,dD⟩:=F.ex;show En lk dD S len fun A outer s H vs Q E hr gQ=>?_;let⟨t,h,q⟩:=Fb ax A outer s H vs Q E hr gQ;show#[t,h.qH,q]
def jX.binds{x qual:Str}{st:Stmt}{f:Addr}{fd:FuncData}{ps:List Str}(F:jX K x qual st f fd)(h:∀ (kV doc pm:Value) (an:Option Addr) (ax ct:Value) (us:List Value),us.length=ps.length->bindArgs (W.fnOf x qual (fm st) (aW st) (aD st) .none kV doc pm an ax ct) #[us,[]]=pure (ps.zip us)):Binds K fd ps []:=by
 let⟨oc,od,kV,doc,pm,an,ax,ct,ei,rfl,lk,dD⟩:=F.ex;show .all (h kV doc pm an ax ct)
def DW{x qual:Str}{st:Stmt}{f:Addr}{oc:Value}{od an:Option Addr}{ei:Array (Option Value)}{kV doc pm ax ct:Value}(l:K.lookup f=!#[oc,od,.func (W.fnOf x qual (fm st) (aW st) (aD st) .none kV doc pm an ax ct),ei])(c:W.codeIn K ax qual=true)(k:W.keepIn K (-f)=true):jX K x qual st f (W.fnOf x qual (fm st) (aW st) (aD st) .none kV doc pm an ax ct):=#[#[oc,od,kV,doc,pm,an,ax,ct,ei,rfl,l,c],k]
end
def eC{A:Around}{k:Nat}(hr:bL k A):A.units+1 < cLine:=SZ (Jag (by decide:1<=64) _) hr.units
def Ih{n:Nat}(h:n<=1000):n < sizeLine:=SZ h ⋯
section
variable {X:Cx}
def pv(i:Nat){x:Str}{pos:Pos}(hN:X.N[i]?=!x:=by rfl)(hv:tQ X.env.scope x:=by first | show Or.inl rfl | show Or.inr (Or.inl rfl) | show Or.inr (Or.inr rfl))(hd:(x == ("__debug__":Str))=false:=by decide)(dD:(x == ("__classdict__":Str))=false:=by decide):PE X (.Name x pos) (Ga i):=Iy hN hv hd dD
end
def bb{A B:Prop}(h:B):if false=true then A else B:=by
 rw[wT wP];show h
def bY{A B:Prop}(h:A):if true=true then A else B:=by
 rw[At rfl];show h
def oy{c A B:Prop}[Decidable c](h1:c->A)(h2:¬ c->B):if c then A else B:=by
 by_cases h:c
 ·rw[At h];show h1 h
 ·rw[wT h];show h2 h
def  ag(H H':Hp):Prop:=∀ b o,H b=!o->H' b=!o
def ag.refl(H:Hp):ag H H:=fun _ _ h=>h
def ag.trans{H H1 H2:Hp}(a:ag H H1)(b:ag H1 H2):ag H H2:=fun c o h=>b c o (a c o h)
def ag.free{H H':Hp}(e:ag H H'){l:Addr}(h:H' l=Option.none):H l=Option.none:=by
 cases q:H l with
 | none=>rfl
 | some o =>
  rw[e l o q]at h;cases h
def ag.seq{K:ν}{H H':Hp}{a:Addr}{xs:List V}(e:ag H H')(h:aB K H a xs):aB K H' a xs:=by
 rcases h with (h | ⟨o,h⟩) | h
 ·show .inl (.inl (e _ _ h))
 ·show .inl (.inr #[o,e _ _ h])
 ·show .inr h
section
variable {X:Cx}
end
section
variable {κ:Type}[DecidableEq κ]
end
end L2
namespace Tx
open PySem PySem.Builtin PySem.Builtin.Str PySem.StrLaws
def  S(l:List Nat):Str:=#[l.toArray]
def j9(l:List Nat):(S l).cps.toList=l:=by simp[S]
def ON(s:Str):S s.cps.toList=s:=by cases s;simp[S]
def c9(l:List Nat):(S l).length=l.length:=by simp[S,Str.length]
def ic{a b:List Nat}(h:S a=S b):a=b:=by
 have:=congrArg (fun s=>s.cps.toList) h
 simpa [j9] using this
def uB(a b:List Nat):S a++S b=S (a++b):=by
 apply Str.ext';rw[Str.cps_append];simp[S]
def lU(c:Nat):(S [c]).length=1:=by rw[c9];rfl
def subAt_one(x:List Nat)(c i:Nat)(h:i < x.length):subAt (S x) (S [c]) i=decide (x[i]?=!c):=by
 rw[subAt_eq,j9,j9,lU];rw[List.drop_eq_getElem_cons h,List.take_succ_cons,List.take_zero,List.getElem?_eq_getElem h];by_cases e:x[i]=c
 ·simp[e]
 ·simp[e]
def XI(x:List Nat)(c:Nat):(Bool.not (occurrences (S x) (S [c]) 0 (S x).length 1).isEmpty)=x.contains c:=by
 rw[Bool.eq_iff_iff,found_iff,lU,c9];constructor
 ·rintro⟨i,h1,h2⟩;rw[subAt_one x c i ∅]at h2;have h3:=of_decide_eq_true h2;show List.elem_iff.mpr (List.mem_of_getElem? h3)
 ·intro h;let⟨i,hi,e⟩:=List.getElem_of_mem (List.elem_iff.mp h);show#[i,∅,?_];rw[subAt_one x c i hi,List.getElem?_eq_getElem hi,e];simp
def  cut(c:Nat):List Nat->List (List Nat)
 | []=>[[]]
 | a::r=>if a=c then []::cut c r else match cut c r with
  | []=>[[a]]
  | h::t=>(a::h)::t
def T7(c:Nat):∀ l,cut c l≠[]
 | []=>by simp[cut]
 | a::r=>by
  unfold cut;split
  ·simp
  ·split <;> simp
def  c8(c:Nat):Nat->List Nat->List Nat
 | _,[]=>[]
 | k,a::r=>if a=c then k::c8 c (k+1) r else c8 c (k+1) r
def Js(c:Nat):∀ (l:List Nat) (k j:Nat),c8 c (k+j) l=(c8 c k l).map (· + j)
 | [],_,_=>rfl
 | a::r,k,j=>by
  unfold c8;have e:k+j+1=(k+1)+j:=∅
  rw[e,Js c r (k+1) j];split <;> simp
def zI(x:List Nat)(c limit:Nat):∀ (l:List Nat) (k:Nat) (acc:Array Nat) (free:Nat),x.drop k=l->free<=k->acc.size+l.length < limit->k<=x.length ->
  (forIn (List.range' k (x.length+1 - k)) (acc,free) (occBody (S x) (S [c]) x.length limit)).run.fst.toList=acc.toList++c8 c k l
 | [],k,acc,free,hd,hf,hl,hk=>by
  have zp:k=x.length:=by
   have:=congrArg List.length hd;simp at this;omega
  have e:x.length+1 - k=1:=∅
  have e1:List.range' k 1=[k]:=rfl;rw[e,e1,List.forIn_cons];unfold occBody;have hc:¬ (((((acc,free):Array Nat×Nat).fst.size < limit/\((acc,free):Array Nat×Nat).snd<=k)/\k+(S [c]).length<=x.length)/\subAt (S x) (S [c]) k=true):=by
   rw[lU];rintro⟨⟨_,h⟩,_⟩;omega
  rw[if_neg hc];simp[c8]
 | a::r,k,acc,free,hd,hf,hl,hk=>by
  have bO:k < x.length:=by
   have:=congrArg List.length hd;simp at this;omega
  have e:x.length+1 - k=(x.length+1 - (k+1))+1:=∅
  have hx:x[k]?=!a:=by
   have h1:(x.drop k)[0]?=!a:=by rw[hd];rfl
   rw[List.getElem?_drop]at h1
   simpa using h1
  have hr:x.drop (k+1)=r:=by
   rw[<- List.drop_drop,hd];rfl
  rw[e,List.range'_succ,List.forIn_cons];unfold occBody;simp only[List.length_cons]at hl;by_cases cW:a=c
  ·have hc:(((((acc,free):Array Nat×Nat).fst.size < limit/\((acc,free):Array Nat×Nat).snd<=k)/\k+(S [c]).length<=x.length)/\subAt (S x) (S [c]) k=true):=by
    rw[lU,subAt_one x c k bO,hx,cW];show#[#[#[?_,hf],∅],()];change acc.size < limit;omega
   rw[if_pos hc];have ih:=zI x c limit r (k+1) (acc.push k) (k+(S [c]).length) hr (by rw[lU];omega) (by simp;omega) ∅;show Eq.trans ih ?_;rw[show c8 c k (a::r)=k::c8 c (k+1) r from if_pos cW];simp
  ·have hc:¬ (((((acc,free):Array Nat×Nat).fst.size < limit/\((acc,free):Array Nat×Nat).snd<=k)/\k+(S [c]).length<=x.length)/\subAt (S x) (S [c]) k=true):=by
    rw[subAt_one x c k bO,hx];rintro⟨_,h⟩;show cW (Option.some.inj (of_decide_eq_true h))
   rw[if_neg hc];have ih:=zI x c limit r (k+1) acc free hr ∅ ∅ ∅;show Eq.trans ih ?_
   conv=>rhs;unfold c8
   rw[if_neg cW]
def yn(x:List Nat)(c:Nat):occurrences (S x) (S [c]) 0 (S x).length ((S x).length+1)=c8 c 0 x:=by
 rw[occ_eq,c9];have h:=zI x c (x.length+1) x 0 (List.toArray []) 0 rfl (Nat.le_refl _) () (Nat.zero_le _);rw[h];simp
def  pieces(l:List Nat)(ps:List Nat):List (List Nat):=((0::ps.map (· + 1)).zip (ps++[l.length])).map fun p=>(l.drop p.1).take (p.2 - p.1)
def qd(c:Nat):∀ l:List Nat,pieces l (c8 c 0 l)=cut c l
 | []=>rfl
 | a::r=>by
  have ih:=qd c r;have sh:c8 c (0+1) r=(c8 c 0 r).map (· + 1):=Js c r 0 1;have tail:∀ (A B:List Nat),((A.map (· + 1)).zip (B.map (· + 1))).map (fun p:Nat×Nat=>((a::r).drop p.1).take (p.2 - p.1))=(A.zip B).map (fun p:Nat×Nat=>(r.drop p.1).take (p.2 - p.1)):=fun A B=>by
   rw[List.zip_map,List.map_map];show List.map_congr_left fun p _=>?_;change((a::r).drop (p.1+1)).take (p.2+1 - (p.1+1))=_;rw[List.drop_succ_cons]
   congr 1
   omega
  unfold pieces at ih ⊢;unfold c8 cut;rw[sh];by_cases h:a=c
  ·rw[if_pos h,if_pos h];have e1:(0::(0::(c8 c 0 r).map (· + 1)).map (· + 1))=0::((0::(c8 c 0 r).map (· + 1)).map (· + 1)):=rfl;have e2:(0::(c8 c 0 r).map (· + 1))++[(a::r).length]=0::((c8 c 0 r++[r.length]).map (· + 1)):=()
   rw[e1,e2,List.zip_cons_cons,List.map_cons,tail,ih];simp
  ·rw[if_neg h,if_neg h];have e2:(c8 c 0 r).map (· + 1)++[(a::r).length]=(c8 c 0 r++[r.length]).map (· + 1):=()
   rw[e2];generalize hB:c8 c 0 r++[r.length]=B at ih;cases B with
   | nil=>simp at hB
   | cons b B' =>
    rw[List.zip_cons_cons,List.map_cons]at ih;rw[<- ih];rw[List.map_cons (l:=B'),List.zip_cons_cons,List.map_cons,tail];simp
def aam(x:List Nat)(i j:Nat):strSub (S x) i j=S ((x.drop i).take (j - i)):=by
 rw[<- ON (strSub (S x) i j),strSub_toList,j9]
def xH(x:List Nat)(ps:List Nat):partsBetween (S x) ps 1=(pieces x ps).map S:=by
 unfold partsBetween pieces;rw[List.map_map,c9];show List.map_congr_left fun p _=>?_;show aam x p.1 p.2
def Iw(c:Nat):∀ l:List Nat,c8 c 0 l=[]->cut c l=[l]
 | l,h=>by
  have:=qd c l;rw[h]at this;rw[<- this];simp[pieces]
def Bt(x:List Nat)(c:Nat)(hc:c < 256):Txt.split (S x) (S [c])=(cut c x).map S:=by
 unfold Txt.split;rw[yn,lU,xH,qd];have nop:∀ k,¬ c∈x->c8 c k x=[]:=by
  intro k
  induction x generalizing k with
  | nil=>intro _;rfl
  | cons a r ih =>
   intro hm;unfold c8;rw[if_neg (fun e=>hm (by simp[e]))];show ih (k+1) fun m=>hm (List.mem_cons_of_mem _ m)
 by_cases h1:(decide ((S x).length < 1) || decide (PySem.Builtin.Str.strKind (S x) < PySem.Builtin.Str.strKind (S [c])))=true
 ·rw[if_pos h1];have hx:c8 c 0 x=[]:=by
   show nop 0 fun m=>?_;rw[c9]at h1;have hk:PySem.Builtin.Str.strKind (S [c])=1:=by unfold PySem.Builtin.Str.strKind S;simp[hc]
   rw[hk]at h1;have hp:¬ x.length < 1:=by cases x with | nil=>simp at m | cons _ _=>simp
   have hq:¬ PySem.Builtin.Str.strKind (S x) < 1:=by unfold PySem.Builtin.Str.strKind;split <;> (try split) <;> omega
   simp[hp,hq]at h1
  rw[Iw c x hx];rfl
 ·rw[if_neg h1];by_cases h2:(c8 c 0 x).isEmpty=true
  ·rw[if_pos h2];rw[Iw c x (List.isEmpty_iff.mp h2)];rfl
  ·rw[if_neg h2]
end Tx
namespace L2
open PySem PySem.Spec PyProof.Rows
def  noStar:Expr->Bool
 | .Starred _ _=>false
 | _=>true
def fv{e:Expr}{es:List Expr}{env:Env}(h:noStar e=true):starEach (e::es) env=(false,eval e env)::starEach es env:=by
 cases e <;> first | rfl | cases h
def ig{pos:Pos}{env:Env}:∀ {es:List Expr},es.all noStar=true->(backTo pos (starEach es env)).any (·.1)=false
 | [],_=>rfl
 | e::es,h=>by
  rw[LE,Fk]at h;rw[fv h.1];have ih:=ig (pos:=pos) (env:=env) h.2;change((false || (backTo pos (starEach es env)).any (·.1)))=false;rw[ih];rfl
def xS{pos:Pos}{env:Env}:∀ {es:List Expr},es.all noStar=true->(backTo pos (starEach es env)).all (fun x=>Bool.not x.1)=true
 | [],_=>rfl
 | e::es,h=>by
  rw[LE,Fk]at h;rw[fv h.1];have ih:=xS (pos:=pos) (env:=env) h.2;change((true && (backTo pos (starEach es env)).all (fun x=>Bool.not x.1)))=true;rw[ih];rfl
section
variable {X:Cx}
def RS{e:Expr}{es:List Expr}{te:TE}{t:TA}(ha:PE X e te)(hr:PA X es t)(hs:noStar e=true:=by rfl):PA X (e::es) (fP te t):=RJ ha hr (fv hs)
def aa3{CX:eK}{k:Nat}{f:Addr}{fd:FuncData}{ps:List Str}{sp:Sp}{bG:List V}{ds:List Value}{E:XK}{x:Str}{p pos:Pos}{e:Expr}{es:List Expr}{t:TA}(F:aC X.prog X.w X.K X.mg X.base CX k f fd ps sp)(hr:bL k X.A)(hg:Gl X x)(hm:X.mg x=!-f)(hk:W.keepIn X.K (-f)=true)(hb:Binds X.K fd ps ds)(hd:Vals bG ds)(hx:Passes CX X E)(ha:PA X (e::es) t)(hs:(e::es).all noStar=true:=by rfl)(cm:(x == ("__debug__":Str))=false:=by decide):PE X (.Call (.Name x p) (e::es) [] pos) (yy sp bG E t):=by
 have hs':=hs;rw[LE,Fk]at hs';show Qa F hr hg hm hk hb hd hx ha cm (fv hs'.1) (ig hs'.2)
def YM{x:Str}{p pos:Pos}{e:Expr}{es:List Expr}{t:TA}{id:String}{r:List V->Hp->VK->Prop}(hc:cJ X (.builtin id) r)(hg:Gl X x)(hm:X.mg x=none)(hv:bootBuiltins x=!.builtin id)(ha:PA X (e::es) t)(hs:(e::es).all noStar=true:=by rfl)(hn:x ≠ "__name__" := by decide)(cm:(x == ("__debug__":Str))=false:=by decide):PE X (.Call (.Name x p) (e::es) [] pos) (nQ r t):=by
 have hs':=hs;rw[LE,Fk]at hs';show W6 hc hg hm hv ha hn cm (fv hs'.1) (ig hs'.2)
def UB{x:Str}{p pos:Pos}{e:Expr}{es:List Expr}{t:TA}{T:String}{r:List V->Hp->VK->Prop}(hc:cJ X (.type T) r)(hg:Gl X x)(hm:X.mg x=none)(hv:bootBuiltins x=!.type T)(ha:PA X (e::es) t)(hs:(e::es).all noStar=true:=by rfl)(hn:x ≠ "__name__" := by decide)(cm:(x == ("__debug__":Str))=false:=by decide):PE X (.Call (.Name x p) (e::es) [] pos) (nQ r t):=by
 have hs':=hs;rw[LE,Fk]at hs';show WR hc hg hm hv ha hn cm (fv hs'.1) (ig hs'.2)
end
section
variable {X:Cx}
def PE.imp{e:Expr}{t t':TE}(h:PE X e t)(i:∀ σ H Q,t' σ H Q->t σ H Q):PE X e t':=fun π s σ H Q I hw=>h π s σ H Q I (i σ H Q hw)
def PS.imp{e:Stmt}{t t':TS}(h:PS X e t)(i:∀ D σ H,t' D σ H->t D σ H):PS X e t':=fun π s σ H D I hw=>h π s σ H D I (i D σ H hw)
def aZ.imp{f:Value->Value->Sem Value}{r r':R2}(h:aZ X f r)(i:∀ x y H Q,r' x y H Q->r x y H Q):aZ X f r':=fun π s σ H x y v u Q I rx ry q=>h π s σ H x y v u Q I rx ry (i x y H Q q)
def cJ.imp{f:Value}{r r':List V->Hp->VK->Prop}(h:cJ X f r)(i:∀ xs H Q,r' xs H Q->r xs H Q):cJ X f r':=fun π s σ H xs us Q I rx q=>h π s σ H xs us Q I rx (i xs H Q q)
def  eX(i:Nat):TE:=fun σ H Q=>match σ[i]? with
 | some (!v)=>Q v H
 | _=>False
def qv(i:Nat){x:Str}{pos:Pos}(hN:X.N[i]?=!x:=by rfl)(hv:tQ X.env.scope x:=by first | show Or.inl rfl | show Or.inr (Or.inl rfl) | show Or.inr (Or.inr rfl))(hd:(x == ("__debug__":Str))=false:=by decide)(dD:(x == ("__classdict__":Str))=false:=by decide):PE X (.Name x pos) (eX i):=(Iy hN hv hd dD).imp fun σ H Q h=>by
 unfold eX at h;split at h
 ·rename_i v e;show#[v,e,h]
 ·show h.elim
def  zD:R2:=fun x y H Q=>match x,y with
 | .int i,.int j=>Q (.int (i+j)) H
 | .str a,.str b=>a.length+b.length<=sizeLine/\Q (.str (a++b)) H
 | .ref l,-b=>match H l,H b with
  | some (.lst xs),!.lst zs=>xs.length+zs.length<=sizeLine/\∀ p,H p=none->Q (-p) (upd H p (.lst (xs++zs)))
  | _,_=>False
 | _,_=>False
def dA:aZ X (binaryOp .Add) zD:=(WQ.or (Us.or VI)).imp fun x y H Q h=>by
 unfold zD at h;split at h
 ·show .inl #[_,_,rfl,rfl,h]
 ·show .inr (.inl #[_,_,rfl,rfl,h.1,h.2])
 ·split at h
  ·rename_i xs zs h1 h2;show .inr (.inr #[_,_,xs,zs,rfl,rfl,h1,h2,h.1,h.2])
  ·show h.elim
 ·show h.elim
def  bB(K:ν)(H:Hp)(p:Addr)(R:List V->Prop):Prop:=match H p with
 | some (.lst xs)=>R xs
 | some (.tup xs)=>R xs
 | _=>∃ xs,(aB K H p xs\/bE K H p xs)/\R xs
def xD{K:ν}{H:Hp}{p:Addr}{R:List V->Prop}(h:bB K H p R):∃ xs,(aB K H p xs\/bE K H p xs)/\R xs:=by
 unfold bB at h;split at h
 ·rename_i xs e;show#[xs,.inl (aB.of e),h]
 ·rename_i xs e;show#[xs,.inr (bE.of e),h]
 ·show h
def  wB(K:ν)(H:Hp)(p:Addr)(R:List V->Prop):Prop:=∃ xs,aB K H p xs/\R xs
def AF{K:ν}{H:Hp}{p:Addr}{R:List V->Prop}(h:wB K H p R):∃ xs,aB K H p xs/\R xs:=h
def  Sy(f:Int->Int->Int):R2:=fun x y H Q=>match x,y with
 | .int i,.int j=>Q (.int (f i j)) H
 | _,_=>False
def  sV(C:Int->Int->Prop)(f:Int->Int->Int):R2:=fun x y H Q=>match x,y with
 | .int i,.int j=>C i j/\Q (.int (f i j)) H
 | _,_=>False
def Gx{C:Int->Int->Prop}{f:Int->Int->Int}{x y:V}{H:Hp}{Q:VK}(h:sV C f x y H Q):rI C (fun i j=>.int (f i j)) x y H Q:=by
 unfold sV at h;split at h
 ·show#[_,_,rfl,rfl,h.1,h.2]
 ·show h.elim
def mv:aZ X (binaryOp .Mod) (sV (fun _ j=>0 < j) fun i j=>i % j):=Sr.imp fun _ _ _ _ h=>Gx h
def Ay:aZ X (binaryOp .FloorDiv) (sV Ij fun i j=>i / j):=SA.imp fun _ _ _ _ h=>Gx h
def  qN(neg:Bool):R2:=fun x y H Q=>match x,y with
 | .int i,.int j=>Q (.bl (neg ^^ decide (i=j))) H
 | .str i,.str j=>Q (.bl (neg ^^ decide (i=j))) H
 | .bl i,.bl j=>Q (.bl (neg ^^ decide (i=j))) H
 | _,_=>xx x y=true/\Q (.bl (neg ^^ decide (x=y))) H
def Gs(i j:Int):decide (V.int i=V.int j)=decide (i=j):=by by_cases h:i=j <;> simp[h]
def Lj(i j:Str):decide (V.str i=V.str j)=decide (i=j):=by by_cases h:i=j <;> simp[h]
def Hd(i j:Bool):decide (V.bl i=V.bl j)=decide (i=j):=by by_cases h:i=j <;> simp[h]
def Wv:aZ X (compareOp .Eq) (qN false):=Y3.imp fun x y H Q h=>by
 unfold qN at h;simp only[Bool.false_bne]at h;split at h
 ·show#[rfl,by rw[Gs];show h]
 ·show#[rfl,by rw[Lj];show h]
 ·show#[rfl,by rw[Hd];show h]
 ·show h
def aaG:aZ X (compareOp .NotEq) (qN true):=Xr.imp fun x y H Q h=>by
 unfold qN at h;simp only[Bool.true_bne]at h;split at h
 ·show#[rfl,by rw[Gs];show h]
 ·show#[rfl,by rw[Lj];show h]
 ·show#[rfl,by rw[Hd];show h]
 ·show h
def  jZ(f:Int->Int->Bool):R2:=fun x y H Q=>match x,y with
 | .int i,.int j=>Q (.bl (f i j)) H
 | _,_=>False
def Be{f:Int->Int->Bool}{x y:V}{H:Hp}{Q:VK}(h:jZ f x y H Q):oP (fun i j=>.bl (f i j)) x y H Q:=by
 unfold jZ at h;split at h
 ·show#[_,_,rfl,rfl,h]
 ·show h.elim
def Ii:aZ X (compareOp .Lt) (jZ fun i j=>decide (i < j)):=Vx.imp fun _ _ _ _ h=>Be h
def uU:aZ X (compareOp .LtE) (jZ fun i j=>decide (i<=j)):=Vd.imp fun _ _ _ _ h=>Be h
def Bh:aZ X (compareOp .Gt) (jZ fun i j=>decide (j < i)):=P7.imp fun _ _ _ _ h=>Be h
def  wJ(K:ν):R2:=fun x y H Q=>match x,y with
 | .str i,.str j=>Q (.bl (Bool.not (Builtin.Str.occurrences j i 0 j.length 1).isEmpty)) H
 | _,-p=>bB K H p fun xs=>cE x=true/\xs.all cE=true/\Q (.bl (ik x xs)) H
 | _,_=>False
def Rc:aZ X (compareOp .In) (wJ X.K):=(Tw.or GN).imp fun x y H Q h=>by
 unfold wJ at h;split at h
 ·show .inl #[_,_,rfl,rfl,h]
 ·let⟨xs,h1,h2,h3,h4⟩:=xD h;show .inr #[_,xs,rfl,h1,h2,h3,h4]
 ·show h.elim
def  mO(t:TE):TT:=fun σ H Q=>t σ H fun x H'=>match x with
 | .bl k=>Q k H'
 | _=>False
def B6{x:V}{H:Hp}{Q:Bool->Hp->Prop}(h:(match x with | .bl k=>Q k H | _=>False)):∃ k,x=.bl k/\Q k H:=by
 split at h
 ·show#[_,rfl,h]
 ·show h.elim
def Zj{op:CmpOp}{r:R2}{a b:Expr}{ta tb:TE}{pos:Pos}(ho:aZ X (compareOp op) r)(ha:PE X a ta)(hb:PE X b tb)(hm:behindInMarks op b=false:=by first | show wD _ ⋯ ⋯ | rfl) :
  PT X (.Compare a [op] [b] pos) (mO (iM r ta tb)):=by
 intro π s σ H Q I h;show wpAny_isTrue_Compare1 ?_ hm;show aE (ha π s σ H _ I h) fun v s1 #[x,H1,I1,r1,q1]=>aE (hb π s1 σ H1 _ I1 q1) fun u s2 #[y,H2,I2,r2,q2]=>?_;show aE (ho π s2 σ H2 x y v u _ I2 r1 r2 q2) fun c s3 #[z,H3,I3,r3,q3]=>?_;let⟨k,rfl,q⟩:=B6 q3;cases r3;show Sc #[H3,I3,q]
def abe{e:Expr}{t:TE}(h:PE X e t)(he:∀ whole,isTrue e X.env whole=(do let v <- whole;standAt e.pos;holding [v] (truthy v)):=by intro _;rfl):PT X e (mO t):=by
 intro π s σ H Q I hw;show isTrue_plain (aE (h π s σ H _ I hw) fun v s1 #[x,H1,I1,r1,q1]=>?_) (he _);let⟨d,rfl,q⟩:=B6 q1;cases r1;show Sc #[H1,I1,q]
def  C7(f g:Int->Int->Bool)(ta tb tc:TE):TT:=fun σ H Q=>ta σ H fun x H1=>tb σ H1 fun y H2=>match x,y with
 | .int i,.int j=>if f i j=true then tc σ H2 fun z H3=>(match z with | .int k=>Q (g j k) H3 | _=>False) else Q false H2
 | _,_=>False
def  Ei(ta tb:TE):TE:=fun σ H Q=>ta σ H fun x H1=>match x with
 | .bl c=>if c=true then tb σ H1 Q else Q (.bl false) H1
 | _=>False
def  Ak(ta tb:TE):TE:=fun σ H Q=>ta σ H fun x H1=>match x with
 | .bl c=>if c=true then Q (.bl true) H1 else tb σ H1 Q
 | _=>False
def  AK(ta:TE):TE:=fun σ H Q=>ta σ H fun x H1=>match x with
 | .bl c=>Q (.bl (Bool.not c)) H1
 | _=>False
variable {a b:Expr}{ta tb:TE}{pos:Pos}{rest:List Expr}
def YY(ha:PE X a ta)(hb:PE X (.BoolOp .And (b::rest) pos) tb):PE X (.BoolOp .And (a::b::rest) pos) (Ei ta tb):=by
 intro π s σ H Q I h;show BoolOp_and (aE (ha π s σ H _ I h) fun v s1 #[x,H1,I1,r1,q1]=>?_);have q1':∃ c,x=.bl c/\if c=true then tb σ H1 Q else Q (.bl false) H1:=by
  dsimp only at q1;split at q1
  ·show#[_,rfl,q1]
  ·show q1.elim
 let⟨c,rfl,q1⟩:=q1';cases r1;show Sc ?_;cases c with
 | true=>show hb π s1 σ H1 Q I1 q1
 | false=>show#[.bl false,H1,I1,rfl,q1]
def UZ(ha:PE X a ta)(hb:PE X (.BoolOp .Or (b::rest) pos) tb):PE X (.BoolOp .Or (a::b::rest) pos) (Ak ta tb):=by
 intro π s σ H Q I h;show BoolOp_or (aE (ha π s σ H _ I h) fun v s1 #[x,H1,I1,r1,q1]=>?_);have q1':∃ c,x=.bl c/\if c=true then Q (.bl true) H1 else tb σ H1 Q:=by
  dsimp only at q1;split at q1
  ·show#[_,rfl,q1]
  ·show q1.elim
 let⟨c,rfl,q1⟩:=q1';cases r1;show Sc ?_;cases c with
 | false=>show hb π s1 σ H1 Q I1 q1
 | true=>show#[.bl true,H1,I1,rfl,q1]
def  xu:V->Value
 | .ty n=>.type n
 | .ref a=>-a
 | _=>.none
def TB:cJ X (.builtin "isinstance") (fun xs H Q=>∃ x cV t b,xs=[x,cV]/\((∃ n,cV=.ty n)\/∃ a,cV=-a)/\fQ X.K H x t/\W.kitOne X.K t (xu cV)=!b/\Q (.bl b) H):=by
 intro π s σ H xs us Q I r h;let⟨x,cV,t,b,rfl,hc,ty,e,q⟩:=h;let⟨u,c',rfl,ru,rc'⟩:=vals2 r;have ec:c'=xu cV:=by
  rcases hc with ⟨n,rfl⟩ | ⟨a,rfl⟩
  ·show rc'
  ·show rc'
 subst ec;show DV I ru ty e fun tk=>#[.bl b,H,I.tok tk,rfl,q]
end
section
variable {X:Cx}
def  Ds:V->List V->Hp->VK->Prop:=fun x xs H Q=>match x,xs with
 | .str a,[.str b]=>Q (.bl (Txt.startswith a b)) H
 | _,_=>False
def VM:cP X "str.startswith" Ds:=by
 intro π s σ H x xs v us Q I rx r h;unfold Ds at h;split at h
 ·rename_i a b;let⟨t,rfl⟩:=rx;let⟨u,rfl,t',rfl⟩:=vals1 r;show ST F.slot_str_startswith (_K s a t) F.entry_str_startswith (F.args_str_startswith_2 _ _) (gives_str_startswith a b t t').meets #[.bl _,H,I,rfl,h]
 ·show h.elim
def  Df:V->List V->Hp->VK->Prop:=fun x xs H Q=>match x,xs with
 | .str a,[.str b]=>Q (.bl (Txt.endswith a b)) H
 | _,_=>False
def Se:cP X "str.endswith" Df:=by
 intro π s σ H x xs v us Q I rx r h;unfold Df at h;split at h
 ·rename_i a b;let⟨t,rfl⟩:=rx;let⟨u,rfl,t',rfl⟩:=vals1 r;show ST F.slot_str_endswith (_K s a t) F.entry_str_endswith (F.args_str_endswith_2 _ _) (gives_str_endswith a b t t').meets #[.bl _,H,I,rfl,h]
 ·show h.elim
def LA:∀ (l:List (Str×Tok)),Vals ((l.map (·.1)).map V.str) (strValues l)
 | []=>.nil
 | p::r=>.cons #[p.2,rfl] (LA r)
def xg:∀ {ts:List Str}{us:List Value},Vals (ts.map V.str) us->∃ l:List (Str×Tok),us=strValues l/\l.map (·.1)=ts
 | [],_,.nil=>#[[],rfl,rfl]
 | t::r,_,.cons h h'=>by
  let⟨k,rfl⟩:=h;let⟨l,e1,e2⟩:=xg h';show#[(t,k)::l,by rw[e1];rfl,by rw[<- e2];rfl]
def  D9:V->List V->Hp->VK->Prop:=fun x xs H Q=>match x,xs with
 | .str a,[.str b]=>(b.length == 0)=false/\a.length<=sizeLine/\(Builtin.Str.partsBetween a (Builtin.Str.occurrences a b 0 a.length (a.length+1)) b.length).length<=sizeLine /\
   ∀ l,H l=none->Q (-l) (upd H l (.lst ((Txt.split a b).map V.str)))
 | _,_=>False
def Am:cP X "str.split" D9:=by
 intro π s σ H x xs v us Q I rx r h;unfold D9 at h;split at h
 ·rename_i a b;let⟨hy,hx,hn,q⟩:=h;let⟨t,rfl⟩:=rx;let⟨w',rfl,u,rfl⟩:=vals1 r;have fin:∀ (l:List (Str×Tok)) (tk:Nat),l.map (·.1)=Txt.split a b->l.length<=sizeLine ->
    EP X π σ Q (-s.heap.objs.size) { s with heap:=s.heap.push { cls:=.type "list",data:=.seq (strValues l).toArray },toks:=tk }:=fun l tk e hz =>
   #[-_,_,I.laid (t':=tk) (o:=.lst ((Txt.split a b).map V.str)) (fun b' o' q'=>li _ q') (lm _)
    #[by rw[pi,<- e,pi];show hz,strValues l,0,by rw[<- e];show LA l,wl _ rfl],rfl,q _ (I.aA.fresh (lm _))]
  cases h1:(decide (a.length < b.length) || decide (Builtin.Str.strKind a < Builtin.Str.strKind b))
  ·cases hf:(Builtin.Str.occurrences a b 0 a.length (a.length+1)).isEmpty
   ·show ST F.slot_str_split (_K s a t) F.entry_str_split (Jam _ _) (meets_str_split_sep a b t u h1 hy hf hx hn) ?_;have e:Txt.split a b=Builtin.Str.partsBetween a (Builtin.Str.occurrences a b 0 a.length (a.length+1)) b.length:=(wT (Jah h1)).trans (wT (Jah hf));have z:=fin (numbered s.toks (Builtin.Str.partsBetween a (Builtin.Str.occurrences a b 0 a.length (a.length+1)) b.length)) (s.toks+(Builtin.Str.partsBetween a (Builtin.Str.occurrences a b 0 a.length (a.length+1)) b.length).length)
     ((numbered_texts _ _).trans e.symm) (by
      have:=On List.length (numbered_texts s.toks (Builtin.Str.partsBetween a (Builtin.Str.occurrences a b 0 a.length (a.length+1)) b.length));rw[pi]at this;rw[this];show hn)
    rw[<- strsFrom_eq]at z;show z
   ·show ST F.slot_str_split (_K s a t) F.entry_str_split (Jam _ _) (meets_str_split_not_found a b t u h1 hy hf)
     (fin [(a,t)] s.toks ((wT (Jah h1)).trans (At hf)).symm (by change 1<=sizeLine;decide))
  ·show ST F.slot_str_split (_K s a t) F.entry_str_split (Jam _ _) (meets_str_split_cannot_occur a b t u h1)
    (fin [(a,t)] s.toks (At h1).symm (by change 1<=sizeLine;decide))
 ·show h.elim
def  rJoin(K:ν):V->List V->Hp->VK->Prop:=fun x xs H Q=>match x,xs with
 | .str a,[-p]=>wB K H p fun xs=>∃ ts:List Str,xs=ts.map V.str/\ts.foldl (fun n z=>n+z.length+a.length) 0<=sizeLine/\Q (.str (Str.join a ts)) H
 | _,_=>False
def We:cP X "str.join" (rJoin X.K):=by
 intro π s σ H x xs v us Q I rx r h;unfold rJoin at h;split at h
 ·rename_i a p;let⟨xs,hq,ts,rfl,hz,q⟩:=AF h;let⟨t,rfl⟩:=rx;let⟨w',rfl,e⟩:=vals1 r;cases e;let⟨ai,rv,pl,hl⟩:=I.list hq;let⟨l,rfl,e2⟩:=xg rv;have FL:Builtin.Str.tooLong ((l.map (·.1)).toArray.foldl (· + ·.length+a.length) 0)=false:=by
   unfold Builtin.Str.tooLong;show kt (Nat.not_lt.mpr ?_);rw[List.foldl_toArray,e2];show hz
  show ST F.slot_str_join (_K s a t) F.entry_str_join (F.args_str_join_2 _ _) (meets_str_join_list a t p l FL) #[pl.isList,?_];have hlen:(Builtin.Str.glued a (l.map (·.1))).length<=sizeLine:=by
   rw[e2,StrLaws.glued_eq_join];show tz ?_ hz;have:∀ (us:List Str) (n:Nat),n+(Str.join a us).length<=us.foldl (fun n z=>n+z.length+a.length) n:=by
    intro us
    induction us with
    | nil=>intro n;show lm _
    | cons y r ih =>
     intro n;cases r with
     | nil=>change n+y.length<=n+y.length+a.length;omega
     | cons z r' =>
      have h1:(Str.join a (y::z::r')).length=y.length+a.length+(Str.join a (z::r')).length:=by
       change((y++a)++Str.join a (z::r')).length=_;rw[Str.length_append,Str.length_append]
      have h2:=ih (n+y.length+a.length);rw[h1];show tz ?_ h2;omega
   have h0:=this ts 0;omega
  have e3:Builtin.Str.glued a (l.map (·.1))=Str.join a ts:=by rw[e2,StrLaws.glued_eq_join]
  match l,e2,e3,hlen with
  | [],e2,e3,hlen=>show#[hlen,#[.str (Str.join a ts),H,I.tok _,#[_,by rw[e3]],q]]
  | [p],e2,e3,hlen =>
   have e4:Str.join a ts=p.1:=by rw[<- e2];rfl
   show#[.str (Str.join a ts),H,I.tok _,#[_,by rw[e4]],q]
  | p1::p2::r',e2,e3,hlen=>show#[hlen,#[.str (Str.join a ts),H,I.tok _,#[_,by rw[e3]],q]]
 ·show h.elim
def LH{v:Value}{o:Option Int}(p:IsPart v o):∃ l:Option (Int×Tok),v=partValue l/\l.map (·.1)=o:=by
 cases p with
 | none=>show#[none,rfl,rfl]
 | int i t=>show#[!(i,t),rfl,rfl]
def  Jw:V->Option Int->Option Int->Hp->VK->Prop:=fun x lo hi H Q=>match x with
 | .str z=>z.length<=sizeLine/\Q (.str (Txt.slice z lo hi)) H
 | _=>False
def Wb:g7 X Jw:=by
 intro π s σ H x v vl vu lo hi sl Q I rx hs pl pu h;unfold Jw at h;split at h
 ·rename_i z;let⟨hz,q⟩:=h;let⟨t,rfl⟩:=rx;let⟨l,rfl,rfl⟩:=LH pl;let⟨u,rfl,rfl⟩:=LH pu;show#["str",_,F.slot_str_getitem.lookup,_K _ _ _,wpAny_getItem_str_slice (l:=l) (u:=u) (st:=none) hs rfl
   (post_val_or_str #[tz (Txt.slice_le z _ _) hz,fun t' k=>?_])]
  show#[.str (Txt.slice z (l.map (·.1)) (u.map (·.1))),H,I.tok k,#[t',rfl],q]
 ·show h.elim
def  Eo:R2:=fun x y H Q=>match x,y with
 | .int i,.int j=>wH i j/\Q (.int (i * j)) H
 | .str z,.int n=>MulOk z n/\Q (.str (Txt.mul z n)) H
 | .ref l,.int k=>match H l with
  | some (.lst xs)=>(unop% Neg.neg ((2 ^ 63)))<=k/\k < 2 ^ 63/\xs.length * k.toNat<=sizeLine/\∀ p,H p=none->Q (-p) (upd H p (.lst (List.replicate k.toNat xs).flatten))
  | _=>False
 | _,_=>False
def Ri:aZ X (binaryOp .Mult) (fun x y H Q=>∃ z n,x=.str z/\y=.int n/\MulOk z n/\Q (.str (Txt.mul z n)) H):=by
 intro π s σ H x y v u Q I rx ry h;let⟨z,n,rfl,rfl,hm,q⟩:=h;let⟨t,rfl⟩:=rx;let⟨t',rfl⟩:=ry;show SB.mul hm fun t2 k=>#[.str _,H,I.tok _,#[_,rfl],q]
def yv:aZ X (binaryOp .Mult) Eo:=(QX.or (Ri.or R4)).imp fun x y H Q h=>by
 unfold Eo at h;split at h
 ·show .inl #[_,_,rfl,rfl,h.1,h.2]
 ·show .inr (.inl #[_,_,rfl,rfl,h.1,h.2])
 ·split at h
  ·rename_i xs h1;let⟨h2,h3,h4,h5⟩:=h;show .inr (.inr #[_,_,xs,rfl,rfl,h1,h2,h3,h4,h5])
  ·show h.elim
 ·show h.elim
def LM:∀ {bs:List Bool}{us:List Value},Vals (bs.map V.bl) us->us=bs.map Value.bool
 | [],_,.nil=>rfl
 | b::r,_,.cons h h'=>by
  have h:_=Value.bool b:=h;rw[h,LM h'];rfl
def all_range(bs:List Bool):(List.range bs.length).all (fun j=>bs.getD j true)=bs.all id:=by
 rw[_b,Ix,Ix];constructor
 ·intro h b hb;let⟨i,hi,e⟩:=List.getElem_of_mem hb;have:=h i (_Y.mpr hi);rw[XV,sw hi,e]at this;show this
 ·intro h j hj;have hj:=_Y.mp hj;rw[XV,sw hj];show h _ (_o hj)
def Zb(hc:X.calm=true):cJ X (.builtin "all") (fun xs H Q=>∃ (p:Addr) (bs:List Bool),xs=[-p]/\aB X.K H p (bs.map V.bl)/\Q (.bl (bs.all id)) H):=by
 intro π s σ H xs us Q I r h;let⟨p,bs,rfl,hq,q⟩:=h;let⟨u,rfl,e⟩:=vals1 r;cases e;let⟨ai,rv,pl,hz⟩:=I.list hq;have eb:=LM rv;subst eb;have bx:p < s.heap.objs.size:=pl.lt;show call_all_walk (wpAny_pyIter_list pl.isList ?_);show#[s.heap.objs.size,_,_,_,_,_,fun j=>bs.getD j true,rfl,Walks.list (A:=X.A.in1) (show X.A.in1.handled=none from I.ok.hd hc) _ p (zn bx) (bs.map Value.bool).toArray,#[#[_,wl _ rfl,rfl,rfl],pl.isList.push _],?_,?_]
 ·intro i v s' Q' E' hP hQ;have hi:bs[i]?=!bs.getD i true/\v=.bool (bs.getD i true):=by
   have hP:(bs.map Value.bool).toArray[i]?=!v:=hP;rw[List.getElem?_toArray,Da]at hP;cases e:bs[i]? with
   | none=>rw[e]at hP;cases hP
   | some b =>
    rw[e]at hP;have:bs.getD i true=b:=by rw[XV,e];rfl
    rw[this];show#[rfl,(Id hP).symm]
  rw[hi.2];show Sc hQ
 ·intro h' tk hk;have e:(List.range (bs.map Value.bool).toArray.size).all (fun j=>bs.getD j true)=bs.all id:=by
   rw[sB,pi];show all_range bs
  rw[e];show#[.bl (bs.all id),H,I.kept (t':=tk) (fun b o eo=>?_),rfl,q];show hk b o ?_ (li _ eo);intro hm;have e1:b=s.heap.objs.size:=by simpa using hm
  show absurd (wf eo) (by rw[e1];show KB _)
def  yq(x:Str):It:=#[fun i _=>i < x.length,fun i H y H'=>H'=H/\∃ c,x.cps[i]?=!c/\y=.str #[(List.toArray [c])],fun i _=>x.length<=i]
def Lz{P:Program}{w:World}{K:ν}{tg:Expr}{x:Str}{t:Tok}{ty:String}(it:Addr)(cD:["enumerate","zip","dict_itemiterator","dict_reverseitemiterator","odict_iterator","itertools.zip_longest","itertools.pairwise"].contains ty=false)(W:∀ A:Around,A.handled=none->Walks P w A it [it] [it] x.cps.size (SignAt x) (fun i h=>h.IsStrIter it ty x t i))(W0:∀ (A:Around) (i:Nat) (s:Shared) (Q:Value->Shared->Prop) (E:Value->Shared->Prop),s.heap.IsStrIter it ty x t i->Q (-it) s->wpAny (model P w) A (pyIter (-it)) Q E s) :
  Turn P w K tg (yq x) [it] it (fun i h=>i<=x.length/\h.IsStrIter it ty x t i) where
 mem:=()
 obj:=fun i h st b hb=>by
  have e:b=it:=by simpa using hb
  subst e;let⟨_,o,e,c,d⟩:=st;show#[o,e,fun v z=>by rw[d]at z;cases z]
 keep:=fun i h h' st k=>#[st.1,let ⟨o,ho,r⟩:=st.2;#[o,k it () o ho,r]]
 item:=by
  intro X hP hw hK hc i π s σ H E I hf st hg;subst hP hw hK;let⟨f0,f1,f2,f3,f4,f5⟩:=hf it ();show(W X.A (I.ok.hd hc)).item i s _ E hg st.2 fun v h' tk hv st' hk=>?_;let⟨c,u,hcx,rfl⟩:=hv;have I1:Inv X π σ H { s with heap:=h',toks:=tk }:=I.turned (t':=tk) (fun b o hb e=>hk b o (by simpa using hb) e) f0 f1 f3 f4 f5;let⟨o,e,cc,d⟩:=id st';show#[_,rfl,yB (s:={ s with heap:=h',toks:=tk }) e cc d cD #[.str #[(List.toArray [c])],H,I1,#[u,rfl],#[rfl,c,hcx,rfl],#[hg,st'],fun b hb=>(hf b hb).1]]
 done:=by
  intro X hP hw hK hc i π s σ H E I hf st hg;subst hP hw hK;let⟨f0,f1,f2,f3,f4,f5⟩:=hf it ();have hi:i=x.cps.size:=Nat.le_antisymm st.1 hg;subst hi;show(W X.A (I.ok.hd hc)).done s _ E st.2 fun h' tk hk=>#[rfl,I.turned (t':=tk) (fun b o hb e=>hk b o (by simpa using hb) e) f0 f1 f3 f4 f5]
 self:=fun A i s Q E st h=>W0 A i s Q E st.2 h
def  Ah(tl:TE):TI:=fun σ H R=>tl σ H fun x H1=>match x with
 | .str z=>R (yq z) H1
 | _=>False
def Yv{tg l:Expr}{tl:TE}(hl:PE X l tl):PI X tg l (Ah tl):=by
 intro π s σ H R I h;show aE (hl π s σ H _ I h) fun v s1 #[x,H1,I1,r1,q1]=>?_;have q1':∃ z,x=.str z/\R (yq z) H1:=by
  dsimp only at q1;split at q1
  ·show#[_,rfl,q1]
  ·show q1.elim
 let⟨z,rfl,q⟩:=q1';let⟨t,rfl⟩:=r1;have fp:∀ b∈[s1.heap.objs.size],j0 X π H1 b:=fun b hb=>by
  have e:b=s1.heap.objs.size:=by simpa using hb
  subst e;show I1.tZ (lm _) (I1.aA.fresh (lm _))
 cases ha:z.cps.all (· < 128)
 ·show wpAny_pyIter_wide ha #[s1.heap.objs.size,[s1.heap.objs.size],_,_,H1,rfl,I1.kept (t':=s1.toks) fun b o e=>li _ e,
   Lz (ty := "str_iterator") (t:=t) _ ⋯ (fun A hA=>Walks.strWide hA _ z t) (fun A i s Q E st h=>wpAny_pyIter_striter_wide st h),#[wS _,_,wl _ rfl,rfl,rfl],fp,q]
 ·show wpAny_pyIter_ascii ha #[s1.heap.objs.size,[s1.heap.objs.size],_,_,H1,rfl,I1.kept (t':=s1.toks) fun b o e=>li _ e,
   Lz (ty := "str_ascii_iterator") (t:=t) _ ⋯ (fun A hA=>Walks.strAscii hA _ z t) (fun A i s Q E st h=>wpAny_pyIter_striter_ascii st h),#[wS _,_,wl _ rfl,rfl,rfl],fp,q]
end
section
variable {X:Cx}{a b c:Expr}{ta tb tc:TE}{pos:Pos}
def VF(ha:PE X a ta):PE X (.UnaryOp .Not a pos) (AK ta):=by
 intro π s σ H Q I h;show UnaryOp_ (aE (ha π s σ H _ I h) fun v s1 #[x,H1,I1,r1,q1]=>?_);have q1':∃ k,x=.bl k/\Q (.bl (Bool.not k)) H1:=by
  dsimp only at q1;split at q1
  ·show#[_,rfl,q1]
  ·show q1.elim
 let⟨k,rfl,z1⟩:=q1';cases r1;show not_of (Sc #[.bl (Bool.not k),H1,I1,rfl,z1])
def V2{op op':CmpOp}{f g:Int->Int->Bool}(ho:aZ X (compareOp op) (jZ f))(ho':aZ X (compareOp op') (jZ g))(ha:PE X a ta)(hb:PE X b tb)(hc:PE X c tc)(hm:lastMarks [op,op'] [b,c]=false:=by with_unfolding_all rfl):PT X (.Compare a [op,op'] [b,c] pos) (C7 f g ta tb tc):=by
 intro π s σ H Q I h;show isTrue_chain (aE (ha π s σ H _ I h) fun v s1 ⟨x,H1,I1,r1,q1⟩=>test_link (aE (hb π s1 σ H1 _ I1 q1) fun u s2 ⟨y,H2,I2,r2,q2⟩=>?_)) hm;have q2':∃ i j,x=.int i/\y=.int j/\if f i j=true then tc σ H2 (fun z H3=>(match z with | .int k=>Q (g j k) H3 | _=>False)) else Q false H2:=by
  dsimp only at q2;split at q2
  ·show#[_,_,rfl,rfl,q2]
  ·show q2.elim
 let⟨i,j,rfl,rfl,z2⟩:=q2';show aE (ho π s2 σ H2 (.int i) (.int j) v u (fun z H3=>z=.bl (f i j)/\H3=H2) I2 r1 r2 #[rfl,rfl]) fun d s3 ⟨z,H3,I3,r3,e,e'⟩=>?_;subst e e';cases r3;show Sc ?_;cases hf:f i j with
 | false =>
  rw[hf]at z2;show ite_ff #[H3,I3,z2]
 | true =>
  rw[hf,At rfl]at z2;show ite_tt (test_last (aE (hc π s3 σ H3 _ I3 z2) fun w' s4 ⟨z',H4,I4,r4,q4⟩=>?_));have q4':∃ k,z'=.int k/\Q (g j k) H4:=by
   dsimp only at q4;split at q4
   ·show#[_,rfl,q4]
   ·show q4.elim
  let⟨k,rfl,z4⟩:=q4';show aE (ho' π s4 σ H4 (.int j) (.int k) u w' (fun z H5=>z=.bl (g j k)/\H5=H4) I4 r2 r4 #[rfl,rfl]) fun d' s5 ⟨z2,H5,I5,r5,e,e'⟩=>?_;subst e e';cases r5;show Sc #[H5,I5,z4]
def  yD(K:ν):List V->Hp->VK->Prop:=fun xs H Q=>match xs with
 | [.str y]=>y.length<=sizeLine/\Q (.int y.length) H
 | [-p]=>bB K H p fun ys=>Q (.int ys.length) H
 | _=>False
def aax:cJ X (.builtin "len") (yD X.K):=HE.imp fun xs H Q h=>by
 unfold yD at h;split at h
 ·show#[_,_,rfl,#[h.1,rfl],h.2]
 ·let⟨ys,h1,h2⟩:=xD h;rcases h1 with h1 | h1
  ·show#[_,_,rfl,.inl #[ys,h1,rfl],h2]
  ·show#[_,_,rfl,.inr #[ys,h1,rfl],h2]
 ·show h.elim
def  JW(K:ν):List V->Hp->VK->Prop:=fun xs H Q=>match xs with
 | [x,cV]=>∃ t b,((∃ n,cV=.ty n)\/∃ a,cV=-a)/\fQ K H x t/\W.kitOne K t (xu cV)=!b/\Q (.bl b) H
 | _=>False
def Ph:cJ X (.builtin "isinstance") (JW X.K):=TB.imp fun xs H Q h=>by
 unfold JW at h;split at h
 ·let⟨t,b,h1,h2,h3,h4⟩:=h;show#[_,_,t,b,rfl,h1,h2,h3,h4]
 ·show h.elim
def  wF(K:ν):List V->Hp->VK->Prop:=fun xs H Q=>match xs with
 | [-p]=>wB K H p fun xs=>∃ bs:List Bool,xs=bs.map V.bl/\Q (.bl (bs.all id)) H
 | _=>False
def Rn(hc:X.calm=true):cJ X (.builtin "all") (wF X.K):=(Zb hc).imp fun xs H Q h=>by
 unfold wF at h;split at h
 ·let⟨xs,h1,bs,rfl,h2⟩:=AF h;show#[_,bs,rfl,h1,h2]
 ·show h.elim
def  yw(K:ν):List V->Hp->VK->Prop:=fun xs H Q=>match xs with
 | [-p]=>bB K H p fun ys=>∀ l,H l=none->Q (-l) (upd H l (.lst ys))
 | _=>False
def SR:cJ X (.type "list") (yw X.K):=S4.imp fun xs H Q h=>by
 unfold yw at h;split at h
 ·let⟨ys,h1,h2⟩:=xD h;show#[_,ys,rfl,h1,h2]
 ·show h.elim
def  og(K:ν):R2:=fun x y H Q=>match x,y with
 | .ref p,.int i=>bB K H p fun xs=>match cR xs i with
  | some v=>Q v H
  | none=>False
 | .str z,.int i=>z.length<=sizeLine/\match cR z.cps.toList i with
  | some c=>Q (.str #[(List.toArray [c])]) H
  | none=>False
 | _,_=>False
def fM.imp{r r':R2}(h:fM X r)(i:∀ x y H Q,r' x y H Q->r x y H Q):fM X r':=fun value slice π s σ H x y v u Q I rx ry q=>h value slice π s σ H x y v u Q I rx ry (i x y H Q q)
def qx:fM X (og X.K):=R6.imp fun x y H Q h=>by
 unfold og at h;split at h
 ·let⟨xs,h1,h2⟩:=xD h;split at h2
  ·rename_i v e;rcases h1 with h1 | h1
   ·show .inl #[_,xs,_,v,rfl,rfl,h1,e,h2]
   ·show .inr (.inl #[_,xs,_,v,rfl,rfl,h1,e,h2])
  ·show h2.elim
 ·let⟨h1,h2⟩:=h;split at h2
  ·rename_i d e;show .inr (.inr #[_,_,d,rfl,rfl,h1,e,h2])
  ·show h2.elim
 ·show h.elim
def  xo(K:ν):V->Option Int->Option Int->Hp->VK->Prop:=fun x lo hi H Q=>match x with
 | .str z=>z.length<=sizeLine/\Q (.str (Txt.slice z lo hi)) H
 | .ref a=>wB K H a fun xs=>∀ p,H p=none->Q (-p) (upd H p (.lst (gm xs lo hi)))
 | _=>False
def O0:g7 X (xo X.K):=by
 intro π s σ H x v vl vu lo hi sl Q I rx hs pl pu h;show(Wb.or UQ) π s σ H x v vl vu lo hi sl Q I rx hs pl pu ?_;unfold xo at h;split at h
 ·show .inl h
 ·let⟨xs,h1,h2⟩:=AF h;show .inr #[_,xs,rfl,h1,h2]
 ·show h.elim
def  By(t:TE):TO:=fun σ H Q=>t σ H fun x H1=>match x with
 | .int i=>Q (!i) H1
 | _=>False
def Ro{e:Expr}{te:TE}(h:PE X e te):PO X (!e) (By te):=by
 intro π s σ H Q I q;show evalPart_some_step (aE (h π s σ H _ I q) fun v s1 #[x,H1,I1,r1,q1]=>?_);have q1':∃ i,x=.int i/\Q (!i) H1:=by
  dsimp only at q1;split at q1
  ·show#[_,rfl,q1]
  ·show q1.elim
 let⟨i,rfl,z1⟩:=q1';let⟨t,rfl⟩:=r1;show#[!i,H1,I1,.int i t,z1]
def  Dq:uw:=fun o i v H Q=>match o,i with
 | .ref p,.int k=>match H p with
  | some (.lst xs)=>(match gB xs.length k with
   | some j=>Q (upd H p (.lst (xs.set j v)))
   | none=>False)
  | _=>False
 | _,_=>False
def K4:yG X Dq:=by
 intro π s σ H o i v ov iv u Q I ro ri rv h;show set_list π s σ H o i v ov iv u Q I ro ri rv ?_;unfold Dq at h;split at h
 ·split at h
  ·rename_i xs h1;split at h
   ·rename_i j h2;show#[_,xs,_,j,rfl,rfl,h1,h2,h]
   ·show h.elim
  ·show h.elim
 ·show h.elim
def cP.imp{id:String}{r r':V->List V->Hp->VK->Prop}(h:cP X id r)(i:∀ x xs H Q,r' x xs H Q->r x xs H Q):cP X id r':=fun π s σ H x xs v us Q I rx rv q=>h π s σ H x xs v us Q I rx rv (i x xs H Q q)
def  Dg:V->List V->Hp->VK->Prop:=fun x vs H Q=>match x,vs with
 | .ref l,[y]=>match H l with
  | some (.lst xs)=>xs.length < sizeLine/\Q .ao (upd H l (.lst (xs++[y])))
  | _=>False
 | _,_=>False
def lb:cP X "list.append" Dg:=cP.imp Vl fun x xs H Q h=>by
 unfold Dg at h;split at h
 ·split at h
  ·rename_i zs h1;show#[_,zs,_,rfl,rfl,h1,h.1,h.2]
  ·show h.elim
 ·show h.elim
def  DS:V->List V->Hp->VK->Prop:=fun x vs H Q=>match x,vs with
 | .ref l,[-b]=>match H l,H b with
  | some (.lst xs),!.lst zs=>xs.length+zs.length<=sizeLine/\Q .ao (upd H l (.lst (xs++zs)))
  | _,_=>False
 | _,_=>False
def G9:cP X "list.extend" DS:=cP.imp OZ fun x xs H Q h=>by
 unfold DS at h;split at h
 ·split at h
  ·rename_i zs ws h1 h2;show#[_,_,zs,ws,rfl,rfl,h1,h2,h.1,h.2]
  ·show h.elim
 ·show h.elim
def  clsName(H:Hp):V->Option String
 | .ao=>!"NoneType"
 | .bl _=>!"bool"
 | .int _=>!"int"
 | .str _=>!"str"
 | .ref p=>match H p with
  | some (.lst _)=>!"list"
  | some (.tup _)=>!"tuple"
  | some (.dK _)=>!"dict"
  | _=>none
 | _=>none
def  uF(T n:String):Bool:=T == n || (T == "bool" && n == "int")
def abf{K:ν}{H:Hp}{x:V}{T:String}(h:clsName H x=!T):fQ K H x (.type T)/\T∈["NoneType","bool","int","str","list","tuple","dict"]:=by
 unfold clsName at h;split at h
 ·cases h;show#[.ao,()]
 ·cases h;show#[.bl _,()]
 ·cases h;show#[.int _,()]
 ·cases h;show#[.str _,()]
 ·split at h
  ·rename_i e;cases h;show#[.lst e,()]
  ·rename_i e;cases h;show#[.tup e,()]
  ·rename_i e;cases h;show#[.dK e,()]
  ·cases h
 ·cases h
def XA(K:ν):∀ T,T∈["NoneType","bool","int","str","list","tuple","dict"]->∀ n,n∈["bool","int","str","list","tuple","dict"]->W.kitOne K (.type T) (.type n)=!uF T n:=by
 intro T hT n hn;simp only[lv,List.mem_nil_iff,AT]at hT hn;rcases hT with rfl | rfl | rfl | rfl | rfl | rfl | rfl <;> rcases hn with rfl | rfl | rfl | rfl | rfl | rfl <;> kernel_rfl
def  D4:List V->Hp->VK->Prop:=fun xs H Q=>match xs with
 | [x,.ty n]=>n∈["bool","int","str","list","tuple","dict"]/\match clsName H x with
  | some T=>Q (.bl (uF T n)) H
  | none=>False
 | _=>False
def kU:cJ X (.builtin "isinstance") D4:=Ph.imp fun xs H Q h=>by
 unfold D4 at h;split at h
 ·rename_i x n;let⟨hn,h⟩:=h;split at h
  ·rename_i T e;let⟨h1,h2⟩:=abf (K:=X.K) e;show#[_,_,.inl #[_,rfl],h1,XA _ T h2 n hn,h]
  ·show h.elim
 ·show h.elim
def  DH(r:V->List V->Hp->VK->Prop)(to:TE)(t:TA):TE:=fun σ H Q=>to σ H fun x H1=>match x with
 | .str z=>t σ H1 fun xs H2=>r (.str z) xs H2 Q
 | _=>False
def  Dp(r:V->List V->Hp->VK->Prop)(to:TE)(t:TA):TE:=fun σ H Q=>to σ H fun x H1=>match x with
 | .ref l=>(match H1 l with
  | some (.lst _)=>t σ H1 fun xs H2=>r (-l) xs H2 Q
  | _=>False)
 | _=>False
section
variable {T:String}{name:Str}{id:String}{r:V->List V->Hp->VK->Prop}{o e:Expr}{es:List Expr}{to:TE}{t:TA}{apos bc:Pos}
def P8(slot:Slot "str" name id)(cD:typeOf (.builtin id)=pure (.type "method_descriptor"))(hm:cP X id r)(ho:PE X o to)(ha:PA X (e::es) t)(hs:(e::es).all noStar=true:=by rfl)(aS:decide ((e::es).length+([]:List Keyword).length+(if ([]:List Keyword).isEmpty then 0 else 1) < 30)=true:=by rfl)(fb:attributeBase o name X.env (eval o X.env)=eval o X.env:=by rfl)(fe:(apos.endLine == bc.line)=true:=by rfl) :
  PE X (.Call (.Attribute o name apos) (e::es) [] bc) (DH r to t):=by
 have hs':=hs;rw[LE,Fk]at hs';have aQ:starEach (e::es) X.env=(false,eval e X.env)::starEach es X.env:=fv hs'.1;have wa:(backTo bc (starEach es X.env)).any (·.1)=false:=ig hs'.2;have vw:((backTo bc (starEach (e::es) X.env)).all (fun x=>Bool.not x.1) && (backToKw bc (keywordEach [] X.env)).all (fun x=>x.1.isSome)
   && decide ((e::es).length+([]:List Keyword).length+(if ([]:List Keyword).isEmpty then 0 else 1) < 30))=true:=by
  rw[xS hs,aS];rfl
 intro π s σ H Q I h;show _3 fb vw fe rfl (aE (ho π s σ H _ I h) fun v s1 ⟨x,H1,I1,r1,q1⟩=>?_);dsimp only at q1;split at q1
 ·rename_i z;let⟨h1,h2⟩:=Ci (T := "str") I1 r1 rfl;show#["str",id,PySem.F.plainAttrs_str,slot,cD,h1,h2,?_];have hA:=ha bc π s1 σ H1 _ I1 q1;rw[aQ]at hA ⊢;show TD (by change(false || (backTo bc (starEach es X.env)).any (·.1))=false;rw[wa] <;> rfl) (_e ?_);show aE hA fun us s2 ⟨vs,H2,I2,r2,q2⟩=>hm π s2 σ H2 (.str z) vs v us Q I2 r1 r2 q2
 ·show q1.elim
def Z8(slot:Slot "list" name id)(cD:typeOf (.builtin id)=pure (.type "method_descriptor"))(hm:cP X id r)(ho:PE X o to)(ha:PA X (e::es) t)(hs:(e::es).all noStar=true:=by rfl)(aS:decide ((e::es).length+([]:List Keyword).length+(if ([]:List Keyword).isEmpty then 0 else 1) < 30)=true:=by rfl)(fb:attributeBase o name X.env (eval o X.env)=eval o X.env:=by rfl)(fe:(apos.endLine == bc.line)=true:=by rfl) :
  PE X (.Call (.Attribute o name apos) (e::es) [] bc) (Dp r to t):=by
 have hs':=hs;rw[LE,Fk]at hs';have aQ:starEach (e::es) X.env=(false,eval e X.env)::starEach es X.env:=fv hs'.1;have wa:(backTo bc (starEach es X.env)).any (·.1)=false:=ig hs'.2;have vw:((backTo bc (starEach (e::es) X.env)).all (fun x=>Bool.not x.1) && (backToKw bc (keywordEach [] X.env)).all (fun x=>x.1.isSome)
   && decide ((e::es).length+([]:List Keyword).length+(if ([]:List Keyword).isEmpty then 0 else 1) < 30))=true:=by
  rw[xS hs,aS];rfl
 intro π s σ H Q I h;show _3 fb vw fe rfl (aE (ho π s σ H _ I h) fun v s1 ⟨x,H1,I1,r1,q1⟩=>?_);dsimp only at q1;split at q1
 ·rename_i l;split at q1
  ·rename_i zs el;let⟨h1,h2⟩:=Ci (T := "list") I1 r1 (.inl #[rfl,zs,aB.of el]);show#["list",id,PySem.F.plainAttrs_list,slot,cD,h1,h2,?_];have hA:=ha bc π s1 σ H1 _ I1 q1;rw[aQ]at hA ⊢;show TD (by change(false || (backTo bc (starEach es X.env)).any (·.1))=false;rw[wa] <;> rfl) (_e ?_);show aE hA fun us s2 ⟨vs,H2,I2,r2,q2⟩=>hm π s2 σ H2 (-l) vs v us Q I2 r1 r2 q2
  ·show q1.elim
 ·show q1.elim
end
def Sl{CX:eK}{P:Program}{w:World}{K:ν}{mg:Str->Option Value}{base:Heap}{N:List Str}{qual:Str}{scope:Scope}{f:Addr}{cd:Value}{A:Around}{outer:List Env}{s:Shared}{H:Hp}{E:XK} :
  (ij CX P w K mg base N qual scope f cd A outer s H E).K=K:=rfl
def dv{α:Type}(a:α)(l:List α):cR (a::l) 0=!a:=jR (j:=0) rfl
def uX{α:Type}(a b:α)(l:List α):cR (a::b::l) 1=!b:=jR (j:=1) rfl
def Gm{α:Type}(a b c:α)(l:List α):cR (a::b::c::l) 2=!c:=jR (j:=2) rfl
def aaF(n:Nat):gB (n+1) 0=!0:=by
 unfold gB;rw[At ⋯,At ∅];rfl
def Wx(n:Nat):gB (n+3) 2=!2:=by
 unfold gB;rw[At ⋯,At ∅];rfl
def ID{H:Hp}{p b:Addr}{o u:HO}(h:H b=!u)(hp:H p=Option.none):upd H p o b=!u:=by rw[ah (eQ h hp)];show h
def fR:bootBuiltins "isinstance" = !.builtin "isinstance":=by decide +kernel
def F8:bootBuiltins "all" = !.builtin "all":=by decide +kernel
def qK:bootBuiltins "str" = !.type "str":=by decide +kernel
def Wf:bootBuiltins "bool" = !.type "bool":=by decide +kernel
def xR:bootBuiltins "int" = !.type "int":=by decide +kernel
def tq:bootBuiltins "list" = !.type "list":=by decide +kernel
end
abbrev JG(ifs:List Expr)(env:Env):Sem Bool:=forIn ifs true fun c r=>if r=true then do let ok <- isTrue c env (eval c env);pure (ForInStep.yield ok) else pure (ForInStep.yield r)
section
variable {prog:Program}{w:World}{A:Around}{R:Result->Shared->Prop}{s:Shared}
def Sh{elt tg iter:Expr}{ifs:List Expr}{scope:Scope}{pos:Pos}{it acc:Value}{env:Env}(J:Nat->Shared->Prop)(hN:∀ e s',notedBy (model prog w) A env (fun e s'=>R (.error e) s') e s'->True)(turn:∀ n s,J n s->wpAny (model prog w) A (pyNext it) (fun r s1=>match r with
   | none=>R (.ok .next) s1
   | some v=>wpAny (model prog w) A (letOwnedTupleGo tg it v) (fun _ s2=>wpAny (model prog w) A (assign tg env v) (fun _ s3=>wpAny (model prog w) A (JG ifs env)
     (fun ok s4=>if ok=true then wpAny (model prog w) A (eval elt env) (fun x s5=>wpAny (model prog w) A (call (.builtin "list.append") [acc,x]) (fun _ s6=>∃ m,m < n/\J m s6) (fun _ _=>False) s5) (fun _ _=>False) s4
      else ∃ m,m < n/\J m s4) (fun _ _=>False) s3) (fun _ _=>False) s2) (fun _ _=>False) s1) (fun _ _=>False) s)(n:Nat)(h:J n s):codeAny (model prog w) A (.compLoop (.ListComp elt [#[tg,iter,ifs,0]] scope pos) 0 it acc env) R s:=by
 have no:∀ {E:Value->Shared->Prop} (e:Value) (s':Shared),False->E e s':=fun _ _ z=>z.elim;show codeAny_loop rfl J (fun n s hI=>?_) n h;show(show wpAny _ A (Sem.onRaise (compTurn (.ListComp elt [#[tg,iter,ifs,0]] scope pos) 0 it acc env) (fun x=>do noteFrame x env;theTreesLotGoes x)) _ _ s from ?_);show wpAny_noted ?_;rw[compTurn_list];show jp (_S (jp (Re (turn n s hI) (fun r s1 q1=>?_) no)));cases r with
 | none=>show ul q1
 | some v =>
  show jp (Re q1 (fun _ s2 q2=>jp (Re q2 (fun _ s3 q3=>jp (Re q3 (fun ok s4 q4=>?_) no)) no)) no);cases ok with
  | false=>show ul #[rfl,q4]
  | true=>show jp (jp (Re q4 (fun x s5 q5=>jp (Re q5 (fun _ s6 q6=>ul (ul #[rfl,q6])) no)) no))
end
def  rh(X:Cx)(ifs:List Expr)(t:TT):Prop :=
 ∀ (π:List (Addr×Obj)) (s:Shared) (σ:St) (H:Hp) (Q:Bool->Hp->Prop),Inv X π σ H s->t σ H Q->wpAny (model X.prog X.w) X.A (JG ifs X.env) (TP X π σ Q) X.xe s
def  hZ:TT:=fun _ H Q=>Q true H
def Xz{X:Cx}:rh X [] hZ:=fun _ _ _ H _ I h=>wpAny_tests_nil #[H,I,h]
def PZ{X:Cx}{c:Expr}{t:TT}(h:PT X c t):rh X [c] t:=fun π s σ H Q I q=>wpAny_tests_one (h π s σ H Q I q)
def  xb(wi:TI)(tt:TT)(te:TE):TE:=fun σ H Q=>wi σ H fun J H1=>∃ W:Nat->List V->Nat->Hp->Prop,(∃ m,W 0 [] m H1)/\∀ i ys m H,W i ys m H ->
 ys.length<=sizeLine/\((J.stop i H/\∀ l,H l=none->Q (-l) (upd H l (.lst ys))) \/
  (J.go i H/\ys.length < sizeLine/\∀ y H',J.kK i H y H'->tt [!y] H' fun c H2=>if c=true then te [!y] H2 fun z H3=>∃ m',m' < m/\W (i+1) (ys++[z]) m' H3 else ∃ m',m' < m/\W (i+1) ys m' H2))
section
variable {X:Cx}
structure Bz(X:Cx)(π:List (Addr×Obj))(H:Hp)(C:Addr):Prop where
 fr:H C=none
 nl:C≠X.env.locals
 ab:X.s₀.heap.objs.size<=C
 nc:∀ x c,X.env.cells.lookup x=!c->c≠C
 np:∀ p∈X.pn++π,p.1≠C
def Bz.go{π:List (Addr×Obj)}{σ:St}{H:Hp}{s:Shared}{C:Addr}{h':Heap}(o:Bz X π H C)(I:Inv X π σ H s)(hs:Heap.SameBut C s.heap h'):Inv X π σ H { s with heap:=h' } :=
 I.turned (t':=s.toks) (fun b ob hb e=>(hs.2 b hb).trans e) o.fr o.nl (.inr o.ab) o.nc o.np
end
def  d9(st:Addr)(H H':Hp):Prop:=∀ c o,c≠st->H c=!o->H' c=!o
def d9.trans{st:Addr}{H H1 H2:Hp}(a:d9 st H H1)(b:d9 st H1 H2):d9 st H H2:=fun c o n e=>b c o n (a c o n e)
def ag.upd{H:Hp}{p:Addr}{o:HO}(h:H p=Option.none):ag H (upd H p o):=fun b u e=>by rw[ah (eQ e h)];show e
def ag.keep{H H':Hp}(h:ag H H')(st:Addr):d9 st H H':=fun c o _ e=>h c o e
def d9.upd{H:Hp}{p:Addr}{o:HO}:d9 p H (upd H p o):=fun c u n e=>by rw[ah n];show e
def d9.same{H H1 H':Hp}{st:Addr}(a:ag H H1)(h:H st=Option.none)(k:d9 st H1 H'):ag H H':=fun c o e=>k c o (eQ e h) (a c o e)
def  xK:V->Bool
 | .str _=>true
 | _=>false
def  mE(t:TE):TE:=fun σ H Q=>∃ M:VK,t σ H M/\∀ v H1,M v H1->Q v H1
def  mA(t:TA):TA:=fun σ H Q=>∃ M:List V->Hp->Prop,t σ H M/\∀ v H1,M v H1->Q v H1
def PE.m{X:Cx}{e:Expr}{t:TE}(h:PE X e t):PE X e (mE t):=fun π s σ H Q I #[M,h1,h2]=>aE (h π s σ H M I h1) fun _ _ #[v,H1,I1,r,q]=>#[v,H1,I1,r,h2 v H1 q]
def PA.m{X:Cx}{e:List Expr}{t:TA}(h:PA X e t):PA X e (mA t):=fun pos π s σ H Q I #[M,h1,h2]=>aE (h pos π s σ H M I h1) fun _ _ #[v,H1,I1,r,q]=>#[v,H1,I1,r,h2 v H1 q]
def PI.imp{X:Cx}{tg it:Expr}{t t':TI}(h:PI X tg it t)(i:∀ σ H R,t' σ H R->t σ H R):PI X tg it t':=fun π s σ H R I hw=>h π s σ H R I (i σ H R hw)
def  El(ta:TA):TI:=fun σ H R=>ta σ H fun vs H1=>match vs with
 | [.int j]=>((unop% Neg.neg ((2 ^ 62)))<=j/\j < 2 ^ 62)/\R (mF 0 j.toNat) H1
 | _=>False
def V1{X:Cx}{tg a:Expr}{ta:TA}{p pos:Pos}(hg:Gl X "range")(hm:X.mg "range" = none)(ha:PA X [a] ta)(hs:starEach [a] X.env=[(false,eval a X.env)]:=by rfl):PI X tg (.Call (.Name "range" p) [a] [] pos) (El ta) :=
 (aaA hg hm ha.m hs).imp fun σ H R h=>#[_,h,fun vs H1 z=>by
  split at z
  ·show#[_,rfl,z.1.1,z.1.2,z.2]
  ·show z.elim]
def  xq(K:ν)(tl:TE):TI:=fun σ H R=>tl σ H fun x H1=>match x with
 | .ref a=>(∃ xs,aB K H1 a xs)/\R (jq K a) H1
 | _=>False
def TX{X:Cx}{tg l:Expr}{tl:TE}(hl:PE X l tl):PI X tg l (xq X.K tl):=(Vn hl.m).imp fun σ H R h=>#[_,h,fun x H1 z=>by
  split at z
  ·show#[_,rfl,z.1,z.2]
  ·show z.elim]
def  sy(J:It)(g:TG)(tb:TS)(D:Ends)(σ:St)(H1:Hp):Prop:=∃ W:Nat->Nat->St->Hp->Prop,(∃ m,W 0 m σ H1)/\∀ i m σ H,W i m σ H ->
 (J.stop i H/\D.nx σ H)\/(J.go i H/\∃ N:St->Hp->Prop,(∀ σ' H',N σ' H'->∃ m',m' < m/\W (i+1) m' σ' H')/\∀ x H',J.kK i H x H'->g x σ H' fun σ2 H2=>tb { D with nx:=N,ct:=N,bk:=D.nx } σ2 H2)
def Qp{wi:TI}{g:TG}{tb:TS}{D:Ends}{σ:St}{H:Hp}:DB wi g tb D σ H=wi σ H fun J H1=>sy J g tb D σ H1:=rfl
def VW{lo:Int}{n:Nat}{g:TG}{tb:TS}{D:Ends}{σ:St}{H:Hp}(Pv:Nat->St->Hp->Prop)(h0:Pv 0 σ H)(hs:∀ i σ H,i < n->Pv i σ H->g (.int (lo+i)) σ H fun σ2 H2=>tb { D with nx:=Pv (i+1),ct:=Pv (i+1),bk:=D.nx } σ2 H2)(hd:∀ σ H,Pv n σ H->D.nx σ H):sy (mF lo n) g tb D σ H:=Wz Pv h0 hs hd
def qR{K:ν}{a:Addr}{xs:List V}{g:TG}{tb:TS}{D:Ends}{σ:St}{H:Hp}(Pv:Nat->St->Hp->Prop)(h0:Pv 0 σ H)(hl:∀ i σ H,i<=xs.length->Pv i σ H->aB K H a xs)(hs:∀ i x σ H,xs[i]?=!x->Pv i σ H->g x σ H fun σ2 H2=>tb { D with nx:=Pv (i+1),ct:=Pv (i+1),bk:=D.nx } σ2 H2)(hd:∀ σ H,Pv xs.length σ H->D.nx σ H):sy (jq K a) g tb D σ H:=YS Pv h0 hl hs hd
def fits{n:Nat}(h:n<=1000):n<=sizeLine:=_Z (Ih h)
def kb{n:Nat}(h:n<=1000):n < sizeLine:=Ih h
def  lK(t u:TS):TS:=fun D σ H=>∃ P:St->Hp->Prop,t { D with nx:=P } σ H/\∀ σ' H',P σ' H'->u D σ' H'
def OW{X:Cx}{st:Stmt}{rest:List Stmt}{t u:TS}(h1:PS X st t)(h2:eE X rest u):eE X (st::rest) (lK t u):=by
 intro π s σ H D I h;let⟨P,ht,hu⟩:=h;have h1':PS X st (fun D' σ' H'=>D'={ D with nx:=P }/\t D' σ' H'):=h1.imp fun _ _ _ z=>z.2;have h2':eE X rest (fun D' σ' H'=>P σ' H'/\D'=D):=fun π s σ H D' I z=>by
  let⟨z1,rfl⟩:=z;show h2 π s σ H D' I (hu σ H z1)
 show Rv (t:=fun D' σ' H'=>t { D with nx:=P } σ' H'/\D'.rt=D.rt/\D'.bk=D.bk/\D'.ct=D.ct/\∀ σ'' H'',P σ'' H''->D'.nx σ'' H'') (u:=fun D' σ' H'=>P σ' H'/\D'=D) ?_ h2' π s σ H D I #[ht,rfl,rfl,rfl,fun σ'' H'' z=>#[z,rfl]];intro π s σ H D' I z;let⟨z1,z2,z3,z4,z5⟩:=z;show aE (h1 π s σ H { D with nx:=P } I z1) fun f s' hq=>?_;cases f with
 | next=>let⟨σ',H',I',q⟩:=hq;show#[σ',H',I',z5 _ _ q]
 | brk=>let⟨σ',H',I',q⟩:=hq;show#[σ',H',I',by rw[z3];show q]
 | cont=>let⟨σ',H',I',q⟩:=hq;show#[σ',H',I',by rw[z4];show q]
 | ret u=>let⟨v,σ',H',I',r,q⟩:=hq;show#[v,σ',H',I',r,by rw[z2];show q]
def aq{t u:TS}{D:Ends}{σ:St}{H:Hp}(h:t { D with nx:=u D } σ H):lK t u D σ H:=#[u D,h,fun _ _ z=>z]
def hJ{t u:TS}{D:Ends}{σ:St}{H:Hp}(P:St->Hp->Prop)(h1:t { D with nx:=P } σ H)(h2:∀ σ' H',P σ' H'->u D σ' H'):lK t u D σ H:=#[P,h1,h2]
def DN{H:Hp}{x:V}{T:String}(h:clsName H x=!T):uF T "str" = xK x:=by
 unfold clsName at h;split at h
 ·cases h;rfl
 ·cases h;rfl
 ·cases h;rfl
 ·cases h;rfl
 ·split at h
  ·cases h;rfl
  ·cases h;rfl
  ·cases h;rfl
  ·cases h
 ·cases h
def SS(H:Hp)(z:Str):clsName H (.str z)=!"str" := rfl
def RW(H:Hp)(z:Bool):clsName H (.bl z)=!"bool" := rfl
def PQ(H:Hp)(z:Int):clsName H (.int z)=!"int" := rfl
def OJ(H:Hp):clsName H .ao=!"NoneType" := rfl
def yu(n:String)(h:["bool","int","str","list","tuple","dict"].contains n=true):n∈["bool","int","str","list","tuple","dict"]:=by simpa using h
def  yE(K:ν):R2:=fun x y H Q=>match y with
 | .ref p=>∃ xs,(aB K H p xs\/bE K H p xs)/\cE x=true/\xs.all cE=true/\Q (.bl (ik x xs)) H
 | _=>False
def YC{X:Cx}:aZ X (compareOp .In) (yE X.K):=GN.imp fun x y H Q h=>by
 unfold yE at h;split at h
 ·let⟨xs,h1,h2,h3,h4⟩:=h;show#[_,xs,rfl,h1,h2,h3,h4]
 ·show h.elim
section
variable {X:Cx}{K:ν}
def uu(h:X.K=K):aZ X (compareOp .In) (wJ K):=h ▸ Rc
def xl(h:X.K=K):aZ X (compareOp .In) (yE K):=h ▸ YC
def iI(h:X.K=K):cJ X (.builtin "len") (yD K):=h ▸ aax
def JF(h:X.K=K)(hc:X.calm=true):cJ X (.builtin "all") (wF K):=h ▸ Rn hc
def CL(h:X.K=K):cJ X (.type "list") (yw K):=h ▸ SR
def bF(h:X.K=K):fM X (og K):=h ▸ qx
def mC(h:X.K=K):g7 X (xo K):=h ▸ O0
def Jn(h:X.K=K):cP X "str.join" (rJoin K):=h ▸ We
end
def  qr:Sp:=fun vs H Q _=>match vs with
 | [-st,.int b]=>∃ zs:List Int,H st=!.lst (zs.map V.int)/\(zs.length=1\/zs.length=3)/\0 < b/\b < 1073741824 /\
   ∀ (d:Int) (zs':List Int) (H':Hp),0<=d->d < b->zs'.length=3->H' st=!.lst (zs'.map V.int)->d9 st H H'->Q (.int d) H'
 | _=>False
def  qX(J:It)(tt:TT)(te:TE)(Q:VK)(H0:Hp):Prop:=∃ W:Nat->List V->Nat->Hp->Prop,(∃ m,W 0 [] m H0)/\∀ i ys m H,W i ys m H ->
 ys.length<=sizeLine/\((J.stop i H/\∀ l,H l=none->Q (-l) (upd H l (.lst ys))) \/
  (J.go i H/\ys.length < sizeLine/\∀ y H',J.kK i H y H'->tt [!y] H' fun c H2=>if c=true then te [!y] H2 fun z H3=>∃ m',m' < m/\W (i+1) (ys++[z]) m' H3 else ∃ m',m' < m/\W (i+1) ys m' H2))
def Ms{wi:TI}{tt:TT}{te:TE}{σ:St}{H:Hp}{Q:VK}:xb wi tt te σ H Q=wi σ H fun J H1=>qX J tt te Q H1:=rfl
def Ye{z:Str}{te:TE}{H:Hp}{Q:VK}(f:Nat->V)(hz:z.length<=sizeLine)(he:∀ c,c∈z.cps.toList->∀ H1,ag H H1->∀ R:VK,(∀ H2,ag H1 H2->R (f c) H2)->te [!.str #[(List.toArray [c])]] H1 R)(q:∀ H1,ag H H1->∀ l,H1 l=none->Q (-l) (upd H1 l (.lst (z.cps.toList.map f)))):qX (yq z) hZ te Q H:=by
 have hl:z.cps.toList.length=z.length:=by simp[Str.length]
 show#[fun i ys m H1=>ag H H1/\ys=(z.cps.toList.take i).map f/\i<=z.length/\m=z.length - i,#[_,ag.refl H,rfl,wS _,rfl],?_];rintro i ys m H1 ⟨s1,rfl,hi,rfl⟩;have hlen:((z.cps.toList.take i).map f).length=i:=by rw[pi,Tm,hl];omega
 show#[by rw[hlen];omega,?_];by_cases h:i < z.length
 ·show .inr #[h,by rw[hlen];omega,?_];rintro y H' ⟨rfl,c,hc,rfl⟩;have jx:z.cps.toList[i]?=!c:=by simpa using hc
  simp only[hZ,if_true];show he c (Go jx) H' s1 _ fun H2 s2=>#[_,?_,s1.trans s2,?_,h,rfl]
  ·omega
  ·rw[_f,jx,Fa];rfl
 ·have zu:i=z.length:=∅
  show .inl #[_u zu.symm,fun l hl'=>?_];have:=q H1 s1 l hl';rw[Op (by rw[hl];omega)];show this
def BL{K:ν}{a:Addr}{xs:List V}{tt:TT}{te:TE}{H:Hp}{Q:VK}(p:V->Bool)(f:V->V)(FQ:aB K H a xs)(hz:xs.length<=sizeLine)(ht:∀ x,x∈xs->∀ H1,ag H H1->∀ R:Bool->Hp->Prop,(∀ H2,ag H1 H2->R (p x) H2)->tt [!x] H1 R)(he:∀ x,x∈xs->p x=true->∀ H1,ag H H1->∀ R:VK,(∀ H2,ag H1 H2->R (f x) H2)->te [!x] H1 R)(q:∀ H1,ag H H1->∀ l,H1 l=none->Q (-l) (upd H1 l (.lst ((xs.filter p).map f)))):qX (jq K a) tt te Q H:=by
 show#[fun i ys m H1=>ag H H1/\ys=((xs.take i).filter p).map f/\i<=xs.length/\m=xs.length - i,#[_,ag.refl H,rfl,wS _,rfl],?_];rintro i ys m H1 ⟨s1,rfl,hi,rfl⟩;have hlen:(((xs.take i).filter p).map f).length<=i:=by
  rw[pi];show tz (_E _ _) ?_;rw[Tm];omega
 show#[∅,?_];by_cases h:i < xs.length
 ·have hx:xs[i]?=!xs[i]:=sw h;show .inr #[#[xs,xs[i],s1.seq FQ,hx],∅,?_];rintro y H' ⟨rfl,hy⟩;have jy:xs[i]?=!y:=hy xs (s1.seq FQ);have hm:y∈xs:=Go jy;have e1:(xs.take (i+1)).filter p=(xs.take i).filter p++(if p y=true then [y] else []):=by
   rw[_f,jy,List.filter_append];by_cases hp:p y=true
   ·simp[hp]
   ·simp[hp]
  show ht y hm H' s1 _ fun H2 s2=>?_;by_cases hp:p y=true
  ·rw[At hp];show he y hm hp H2 (s1.trans s2) _ fun H3 s3=>#[_,?_,(s1.trans s2).trans s3,?_,h,rfl]
   ·omega
   ·rw[e1,At hp,Fa];rfl
  ·rw[wT hp];show#[_,?_,s1.trans s2,?_,h,rfl]
   ·omega
   ·rw[e1,wT hp,FB]
 ·have zu:i=xs.length:=∅
  show .inl #[#[xs,s1.seq FQ,∅],fun l hl'=>?_];have:=q H1 s1 l hl';rw[Op ∅];show this
structure QE(X:Cx)(e:Expr)(t:TE):Prop where
 h:PE X e t
structure QA(X:Cx)(e:List Expr)(t:TA):Prop where
 h:PA X e t
structure QT(X:Cx)(e:Expr)(t:TT):Prop where
 h:PT X e t
structure QW(X:Cx)(e:Expr)(t:TT):Prop where
 h:PW X e t
structure QS(X:Cx)(e:Stmt)(t:TS):Prop where
 h:PS X e t
structure QB(X:Cx)(e:List Stmt)(t:TS):Prop where
 h:eE X e t
structure QI(X:Cx)(tg it:Expr)(t:TI):Prop where
 h:PI X tg it t
structure QG(X:Cx)(e:Expr)(t:TG):Prop where
 h:PG X e t
structure w6(X:Cx)(e:List Expr)(t:jQ):Prop where
 h:uH X e t
structure qt(X:Cx)(e:List Expr)(t:TT):Prop where
 h:rh X e t
structure QO(X:Cx)(e:Option Expr)(t:TO):Prop where
 h:PO X e t
structure QP(X:Cx)(pos:Pos)(ks:List (Option Expr))(vs:List Expr)(t:List (TE×TE)):Prop where
 h:Vz X pos ks vs t
namespace Dv
section
variable {X:Cx}{a b c:Expr}{ta tb tc:TE}{pos:Pos}{rest:List Expr}{tA tB':TT}
def v(i:Nat){x:Str}{pos:Pos}(hN:X.N[i]?=!x:=by rfl)(hv:tQ X.env.scope x:=by first | show Or.inl rfl | show Or.inr (Or.inl rfl) | show Or.inr (Or.inr rfl))(hd:(x == ("__debug__":Str))=false:=by decide)(dD:(x == ("__classdict__":Str))=false:=by decide):QE X (.Name x pos) (eX i):=#[qv i hN hv hd dD]
def int{i j pos}:QE X (.Constant (.int i) j pos) (tC (.int i)):=#[WL]
def bl{b j pos}:QE X (.Constant (.bool b) j pos) (tC (.bl b)):=#[Yy]
def ao{j pos}:QE X (.Constant .none j pos) (tC .ao):=#[Yg]
def str{x j pos}:QE X (.Constant (.str x) j pos) (tC (.str x)):=#[XG]
def glob{x:Str}(v:V){u:Value}{pos:Pos}(hm:X.mg x=!u)(r:RelV v u)(hg:Gl X x:=by rfl)(hd:(x == ("__debug__":Str))=false:=by decide):QE X (.Name x pos) (tC v):=#[RA hg hm r hd]
def lz{x:Str}(v:V){u:Value}{pos:Pos}(hm:X.mg x=none)(hv:bootBuiltins x=!u)(r:RelV v u)(hg:Gl X x:=by rfl)(hn:x ≠ "__name__" := by decide)(hd:(x == ("__debug__":Str))=false:=by decide):QE X (.Name x pos) (tC v):=#[aa5 hg hm hv r hn hd]
def op{o:Operator}{r:R2}(ho:aZ X (binaryOp o) r)(ha:QE X a ta)(hb:QE X b tb):QE X (.BinOp a o b pos) (iM r ta tb):=#[TL ho ha.h hb.h]
def un{o:UnaryOp}{r:V->Hp->VK->Prop}(ho:uk X (unaryOp o) r)(ha:QE X a ta):QE X (.UnaryOp o a pos) (Bg r ta):=#[VQ ho ha.h]
def cmp{o:CmpOp}{r:R2}(ho:aZ X (compareOp o) r)(ha:QE X a ta)(hb:QE X b tb)(hm:behindInMarks o b=false:=by first | show wD _ ⋯ ⋯ | rfl):QE X (.Compare a [o] [b] pos) (iM r ta tb):=#[Yr ho ha.h hb.h hm]
def BH(ha:QE X a ta)(hb:QE X (.BoolOp .And (b::rest) pos) tb):QE X (.BoolOp .And (a::b::rest) pos) (Ei ta tb):=#[YY ha.h hb.h]
def Vt(ha:QE X a ta)(hb:QE X (.BoolOp .Or (b::rest) pos) tb):QE X (.BoolOp .Or (a::b::rest) pos) (Ak ta tb):=#[UZ ha.h hb.h]
def one{o}{t:TE}(h:QE X a t):QE X (.BoolOp o [a] pos) t:=#[Xb h.h]
def Pb(ha:QE X a ta):QE X (.UnaryOp .Not a pos) (AK ta):=#[VF ha.h]
def ae:QA X [] f9:=#[Xu]
def aa{e:Expr}{es:List Expr}{te:TE}{t:TA}(ha:QE X e te)(hr:QA X es t)(hs:noStar e=true:=by rfl):QA X (e::es) (fP te t):=#[RS ha.h hr.h hs]
def call{CX:eK}{k:Nat}{f:Addr}{fd:FuncData}{ps:List Str}{sp:Sp}{bG:List V}{ds:List Value}{E:XK}{x:Str}{p pos:Pos}{e:Expr}{es:List Expr}{t:TA}(F:aC X.prog X.w X.K X.mg X.base CX k f fd ps sp)(hr:bL k X.A)(hm:X.mg x=!-f)(hk:W.keepIn X.K (-f)=true)(hb:Binds X.K fd ps ds)(hd:Vals bG ds)(hx:Passes CX X E)(ha:QA X (e::es) t)(hg:Gl X x:=by rfl)(hs:(e::es).all noStar=true:=by rfl)(cm:(x == ("__debug__":Str))=false:=by decide):QE X (.Call (.Name x p) (e::es) [] pos) (yy sp bG E t):=#[aa3 F hr hg hm hk hb hd hx ha.h hs cm]
def cA{x:Str}{p pos:Pos}{e:Expr}{es:List Expr}{t:TA}{id:String}{r:List V->Hp->VK->Prop}(hc:cJ X (.builtin id) r)(hm:X.mg x=none)(hv:bootBuiltins x=!.builtin id)(ha:QA X (e::es) t)(hg:Gl X x:=by rfl)(hs:(e::es).all noStar=true:=by rfl)(hn:x ≠ "__name__" := by decide)(cm:(x == ("__debug__":Str))=false:=by decide):QE X (.Call (.Name x p) (e::es) [] pos) (nQ r t):=#[YM hc hg hm hv ha.h hs hn cm]
def mj{x:Str}{p pos:Pos}{e:Expr}{es:List Expr}{t:TA}{T:String}{r:List V->Hp->VK->Prop}(hc:cJ X (.type T) r)(hm:X.mg x=none)(hv:bootBuiltins x=!.type T)(ha:QA X (e::es) t)(hg:Gl X x:=by rfl)(hs:(e::es).all noStar=true:=by rfl)(hn:x ≠ "__name__" := by decide)(cm:(x == ("__debug__":Str))=false:=by decide):QE X (.Call (.Name x p) (e::es) [] pos) (nQ r t):=#[UB hc hg hm hv ha.h hs hn cm]
section
variable {name:Str}{id:String}{r:V->List V->Hp->VK->Prop}{o e:Expr}{es:List Expr}{to:TE}{t:TA}{apos bc:Pos}
def oT(slot:Slot "str" name id)(cD:typeOf (.builtin id)=pure (.type "method_descriptor"))(hm:cP X id r)(ho:QE X o to)(ha:QA X (e::es) t)(hs:(e::es).all noStar=true:=by rfl)(aS:decide ((e::es).length+([]:List Keyword).length+(if ([]:List Keyword).isEmpty then 0 else 1) < 30)=true:=by rfl)(fb:attributeBase o name X.env (eval o X.env)=eval o X.env:=by rfl)(fe:(apos.endLine == bc.line)=true:=by rfl):QE X (.Call (.Attribute o name apos) (e::es) [] bc) (DH r to t):=#[P8 slot cD hm ho.h ha.h hs aS fb fe]
def gf(slot:Slot "list" name id)(cD:typeOf (.builtin id)=pure (.type "method_descriptor"))(hm:cP X id r)(ho:QE X o to)(ha:QA X (e::es) t)(hs:(e::es).all noStar=true:=by rfl)(aS:decide ((e::es).length+([]:List Keyword).length+(if ([]:List Keyword).isEmpty then 0 else 1) < 30)=true:=by rfl)(fb:attributeBase o name X.env (eval o X.env)=eval o X.env:=by rfl)(fe:(apos.endLine == bc.line)=true:=by rfl):QE X (.Call (.Attribute o name apos) (e::es) [] bc) (Dp r to t):=#[Z8 slot cD hm ho.h ha.h hs aS fb fe]
end
def jc:QO X none BQ:=#[Qt]
def jr(h:QE X a ta):QO X (!a) (By ta):=#[Ro h.h]
def slice{r:V->Option Int->Option Int->Hp->VK->Prop}{lo hi:Option Expr}{tl th:TO}{p2:Pos}(hr:g7 X r)(he:QE X a ta)(hl:QO X lo tl)(hu:QO X hi th):QE X (.Subscript a (.Slice lo hi none p2) pos) (C6 r ta tl th):=#[O4 hr he.h hl.h hu.h]
def ix{r:R2}(hr:fM X r)(ha:QE X a ta)(hb:QE X b tb)(hs:JS b:=by intro _ _;rfl):QE X (.Subscript a b pos) (iM r ta tb):=#[PB hr ha.h hb.h hs]
def lst{es:List Expr}{t:TA}(h:QA X es t):QE X (.List es pos) (wZ t):=#[YJ h.h]
def tup{es:List Expr}{x1}{t:TA}(h:QA X es t):QE X (.Tuple es x1 pos) (kQ t):=#[XY h.h]
def la:QE X (.Dict [] [] pos) yi:=#[Wn]
def bf{o:CmpOp}{r:R2}(ho:aZ X (compareOp o) r)(ha:QE X a ta)(hb:QE X b tb)(hm:behindInMarks o b=false:=by first | show wD _ ⋯ ⋯ | rfl):QT X (.Compare a [o] [b] pos) (mO (iM r ta tb)):=#[Zj ho ha.h hb.h hm]
def BK{o o':CmpOp}{f g:Int->Int->Bool}(ho:aZ X (compareOp o) (jZ f))(ho':aZ X (compareOp o') (jZ g))(ha:QE X a ta)(hb:QE X b tb)(hc:QE X c tc)(hm:lastMarks [o,o'] [b,c]=false:=by with_unfolding_all rfl):QT X (.Compare a [o,o'] [b,c] pos) (C7 f g ta tb tc):=#[V2 ho ho' ha.h hb.h hc.h hm]
def cK{t:TE}(h:QE X a t)(he:∀ whole,isTrue a X.env whole=(do let v <- whole;standAt a.pos;holding [v] (truthy v)):=by intro _;rfl):QT X a (mO t):=#[abe h.h he]
def da(ha:QT X a tA):QT X (.UnaryOp .Not a pos) (Ct tA):=#[Tr ha.h]
def dZ(h:QW X a tA):QT X a tA:=#[h.h.pt]
def ka(ha:QT X a tA):QW X (.BoolOp .And [a] pos) tA:=#[Rp ha.h]
def iN(ha:QT X a tA):QW X (.BoolOp .Or [a] pos) tA:=#[P4 ha.h]
def w_and(ha:QT X a tA)(hb:QW X (.BoolOp .And (b::rest) pos) tB'):QW X (.BoolOp .And (a::b::rest) pos) (Dc tA tB'):=#[U6 ha.h hb.h]
def w_or(ha:QT X a tA)(hb:QW X (.BoolOp .Or (b::rest) pos) tB'):QW X (.BoolOp .Or (a::b::rest) pos) (BS tA tB'):=#[ZO ha.h hb.h]
variable {st:Stmt}{Od:List Stmt}{t u:TS}{tg:Expr}{g:TG}
def dm(i:Nat){x:Str}(hN:X.N.Nodup)(hi:X.N[i]?=!x:=by rfl)(hx:Loc X.env.scope x:=by first | show Or.inl rfl | show Or.inr rfl)(hf:X.fn x=true\/X.env.scope.names.lookup x=!.local:=by first | show .inl rfl | show .inr rfl):QG X (.Name x pos) (fi i):=#[Sb hN hi hx hf]
def Ie{o i:Expr}{to ti:TE}{s:uw}(ho:QE X o to)(hi:QE X i ti)(hs:yG X s)(ha:∀ v,assign (.Subscript o i pos) X.env v=(do
   let ov <- holding [v] (eval o X.env)
   let iv <- holding [v,ov] (eval i X.env)
   standAt pos
   holding [v,ov,iv] (setItem ov iv v)
   release [v,ov,iv] []):=by intro _;rfl):QG X (.Subscript o i pos) (DU to ti s):=#[UI ho.h hi.h hs ha]
def pR:w6 X [] BC:=#[aaU]
def iR{e:Expr}{es:List Expr}{t:TG}{u:jQ}(h1:QG X e t)(h2:w6 X es u)(hs:(assignEach (e::es) X.env).map (·.2)=assign e X.env::(assignEach es X.env).map (·.2):=by rfl):w6 X (e::es) (C0 t u):=#[Py h1.h h2.h hs]
def qS{K:ν}{es:List Expr}{k:Nat}{t:jQ}{n:Nat}(hK:X.K=K)(hc:X.calm=true)(h:w6 X es t)(hn:(assignEach es X.env).length=n:=by rfl)(aQ:(assignEach es X.env).findIdx? (·.1)=none:=by rfl):QG X (.Tuple es k pos) (xM K n t):=hK ▸ #[RI hc h.h hn aQ]
def aR(i:Nat){x:Str}{e:Expr}{te:TE}{pos':Pos}(hN:X.N.Nodup)(he:QE X e te)(hi:X.N[i]?=!x:=by rfl)(hx:Loc X.env.scope x:=by first | show Or.inl rfl | show Or.inr rfl)(hs:swapsWith e (!.Name x pos') pos.line X.env=pure false:=by rfl)(hf:X.fn x=true\/X.env.scope.names.lookup x=!.local:=by first | show .inl rfl | show .inr rfl):QS X (.Assign [.Name x pos'] e pos) (jU te (fi i)):=#[Uy hN hi hx he.h hs hf]
def qu{e:Expr}{te:TE}(he:QE X e te)(hg:QG X tg g)(hs:swapsWithSole [tg] e pos.line X.env=pure false:=by rfl)(hw:swappedStores [tg] e X.env=pure none:=by rfl)(h1:(assignEach [tg] X.env).map (·.2)=[assign tg X.env]:=by rfl) :
  QS X (.Assign [tg] e pos) (jU te g):=#[Su he.h hg.h hs hw h1]
def aN(he:QE X a ta):QS X (.Return (!a) pos) (DT ta):=#[UY he.h]
def LO:QS X (.Return none pos) C2:=#[Xa]
def bj(he:QE X a ta)(hs:swapsWith a none pos.line X.env=pure false:=by rfl):QS X (.Expr a pos) (B2 ta):=#[RM he.h hs]
def aX{A B:List Stmt}(hc:QT X a tA)(ha:QB X A t)(hb:QB X B u):QS X (.If a A B pos) (tK tA t u):=#[UM hc.h ha.h hb.h]
def ly{iter:Expr}{body:List Stmt}{wi:TI}{tb:TS}(hp:PassesOwn (model X.prog X.w) X.A X.env X.xe)(hc:X.calm=true)(hi:QI X tg iter wi)(hg:QG X tg g)(hb:QB X body tb)(hs:∀ x,foldedSetIterable iter X.env x=pure x:=by intro _;rfl) :
  QS X (.For tg iter body [] pos) (DB wi g tb):=#[RY hp hc hi.h hg.h hb.h hs]
def nil:QB X [] Ce:=#[aav]
def aj(h1:QS X st t):QB X [st] t:=#[QC h1.h]
def  cut(h1:QS X st t)(h2:QB X Od u):QB X (st::Od) (lK t u):=#[OW h1.h h2.h]
def iJ{K:ν}{l:Expr}{tl:TE}(h:X.K=K)(hl:QE X l tl):QI X tg l (xq K tl):=h ▸ #[TX hl.h]
def XB{l:Expr}{tl:TE}(hl:QE X l tl):QI X tg l (Ah tl):=#[Yv hl.h]
def Qx{ta:TA}{p:Pos}(hm:X.mg "range" = none)(ha:QA X [a] ta)(hg:Gl X "range" := by rfl)(hs:noStar a=true:=by rfl):QI X tg (.Call (.Name "range" p) [a] [] pos) (El ta):=#[V1 hg hm ha.h (fv hs)]
def ux:qt X [] hZ:=#[Xz]
def Ju(h:QT X c tA):qt X [c] tA:=#[PZ h.h]
end
end Dv
end L2
namespace Tx
open PySem PySem.Builtin PySem.StrLaws
def Ac{c a:Nat}(h:a=c)(r:List Nat):cut c (a::r)=[]::cut c r:=if_pos h
def Lp{c a:Nat}{r:List Nat}{x:List Nat}{y:List (List Nat)}(h:¬ a=c)(e:cut c r=x::y):cut c (a::r)=(a::x)::y:=by
 change(if a=c then _ else _)=_;rw[if_neg h,e]
def GL(c:Nat):∀ (t r:List Nat),cut c (t++c::r)=cut c t++cut c r
 | [],r=>Ac rfl r
 | a::t,r=>by
  have ih:=GL c t r;change cut c (a::(t++c::r))=_;by_cases h:a=c
  ·rw[Ac h,Ac h,ih];rfl
  ·cases e:cut c t with
   | nil=>show absurd e (T7 c t)
   | cons x y =>
    rw[e]at ih;rw[Lp h ih,Lp h e];rfl
def  words(c:Nat)(t:List Nat):List (List Nat):=(cut c t).filter fun w=>decide (w≠[])
def qC(c:Nat)(t r:List Nat):words c (t++c::r)=words c t++words c r:=by
 unfold words;rw[GL,List.filter_append]
def Ku(c:Nat)(r:List Nat):words c (c::r)=words c r:=qC c [] r
def GR(c:Nat):∀ w:List Nat,c ∉ w->cut c w=[w]
 | [],_=>rfl
 | a::r,h=>by
  unfold cut;rw[if_neg (fun e=>h (by rw[e];show List.mem_cons_self)),GR c r (fun m=>h (List.mem_cons_of_mem _ m))]
def AH(c:Nat)(w:List Nat)(h:c ∉ w)(hn:w≠[]):words c w=[w]:=by
 unfold words;rw[GR c w h];simp[hn]
def uc(c:Nat):∀ t:List Nat,(cut c t).length<=t.length+1
 | []=>Nat.le_refl _
 | a::r=>by
  have ih:=uc c r;unfold cut;split
  ·simp only[List.length_cons];omega
  ·split
   ·simp
   ·rename_i h t' e;rw[e]at ih;simp only[List.length_cons]at ih ⊢;omega
def GD(t:List Nat)(c:Nat):((cut c t).map S).filter (fun z=>decide (z≠S []))=(words c t).map S:=by
 unfold words;rw[List.filter_map]
 congr 1
 show List.filter_congr fun w _=>?_;change decide (S w≠S [])=decide (w≠[]);by_cases h:w=[]
 ·simp[h]
 ·have:S w≠S []:=fun e=>h (ic e);simp[h,this]
def Tz(x:List Nat)(c:Nat):Txt.startswith (S x) (S [c])=decide (x.head?=!c):=by
 unfold Txt.startswith;rw[c9,c9];cases x with
 | nil=>simp
 | cons a r =>
  rw[subAt_one (a::r) c 0 ()];simp
def Zt(x:List Nat)(c:Nat):Txt.endswith (S x) (S [c])=decide (x.getLast?=!c):=by
 unfold Txt.endswith;rw[c9,c9];cases hx:x with
 | nil=>simp
 | cons a r =>
  have hl:(a::r).length - [c].length < (a::r).length:=()
  rw[subAt_one (a::r) c _ hl];have e:(a::r)[(a::r).length - [c].length]?=(a::r).getLast?:=by
   rw[List.getLast?_eq_getElem?];rfl
  rw[e];have:decide (0+[c].length<=(a::r).length)=true:=decide_eq_true ();rw[this,Bool.true_and]
end Tx
namespace L2
open PySem PySem.Spec PyProof.Rows
def Jv{A:Around}{s:Shared}{l1 l2:List (Str×Tok)}(j:Nat)(h1:j < (strValues l1).toArray.size)(h2:j < (strValues l2).toArray.size) :
  SeqAt.EqAt A s (strValues l1).toArray[j] (strValues l2).toArray[j] (decide ((l1.map (·.1))[j]?=(l2.map (·.1))[j]?)):=by
 have g1:j < l1.length:=by simpa [strValues] using h1
 have g2:j < l2.length:=by simpa [strValues] using h2
 have e1:(strValues l1).toArray[j]=Value.str l1[j].1 l1[j].2:=by simp[strValues]
 have e2:(strValues l2).toArray[j]=Value.str l2[j].1 l2[j].2:=by simp[strValues]
 rw[e1,e2];have e:decide ((l1.map (·.1))[j]?=(l2.map (·.1))[j]?)=(l1[j].1 == l2[j].1):=by
  rw[Da,Da,sw g1,sw g2];by_cases q:l1[j].1=l2[j].1
  ·simp[q]
  ·simp[q]
 rw[e];show SeqAt.EqAt.str_str _ _ _ _
def all_eq{α:Type}[DecidableEq α]{xs ys:List α}(h:xs.length=ys.length):(List.range xs.length).all (fun j=>decide (xs[j]?=ys[j]?))=decide (xs=ys):=by
 rw[_b,Ix,_g];constructor
 ·intro q;apply List.ext_getElem?;intro i;by_cases hi:i < xs.length
  ·show _h (q i (_Y.mpr hi))
  ·rw[_F ∅,_F ∅]
 ·rintro rfl j _;simp
section
variable {X:Cx}
def GI{π:List (Addr×Obj)}{σ:St}{H:Hp}{s:Shared}{A:Around}{a b:Addr}{ts us:List Str}(I:Inv X π σ H s)(ha:H a=!.lst (ts.map V.str))(hb:H b=!.lst (us.map V.str))(hu:A.units < cLine) :
  SeqAt.RcAt A s (-a) (-b) (decide (ts=us))/\SeqAt.RcNeAt A s (-a) (-b) (Bool.not (decide (ts=us))):=by
 let⟨i1,r1,p1,_⟩:=I.list (aB.of ha);let⟨i2,r2,p2,_⟩:=I.list (aB.of hb);let⟨l1,rfl,e1⟩:=xg r1;let⟨l2,rfl,e2⟩:=xg r2;have n1:(strValues l1).toArray.size=ts.length:=by rw[<- e1];simp[strValues]
 have n2:(strValues l2).toArray.size=us.length:=by rw[<- e2];simp[strValues]
 by_cases h:ts.length=us.length
 ·have hsz:(strValues l1).toArray.size=(strValues l2).toArray.size:=by rw[n1,n2,h]
  have k1:=SeqAt.RcAt.lists (A:=A) p1.isList p2.isList hsz hu (fun j g1 g2=>Jv j g1 g2);have k2:=Jan (A:=A) p1.isList p2.isList hsz hu (fun j g1 g2=>Jv j g1 g2);rw[n1,e1,e2,all_eq h]at k1 k2;show#[k1,k2]
 ·have hsz:((strValues l1).toArray.size != (strValues l2).toArray.size)=true:=by rw[n1,n2];simpa using h
  have e:decide (ts=us)=false:=kt fun z=>h (by rw[z]);rw[e];show#[SeqAt.RcAt.lists_lengths p1.isList p2.isList hsz hu,SeqAt.RcNeAt.lists_lengths p1.isList p2.isList hsz hu]
def  qa(neg:Bool):R2:=fun x y H Q=>match x,y with
 | .ref a,-b=>∃ ts us:List Str,H a=!.lst (ts.map V.str)/\H b=!.lst (us.map V.str)/\Q (.bl (neg ^^ decide (ts=us))) H
 | _,_=>False
def Zs(hu:X.A.units < cLine):aZ X (compareOp .Eq) (qa false):=by
 intro π s σ H x y v u Q I rx ry h;unfold qa at h;split at h
 ·let⟨ts,us,ha,hb,q⟩:=h;cases rx;cases ry;simp only[Bool.false_bne]at q;show(GI I ha hb hu).1 _ _ _ _ #[.bl _,H,I,rfl,q]
 ·show h.elim
def QM(hu:X.A.units < cLine):aZ X (compareOp .NotEq) (qa true):=by
 intro π s σ H x y v u Q I rx ry h;unfold qa at h;split at h
 ·let⟨ts,us,ha,hb,q⟩:=h;cases rx;cases ry;simp only[Bool.true_bne]at q;show(GI I ha hb hu).2 _ _ _ _ #[.bl _,H,I,rfl,q]
 ·show h.elim
def Dv.gp{st:Stmt}:QS X st zy:=#[Z7]
end
def  Eb:V->Hp->VK->Prop:=fun x H Q=>match x with
 | .int i=>Q (.int ((unop% Neg.neg (i)))) H
 | _=>False
def jJ{X:Cx}:uk X (unaryOp .USub) Eb:=fun π s σ H x v Q I rx h=>XM π s σ H x v Q I rx (by
 unfold Eb at h;split at h
 ·show#[_,rfl,h]
 ·show h.elim)
def Uh(r:List V)(x:V):gm (r++[x]) Option.none (!((unop% Neg.neg (1))))=r:=by
 unfold gm;have e1:HT.bg (r++[x]).length (r++[x]).length (!((unop% Neg.neg (1))))=r.length:=by
  unfold HT.bg;simp;omega
 rw[HT.AO,e1];simp
section
variable {X:Cx}{K:ν}
def  Cg(K:ν):List V->Hp->VK->Prop:=fun xs H Q=>match xs with
 | [-p]=>∃ ys,aB K H p ys/\Q (.int ys.length) H
 | _=>False
def Pm(h:X.K=K):cJ X (.builtin "len") (Cg K):=h ▸ HE.imp fun xs H Q h=>by
 unfold Cg at h;split at h
 ·let⟨ys,h1,h2⟩:=h;show#[_,_,rfl,.inl #[ys,h1,rfl],h2]
 ·show h.elim
def  BA(K:ν):R2:=fun x y H Q=>match x,y with
 | .ref p,.int i=>∃ xs v,aB K H p xs/\cR xs i=!v/\Q v H
 | _,_=>False
def Z6(h:X.K=K):fM X (BA K):=h ▸ Hc.imp fun x y H Q h=>by
 unfold BA at h;split at h
 ·let⟨xs,v,h1,h2,h3⟩:=h;show#[_,xs,_,v,rfl,rfl,h1,h2,h3]
 ·show h.elim
end
end L2
namespace L2
open PySem
open Sem (wp)
def  ed(e:Addr)(c:Value)(od:Option Addr)(h:Heap):Prop:=∃ o,h.get? e=!o/\o.cls=c/\o.dict=od/\∃ vs,o.data=.fields vs
structure Kp(e:Addr)(c:Value)(od:Option Addr){α:Type}(t:Sem α):Prop where
 out:∀ (M:Model) (Γ:Ctx) (P:α->Pos->Shared->Prop) (Ee:Value->Pos->Shared->Prop) (p:Pos) (s:Shared),ed e c od s.heap->wp M Γ t P Ee p s->wp M Γ t (fun a p' s'=>P a p' s'/\ed e c od s'.heap) Ee p s
section
variable {e:Addr}{c:Value}{od:Option Addr}{α β:Type}
def Kp.pure(a:α):Kp e c od (Pure.pure a:Sem α):=#[fun _ _ _ _ _ _ hd h=>#[h,hd]]
def Kp.unsupported(w:String):Kp e c od (PySem.unsupported w:Sem α):=#[fun _ _ _ _ _ _ _ h=>h]
def Kp.bind{m:Sem α}{f:α->Sem β}(hm:Kp e c od m)(hf:∀ a,Kp e c od (f a)):Kp e c od (m >>= f):=#[fun M Γ P Ee p s hd h=>by
 rw[Sem.wp_bind']at h ⊢;show Sem.wp_mono M Γ m (fun a p' s' h'=>(hf a).out M Γ P Ee p' s' h'.2 h'.1) (fun _ _ _ x=>x) p s (hm.out M Γ _ Ee p s hd h)]
def Kp.ite{q:Prop}[Decidable q]{t u:Sem α}(ht:Kp e c od t)(hu:Kp e c od u):Kp e c od (if q then t else u):=by split <;> assumption
def Kp.load(a:Addr):Kp e c od (PySem.load a):=#[fun _ _ _ _ _ _ hd h=>let ⟨o,ho,z⟩:=h;#[o,ho,z,hd]]
def Kp.stack:Kp e c od PySem.stack:=#[fun M Γ P Ee p s hd h=>by
 unfold PySem.stack at h ⊢;rw[Sem.wp_stack]at h ⊢;show#[h,hd]]
def ed.push{h:Heap}(x:ed e c od h)(o:Obj):ed e c od (h.push o):=let ⟨u,hu,r⟩:=x;#[u,li _ hu,r]
def ed.update{h:Heap}(x:ed e c od h)(a:Addr)(f:Obj->Obj)(hf:∀ o,(f o).cls=o.cls/\(f o).dict=o.dict/\∀ vs,o.data=.fields vs->∃ ws,(f o).data=.fields ws):ed e c od (h.update a f):=by
 let⟨u,hu,h1,h2,vs,h3⟩:=x;by_cases q:a=e
 ·subst q;let⟨ws,h4⟩:=(hf u).2.2 vs h3;show#[f u,UF f hu (Obj.isFreed_of_fields h4),(hf u).1.trans h1,(hf u).2.1.trans h2,ws,h4]
 ·show#[u,(IO _ _ q).trans hu,h1,h2,vs,h3]
def Kp.update(a:Addr)(f:Obj->Obj)(hf:∀ o,(f o).cls=o.cls/\(f o).dict=o.dict/\∀ vs,o.data=.fields vs->∃ ws,(f o).data=.fields ws):Kp e c od (PySem.update a f) :=
 #[fun _ _ _ _ _ _ hd h=>#[h.1,h.2,hd.update a f hf]]
def Yd(g:Array Value->Array Value)(o:Obj):(Obj.mapFields g o).cls=o.cls/\(Obj.mapFields g o).dict=o.dict/\∀ vs,o.data=.fields vs->∃ ws,(Obj.mapFields g o).data=.fields ws:=by
 let⟨c1,d1,dt,sl⟩:=o;show#[Obj.cls_mapFields _ _,?_,fun vs h=>#[_,Jao h g]];cases dt <;> rfl
def Kp.alloc(o:Obj):Kp e c od (PySem.alloc o):=#[fun _ _ _ _ _ _ hd h=>#[h,hd.push o]]
def Kp.field(v:Value)(i:Nat):Kp e c od (PySem.field v i):=#[fun _ Γ _ _ _ _ hd h=>by
 rw[wp_field_iff]at h ⊢;let⟨a,o,vs,x,h1,h2,h3,h4,h5⟩:=h;show#[a,o,vs,x,h1,h2,h3,h4,h5,hd]]
def Kp.setField(v:Value)(i:Nat)(x:Value):Kp e c od (PySem.setField v i x):=#[fun _ Γ _ _ _ _ hd h=>by
 rw[wp_setField_iff]at h ⊢;let⟨a,o,vs,h1,h2,h3,h4,h5⟩:=h;show#[a,o,vs,h1,h2,h3,h4,h5,hd.update a _ (Yd _)]]
local macro_rules | `(tactic| walk_at "kps")=>`(tactic| repeat' with_reducible first | assumption | exact Kp.pure _ | exact Kp.unsupported _ | exact Kp.field _ _ | exact Kp.setField _ _ _ | exact Kp.load _ | exact Kp.stack | exact Kp.alloc _ | apply Kp.ite | apply Kp.bind | intro _ | split)
def Kp.newFields(ty:String)(vs:List Value):Kp e c od (PySem.newFields ty vs):=by
 unfold PySem.newFields newObj newObjAsIs;walk_at "kps"
def Kp.frameEnvs:Kp e c od PySem.frameEnvs:=by
 unfold PySem.frameEnvs;walk_at "kps"
def Kp.isImport(env:Env)(outer:List Env):Kp e c od (behindIsImport env outer):=by
 unfold behindIsImport;walk_at "kps"
def Kp.caller:Kp e c od underTheClaimsCaller:=by
 unfold underTheClaimsCaller;walk_at "kps"
def Kp.keptBack(env:Env)(i:Bool)(l:List Env):Kp e c od (PySem.keptBack env i l):=by
 have:=Kp.caller (e:=e) (c:=c) (od:=od);cases l <;> unfold PySem.keptBack <;> walk_at "kps"
def Kp.ready:∀ l:List Env,Kp e c od (readyFrames l)
 | []=>Kp.pure _
 | env::outer=>by
  have ih:=Kp.ready outer;have h1:=Kp.isImport (e:=e) (c:=c) (od:=od) env outer;have h2:=fun i=>Kp.keptBack (e:=e) (c:=c) (od:=od) env i outer;unfold readyFrames;walk_at "kps"
  all_goals first | show h2 _ | show Kp.update _ _ (fun o=>#[rfl,rfl,fun vs h=>#[vs,h]]) | skip
def Kp.frameObject(l:List Env):Kp e c od (PySem.frameObject l):=by
 cases l with
 | nil=>show Kp.pure _
 | cons env outer =>
  have:=Kp.ready (e:=e) (c:=c) (od:=od) (env::outer);unfold PySem.frameObject;walk_at "kps"
def Kp.frameOf(env:Env):Kp e c od (PySem.frameOf env):=by
 have h1:=Kp.frameEnvs (e:=e) (c:=c) (od:=od);have h2:=Kp.frameObject (e:=e) (c:=c) (od:=od);unfold PySem.frameOf;walk_at "kps"
 all_goals first | show h2 _ | skip
def Kp.place(f:Addr)(b:Bool):Kp e c od (entryPlaceOf f b):=by
 unfold entryPlaceOf;walk_at "kps"
def Kp.setFlight(v:Value)(fr:Option Addr):Kp e c od (PySem.setFlight v fr):=by
 unfold PySem.setFlight;walk_at "kps"
def Kp.noteFrame(v:Value)(env:Env):Kp e c od (PySem.noteFrame v env):=by
 have h1:=Kp.frameOf (e:=e) (c:=c) (od:=od) env;have h2:=fun f b=>Kp.place (e:=e) (c:=c) (od:=od) f b;unfold PySem.noteFrame EntryCells.newEntry;walk_at "kps"
 all_goals first | show h2 _ _ | show Kp.newFields _ _ | skip
def Kp.leaving(env:Env)(v:Value):Kp e c od (PySem.leaving env v):=by
 have h1:=Kp.noteFrame (e:=e) (c:=c) (od:=od) v env;have h2:=Kp.setFlight (e:=e) (c:=c) (od:=od) v none;unfold PySem.leaving;walk_at "kps"
def Kp.any{t:Sem α}(k:Kp e c od t){M:Model}{A:Around}{Q:α->Shared->Prop}{E:Value->Shared->Prop}{s:Shared}(hd:ed e c od s.heap)(h:wpAny M A t Q E s):wpAny M A t (fun a s'=>Q a s'/\ed e c od s'.heap) E s :=
 fun Γ p hΓ=>k.out M Γ _ _ p s hd (h Γ p hΓ)
end
end L2
namespace L2
def D3(xs:List V)(k:Nat):gm xs none (!(k:Int))=xs.take k:=by
 unfold gm;rw[HT.AO,HT.CB,List.drop_zero,Nat.sub_zero];by_cases h:k<=xs.length
 ·rw[Nat.min_eq_left h]
 ·rw[Nat.min_eq_right ∅,Op (lm _),Op ∅]
def yt(xs:List V)(k:Nat):gm xs (!(k:Int)) none=xs.drop k:=by
 unfold gm;rw[HT.AO,HT.CB];by_cases h:k<=xs.length
 ·rw[Nat.min_eq_left h,Op (by rw[List.length_drop];show lm _)]
 ·rw[Nat.min_eq_right ∅,List.drop_eq_nil_of_le (lm _),List.drop_eq_nil_of_le ∅];simp
end L2
namespace L2
open PySem PySem.Spec PyProof.Rows
def cg.there{P:Program}{w:World}{H:Hp}{h:Heap}{a:Addr}{o:HO}(x:cg P w H h a o):∃ u,h.get? a=!u:=by
 cases o with
 | lst xs=>let⟨_,_,_,_,e⟩:=x;show#[_,e]
 | tup xs=>let⟨_,_,_,u,e,_⟩:=x;show#[_,e]
 | dK kvs=>let⟨_,_,_,_,o,_,_,e,_⟩:=x;show#[_,e]
 | dT kvs=>let⟨_,_,_,_,o,_,_,e,_⟩:=x;show#[_,e]
 | set S n=>let⟨o,_,_,_,e,_⟩:=x;show#[_,e]
 | ins C dx fs=>let⟨_,_,_,e,_⟩:=x;show#[_,e]
 | own y=>show x
 | xd fs=>let⟨_,⟨_,_,_,e,_⟩,_⟩:=x;show#[_,e]
 | yF lo hi=>let⟨_,_,_,e⟩:=x;show#[_,e]
 | bX ob u=>let⟨e,_⟩:=x;show#[_,e]
 | mG ps=>show#[_,(show h.get? a=some _ from x)]
 | met f y=>show#[_,(show h.get? a=some _ from x)]
 | ext φ=>let⟨_,e,_⟩:=x;show e
def  uY(B:Heap)(fs:List Addr)(h:Heap)(H':Hp)(h':Heap):Prop :=
 ∀ b o,h'.get? b=!o->b ∉ fs->((∃ u,h.get? b=!u)\/∃ u,H' b=!u)->B.get? b=!o
def Q8{P:Program}{w:World}{fs:List Addr}{H H':Hp}{h h1 h2 B:Heap}(u:Un fs [] H H' h h1)(aA:cy P w H' h1)(hf:∀ b∈fs,H b=none/\∃ o,h.get? b=!o/\∀ vs,o.data≠.fields vs)(iu:uY B fs h H' h1)(st:B.StaysIn h2)(up:h1.UpToSlots h2):Un fs [] H H' h h2/\cy P w H' h2:=by
 have kB:∀ b o,h1.get? b=!o->b ∉ fs->((∃ u,h.get? b=!u)\/∃ u,H' b=!u)->h2.get? b=!o:=fun b o e hb z=>st b o (iu b o e hb z);have fr:∀ b∈fs,∀ o,h.get? b=!o->∃ sl,h2.get? b=!{ o with slots:=sl }:=fun b hb o e=>by
  let⟨n,o',e',nf⟩:=hf b hb;rw[e]at e';cases e';let⟨sl,e1⟩:=u.slot b o e n hb ();let⟨sl',e2⟩:=up b _ e1 nf;show#[sl',e2]
 show#[#[fun b o q n hb hx=>kB b o (u.keep b o q n hb hx) hb (.inl #[o,q]),fun b o q n hb hx=>fr b hb o q,u.free,fun b o q hx=>?_,u.gD,u.gv,u.gM],fun a v e=>?_]
 ·by_cases hb:b∈fs
  ·let⟨sl,e⟩:=fr b hb o q;show#[_,e]
  ·let⟨o',e1⟩:=u.there b o q hx;show#[o',kB b o' e1 hb (.inl #[o,q])]
 ·have tr:∀ b,(∃ u,H' b=!u)->b ∉ fs:=fun b #[v',e'] hb=>by
   let⟨n,o,ho,_⟩:=hf b hb;have:=u.free b o ho n ();rw[e']at this;cases this
  show(aA a v e).gL (fun b x hb q=>?_) (fun _ q=>q) fun _ _ q=>q;have hs:∃ u,H' b=!u:=by
   rcases hb with rfl | hb
   ·show#[v,e]
   ·show#[_,hb]
  show kB b x q (tr b hs) (.inr hs)
structure oi(P:Program)(w:World)(outer:List Env)(H:Hp)(s:Shared)(ea C:Addr)(od:Option Addr)(H':Hp)(s':Shared):Prop where
 os:s'.os=s.os
 bare:AllBare s'.gens
 un:Un (cb outer) [] H H' s.heap s'.heap
 aA:cy P w H' s'.heap
 free:H' ea=none
 new:s.heap.get? ea=none
 hd:ed ea (-C) od s'.heap
 fly:∃ B a0,Heap.FlyingW B outer ea (-C) a0 s'.heap/\uY B (cb outer) s.heap H' s'.heap
def  dh(P:Program)(w:World):eK:=fun outer H s E e s'=>∃ ea C od H',e=-ea/\oi P w outer H s ea C od H' s'/\E (-C) od H'
section
variable {X:Cx}{π:List (Addr×Obj)}{σ:St}{H H':Hp}{s s':Shared}{ea C:Addr}{od:Option Addr}
def Inv.Vu(I:Inv X π σ H s):∀ b∈cb X.stack,H b=none/\∃ o,s.heap.get? b=!o/\∀ vs,o.data≠.fields vs:=fun b hb=>#[I.wM b hb,(I.stack.mem hb).2]
structure Own(X:Cx):Prop where
 eP:X.stack=X.env::X.outer
 frame:X.env.frame=!X.env.locals
 ex:X.ex=[]
def Inv.CI{h1 B:Heap}{a0:Value}(I:Inv X π σ H s)(O:Own X)(os:s'.os=s.os)(bare:AllBare s'.gens)(un:Un (cb X.stack) [] H H' s.heap h1)(aA:cy X.prog X.w H' h1)(free:H' ea=none)(new:s.heap.get? ea=none)(iu:uY B (cb X.stack) s.heap H' h1)(fl:Heap.FlyingW B X.outer ea (-C) a0 s'.heap)(up:h1.UpToSlots s'.heap)(hd:ed ea (-C) od s'.heap):oi X.prog X.w X.outer X.H₀ X.s₀ ea C od H' s':=by
 let⟨u2,hok2⟩:=Q8 un aA I.Vu iu fl.1 up;have Fd:cb X.stack=X.env.locals::X.fs:=by
  rw[O.eP];unfold cb;rw[_l,O.frame];rfl
 have wb:∀ b o,X.s₀.heap.get? b=!o->b≠X.env.locals:=fun b o e=>zn (ww (wf e) I.ok.above);have nx:∀ b:Addr,b ∉ X.ex:=fun b=>by rw[O.ex];simp
 have jD:∀ b o,X.s₀.heap.get? b=!o->b ∉ X.fs->b ∉ cb X.stack:=fun b o e hb z=>by
  rw[Fd]at z;rcases lv.mp z with q | q
  ·show wb b o e q
  ·show hb q
 have Lfree:H' X.env.locals=none:=by
  let⟨m,⟨o,_,_,ho,_⟩,_⟩:=I.loc;show un.free _ o ho I.free ()
 show#[os.trans I.os,bare,#[fun b o q n hb _=>?_,fun b o q n hb _=>?_,fun b o q n _=>?_,fun b o q _=>?_,fun b xs q=>?_,fun b o v q=>?_,fun b ps q=>?_],hok2,free,?_,hd,B,a0,fl,fun b o e hb z=>?_]
 ·show u2.keep b o (I.base.keep b o q n hb (nx b)) (I.base.free b o q n (nx b)) (jD b o q hb) ()
 ·let⟨sl,e1⟩:=I.base.slot b o q n hb (nx b);let⟨sl',e2⟩:=u2.slot b _ e1 (I.base.free b o q n (nx b)) (by rw[Fd];show IN _ hb) ();show#[sl',e2]
 ·let⟨o',e1⟩:=I.base.there b o q (nx b);show u2.free b o' e1 (I.base.free b o q n (nx b)) ()
 ·let⟨o',e1⟩:=I.base.there b o q (nx b);show u2.there b o' e1 ()
 ·show u2.gD b xs (I.base.gD b xs q)
 ·show u2.gv b o v (I.base.gv b o v q)
 ·let⟨m1,e1⟩:=I.base.gM b ps q;let⟨m2,e2⟩:=u2.gM b _ e1;show#[m1++m2,by rw[e2,Array.append_assoc]]
 ·cases q:X.s₀.heap.get? ea with
  | none=>rfl
  | some u =>
   let⟨u',e'⟩:=I.base.there ea u q (nx ea);rw[new]at e';cases e'
 ·have hn:b ∉ cb X.stack:=fun z'=>by
   rw[Fd]at z';rcases lv.mp z' with q | q
   ·rcases z with ⟨o',e'⟩ | ⟨v,e'⟩
    ·show wb b o' e' q
    ·rw[q,Lfree]at e';cases e'
   ·show hb q
  have hs:∃ o',h1.get? b=!o'/\((∃ u,s.heap.get? b=!u)\/∃ u,H' b=!u):=by
   rcases z with ⟨o',e'⟩ | ⟨v,e'⟩
   ·let⟨o2,e2⟩:=I.base.there b o' e' (nx b);let⟨o3,e3⟩:=un.there b o2 e2 ();show#[o3,e3,.inl #[o2,e2]]
   ·let⟨o3,e3⟩:=(aA b v e').there;show#[o3,e3,.inr #[v,e']]
  let⟨o3,e3,z3⟩:=hs;have e4:=iu b o3 e3 hn z3;have e5:=fl.1 b o3 e4;rw[e]at e5;cases e5;show e4
def Inv.Pd{M:Model}{A:Around}{E:Value->Shared->Prop}(I:Inv X π σ H s)(O:Own X)(hA:A.frames=!X.stack)(F:oi X.prog X.w X.stack H s ea C od H' s') :
  wpAny M A (leaving X.env (-ea)) (fun _ s''=>oi X.prog X.w X.outer X.H₀ X.s₀ ea C od H' s'') E s':=by
 let⟨B,a0,fl,iu⟩:=F.fly;have fl':=fl;rw[O.eP]at fl' hA;show aE ((Kp.leaving X.env (-ea)).any F.hd (wpAny_leaves_onW (Q:=fun _ s''=>∃ h',s''={ s' with heap:=h' }/\Heap.FlyingW B X.outer ea (-C) a0 h'/\s'.heap.UpToSlots h') hA O.frame fl' fun h' x1 x2=>#[h',rfl,x1,x2])) fun _ s'' #[#[h',e,x1,x2],hd]=>?_;subst e;show I.CI (s':={ s' with heap:=h' }) O F.os F.bare F.un F.aA F.free F.new iu x1 x2 hd
def HS{h h':Heap}{e:Addr}{cls:Value}{args:List Value}(hx:Heap.MadeExcOf h h' e cls args):ed e cls none h':=by
 let⟨t,he,_⟩:=hx.there;show#[_,he,rfl,rfl,_,rfl]
def Inv.RH{M:Model}{A:Around}{E:Value->Shared->Prop}{h':Heap}{vs:List Value}(I:Inv X π σ H s)(O:Own X)(hA:A.frames=!X.stack)(hx:Heap.MadeExcOf s.heap h' ea (-C) vs) :
  wpAny M A (leaving X.env (-ea)) (fun _ s''=>oi X.prog X.w X.outer X.H₀ X.s₀ ea C none H s'') E { s with heap:=h' }:=by
 have aQ:(W.hideAll s.heap (cb X.stack)).StaysIn s.heap:=fun b o q=>Jai _ q;have fJ:s.heap.FunFrames (W.hideAll s.heap (cb X.stack)) X.stack:=W.funFrames_hide I.stack fun env he a ha=>_U.mpr #[env,he,ha];have kq:H ea=none:=by
  cases q:H ea with
  | none=>rfl
  | some u =>
   let⟨o,e⟩:=(I.aA ea u q).there;have:=hx.new;rw[e]at this;cases this
 have iu:uY (W.hideAll s.heap (cb X.stack)) (cb X.stack) s.heap H h':=fun b o e hb z=>by
  have hs:∃ u,s.heap.get? b=!u:=by
   rcases z with z | ⟨v,z⟩
   ·show z
   ·show(I.aA b v z).there
  let⟨u,eu⟩:=hs;have:=hx.keeps b u eu;rw[e]at this;cases this;show Jae _ eu hb
 generalize W.hideAll s.heap (cb X.stack)=B at aQ fJ iu;have hfr':=fJ;rw[O.eP]at hfr' hA;show aE ((Kp.leaving X.env (-ea)).any (s:={ s with heap:=h' }) (HS hx) (wpAny_leaves_madeW (s:={ s with heap:=h' }) (Q:=fun _ s''=>∃ h2 t,s''={ s with heap:=h2 }/\Heap.FlyingW B X.outer ea (-C) (-t) h2/\h'.UpToSlots h2) hA O.frame aQ hfr' hx
  fun h2 t x1 _ _ x4=>#[h2,t,rfl,x1,x4])) fun _ s'' #[#[h2,t,e,x1,x4],hd]=>?_
 subst e;show I.CI (s':={ s with heap:=h2 }) O rfl I.bare (Un.kept hx.keeps) (I.aA.kept hx.keeps) kq hx.new iu x1 x4 hd
structure oJ(X:Cx)(R:St->XK):Prop where
 pass:∀ (π:List (Addr×Obj)) (σ:St) (H:Hp) (s:Shared) (e:Value) (s':Shared),Inv X π σ H s->dh X.prog X.w X.stack H s (R σ) e s'->X.xe e s'
structure Raises(X:Cx)(R:St->XK):Prop where
 made:∀ (π:List (Addr×Obj)) (σ:St) (H:Hp) (s:Shared) (h':Heap) (ea C:Addr) (vs:List Value),Inv X π σ H s->Heap.MadeExcOf s.heap h' ea (-C) vs->R σ (-C) none H->X.xe (-ea) { s with heap:=h' }
def fH{P:Program}{w:World}{K:ν}{mg:Str->Option Value}{base:Heap}{N:List Str}{qual:Str}{scope:Scope}{f:Addr}{cd:Value}{A:Around}{outer:List Env}{s₀:Shared}{H₀:Hp}{E:XK} :
  oJ (ij (dh P w) P w K mg base N qual scope f cd A outer s₀ H₀ E) (fun _=>E) where
 pass:=fun π σ H s e s' I hc=>by
  let⟨ea,C,od,H',rfl,F,hE⟩:=hc;show aE (I.Pd #[rfl,rfl,rfl] I.ok.frames F) fun _ s'' z=>#[ea,C,od,H',rfl,z,hE]
def Az{P:Program}{w:World}{K:ν}{mg:Str->Option Value}{base:Heap}{N:List Str}{qual:Str}{scope:Scope}{f:Addr}{cd:Value}{A:Around}{outer:List Env}{s₀:Shared}{H₀:Hp}{E:XK} :
  Raises (ij (dh P w) P w K mg base N qual scope f cd A outer s₀ H₀ E) (fun _=>E) where
 made:=fun π σ H s h' ea C vs I hx hE=>aE (I.RH #[rfl,rfl,rfl] I.ok.frames hx) fun _ s'' z=>#[ea,C,none,H,rfl,z,hE]
def  zR(sp:Sp)(bG:List V)(R:St->XK)(t:TA):TE:=fun σ H Q=>t σ H fun vs H1=>sp (vs++bG) H1 Q (R σ)
section
variable {k:Nat}{f:Addr}{fd:FuncData}{ps:List Str}{sp:Sp}{bG:List V}{ds:List Value}{R:St->XK}{x:Str}{p pos:Pos}{e:Expr}{es:List Expr}{t:TA}
def JJ{Q:VK}{us:List Value}{vs:List V}(F:aC X.prog X.w X.K X.mg X.base (dh X.prog X.w) k f fd ps sp)(hr:bL k X.A)(hb:Binds X.K fd ps ds)(hd:Vals bG ds)(hx:oJ X R)(I:Inv X π σ H s)(r:Vals vs us)(h:sp (vs++bG) H Q (R σ)):wpAny (model X.prog X.w) X.A (call (-f) us) (EP X π σ Q) X.xe s:=by
 have r2:Vals (vs++bG) (us++ds):=r.append hd;have hl:(us++ds).length=ps.length:=by rw[<- r2.length];show F.len _ _ _ _ h
 show _w (_1 (F.run X.A X.stack s H #[us,[]] (us++ds) (vs++bG) Q (R σ) hr I.vh (hb s us I.cw hl) r2 h) fun r s' hq=>?_);cases r with
 | error e=>show hx.pass π σ H s e s' I hq
 | ok fl =>
  cases fl with
  | ret u=>show I.after hq
  | next=>show False.elim hq
  | brk=>show False.elim hq
  | cont=>show False.elim hq
def To(F:aC X.prog X.w X.K X.mg X.base (dh X.prog X.w) k f fd ps sp)(hr:bL k X.A)(hg:Gl X x)(hm:X.mg x=!-f)(hk:W.keepIn X.K (-f)=true)(hb:Binds X.K fd ps ds)(hd:Vals bG ds)(hx:oJ X R)(ha:PA X (e::es) t)(hs:(e::es).all noStar=true:=by rfl)(cm:(x == ("__debug__":Str))=false:=by decide):PE X (.Call (.Name x p) (e::es) [] pos) (zR sp bG R t):=by
 have hs':=hs;rw[LE,Fk]at hs';intro π s σ H Q I h;show KM (mR I hg hm ?_ cm);show W1 (h₀:=X.base) I.ok.mod.jb hk (aE (ha pos π s σ H _ I h) fun us s1 #[vs,H1,I1,r,q]=>#[I1.cw,?_]) (fv hs'.1) (ig hs'.2);show JJ F hr hb hd hx I1 r q
end
end
abbrev tX:List Value:=[.type "ValueError",.type "Exception",.type "BaseException",.type "object"]
def O7{K:ν}{h:Heap}{C:Addr}{Ng:List Value}{newId:String}(X:K.In h)(q:W.excIn K C Ng newId=true) :
  ∃ bm N nm q bs hdct sn sub ab col dd k0 k1 k2 k3 k5 mN,h.get? C=!excClassObj nm q C N bs bm hdct sn sub ab col dd k0 k1 k2 k3 k5 newId/\h.Ns N mN/\mN "__init__" = none/\OwnTail h Ng bm:=by
 unfold W.excIn at q;split at q
 ·rename_i dd cd sl ho;split at q
  ·rename_i C' bm k0 k1 k2 k3 n k5 hm hs;simp only[Fk,WP,Bool.not_eq_true']at q;let⟨⟨⟨⟨⟨q1,q2⟩,q3⟩,q4⟩,q5⟩,q6⟩:=q;subst q1 q2;let⟨nm,bs,mro,ns,qn,hd,sn,sub,ab,col,del⟩:=cd;dsimp only at hm q3 q5 q6;subst hm q3;have e1:sl=(List.toArray [k0,k1,k2,k3,!.builtin n,k5]):=by
    let⟨l⟩:=sl;simp only at hs;rw[hs]
   subst e1;show#[bm,ns,nm,qn,bs,hd,sn,sub,ab,col,dd,k0,k1,k2,k3,k5,_,X _ _ ho,.of_isNs (W.isNs_of_in X q5),W.nsMap_none_of_in X q5 q6,W.tail_of_in X q4]
  ·cases q
 ·cases q
def  Ab(C:Addr)(R:St->XK)(t:TA):TS:=fun _ σ H=>t σ H fun vs H1=>vs.length<=sizeLine/\R σ (-C) none H1
def S5{X:Cx}{R:St->XK}{x:Str}{C:Addr}{e:Expr}{es:List Expr}{t:TA}{np bc pos:Pos}(hx:Raises X R)(hc:X.calm=true)(hm:X.mg x=!-C)(q:W.excIn X.K C tX "ValueError.__new__" = true)(ha:PA X (e::es) t)(hg:Gl X x:=by rfl)(hs:(e::es).all noStar=true:=by rfl)(cm:(x == ("__debug__":Str))=false:=by decide):PS X (.Raise (!.Call (.Name x np) (e::es) [] bc) none pos) (Ab C R t):=by
 have hs':=hs;rw[LE,Fk]at hs';intro π s σ H D I h;let⟨bm,N,nm,qn,bs,hdct,sn,sub,ab,col,dd,k0,k1,k2,k3,k5,mN,hC,hN,hni,T⟩:=O7 I.ok.mod.jb q;show wpAny_Raise_call_subT (C:=C) (nm:=nm) (q:=qn) (N:=N) (bs:=bs) (bm:=bm) (hdct:=hdct) (sn:=sn) (sub:=sub) (ab:=ab) (col:=col) (dd:=dd) (k0:=k0) (k1:=k1) (k2:=k2) (k3:=k3) (k5:=k5)
  _L (mN:=mN) (T.hasType _L.hasBase) (I.ok.hd hc) (by rw[fv hs'.1];show ig hs'.2) hni (mR I hg hm #[rfl,?_] cm)
 have ha':=ha bc π s σ H _ I h;rw[fv hs'.1]at ha' ⊢;show _e (aE ha' fun us s2 #[vs,H2,I2,r,z,hR]=>?_);show#[rfl,by rw[<- r.length];show z,I2.bk _ _ hC,hN.keeps I2.bk,T.keeps I2.bk,fun h' ea hm'=>hx.made π σ H2 s2 h' ea C us I2 hm' hR]
def  zS(ea C:Addr)(od:Option Addr):HO:=.ext (ed ea (-C) od)
abbrev Cx.han(X:Cx)(v:Value):Cx:={ X with A:=X.A.mark (!v),calm:=false,xe:=fun _ _=>False }
abbrev Cx.tri(X:Cx)(π:List (Addr×Obj))(R:St->XK):Cx:={ X with pn:=X.pn++π,xe:=fun e s'=>∃ (σ':St) (H H':Hp) (s:Shared) (ea C:Addr) (od:Option Addr),Inv X π σ' H s/\e=-ea/\oi X.prog X.w X.stack H s ea C od H' s'/\R σ' (-C) od H' }
section
variable {X:Cx}{π π':List (Addr×Obj)}{σ:St}{H H':Hp}{s s':Shared}{R:St->XK}{v:Value}
def Inv.Ml{a:Addr}{o:HO}(I:Inv X π σ H s)(hn:H a=none)(n0:X.s₀.heap.get? a=none)(nL:a≠X.env.locals)(nC:∀ x c,X.env.cells.lookup x=!c->c≠a)(nP:∀ p∈X.pn++π,p.1≠a)(new:cg X.prog X.w (upd H a o) s.heap a o):Inv X π σ (upd H a o) s:=by
 have ne:∀ b u,H b=!u->b≠a:=fun b u e=>eQ e hn;have n0':∀ b u,X.s₀.heap.get? b=!u->b≠a:=fun b u e z=>by rw[z,n0]at e;cases e
 show#[I.ok,I.os,I.bare,#[I.base.keep,I.base.slot,fun b u e n hx=>by rw[ah (n0' b u e)];show I.base.free b u e n hx,I.base.there,fun b xs e=>by have:=I.base.gD b xs e;rw[ah (ne b _ this)];show this,
  fun b u v e=>by have:=I.base.gv b u v e;rw[ah (ne b _ this)];show this,fun b ps e=>?_],I.loc,I.cell,by rw[ah (ut nL)];show I.free,fun x c e=>by rw[ah (nC x c e)];show I.jn x c e,fun p hp=>?_,fun b u e=>?_,I.len]
 ·let⟨m,e1⟩:=I.base.gM b ps e;show#[m,by rw[ah (ne b _ e1)];show e1]
 ·let⟨e1,e2,r⟩:=I.pin p hp;show#[e1,by rw[ah (nP p hp)];show e2,r]
 ·by_cases hb:b=a
  ·subst hb;rw[ay]at e;cases e;show new
  ·rw[ah hb]at e;show(I.aA b u e).gL (fun _ _ _ q=>q) (fun c q=>by rw[ah (ne c _ q)];show q) fun c xs q=>by rw[ah (ne c _ q)];show q
end
def  Ends.ZD(D:Ends)(i:Nat):Ends:=#[fun σ H=>D.nx (σ.set i none) H,D.rt,fun σ H=>D.bk (σ.set i none) H,fun σ H=>D.ct (σ.set i none) H]
structure uO(K:ν)(C:Addr):Prop where
 ha:W.findIn K (-C) "__class__" = !(!.builtin "object.__class__")
 hn:W.specialIn K (.builtin "object.__class__") "__get__" = !(!.builtin "getset_descriptor.__get__")
 eN:W.takesIn K (.builtin "object.__class__")=!true
 hm:W.mroIn K C (.type "object")=!true
 ub:W.findIn K (-C) "__getattribute__" = !(!.builtin "BaseException.__getattribute__")
 Qy:W.findIn K (-C) "__getattr__" = !none
 hb:W.mroIn K C (.type "BaseException")=!true
def qI{M:Model}{h:Heap}{x C:Addr}{od:Option Addr}(I:ed x (-C) od h):W.Looks M h (typeOf (-x)) (-C):=by
 let⟨o,e,c,_⟩:=I;show c ▸ (W.Looks.ld e).andThen .now
def Mm{K:ν}{C:Addr}{b:Value}{r:Bool}(h:W.mroIn K C b=!r):∃ c d cd sl,K.lookup C=!#[c,d,.cls cd,sl]:=by
 let⟨cd,dD,_⟩:=Option.bind_eq_some_iff.mp h;unfold W.clsIn at dD;split at dD
 ·rename_i c' d' cd' sl' ho;show#[_,_,_,_,ho]
 ·cases dD
section
variable {prog:Program}{w:World}{A:Around}{E:Value->Shared->Prop}{s:Shared}{K:ν}{x C:Addr}{od:Option Addr}
def RU{M:Model}{h:Heap}{name:Str}{a g:Value}(X:K.In h)(ha:W.findIn K (-C) name=!(!a))(hn:W.specialIn K a "__get__" = !(!g))(eN:W.takesIn K a=!true) :
  W.Looks M h (Builtin.ObjectAttr.find (-x) (-C) name) (.bind g a):=by
 have L1:=Tk (M:=M) X ha;have L2:W.Looks M h (Builtin.ObjectAttr.getOf (!a)) (!g):=W.looks_specialIn X hn;have L3:=W.looks_takesIn (M:=M) X eN;unfold Builtin.ObjectAttr.find;show L1.andThen (L2.andThen ?_);have L4:W.Looks M h (Builtin.ObjectAttr.dataDescriptor? (!a) (!g)) (!(g,a)):=by
  unfold Builtin.ObjectAttr.dataDescriptor?;show L3.andThen .now
 show L4.andThen (W.Looks.tag .now)
open PySem.W in
open Builtin Builtin.ObjectAttr Builtin.Getset_descriptor in
def U9{R:Result->Shared->Prop}{tp:Value}(Z:uO K C)(X:K.In s.heap)(I:ed x (-C) od s.heap)(h:R (.ok (.ret (-C))) s) :
  codeAny (model prog w) A (.call (.builtin "getset_descriptor.__get__") #[[.builtin "object.__class__",-x,tp],[]]) R s:=by
 let⟨hh,g,dr,t,os⟩:=s;have L0:=qI (M:=model prog w) I;have L1:=looks_mroIn (M:=model prog w) X Z.hm;show _M KF.slot_gs.plain KF.entry_gs (KF.slot_gs.check _ _ _ _ _ _ _ _ KF.type_class (KF.args_gs _ _ _) ?_);unfold Builtin.«getset_descriptor.__get__» descrGet;rw[dga_obj];show jp (ul ?_);unfold descrGetter descrCheckInstance descrNameAndClass isInstance;simp only[KF.owner_class]
 repeat lk
 show#[Jap _ (by decide +kernel),Ja9 KF.entry_class ?_];unfold Builtin.«object.__class__» shownTypeOf
 repeat lk
 show h
def aaq{M:Model}{NZ:Value}{Q:Unit->Shared->Prop}(Z:uO K C)(X:K.In s.heap)(I:ed x (-C) od s.heap)(h:Q .unit s):wpAny M A (checkBuiltinCall "BaseException.__getattribute__" #[[-x,NZ],[]]) Q E s:=by
 have k1:builtinKind "BaseException.__getattribute__" = !.slot:=by decide +kernel
 have k2:splitId "BaseException.__getattribute__" = !("BaseException","__getattribute__"):=by decide +kernel
 have k3:=PySem.F.args_bexc_ga (-x) NZ;have L0:=qI (M:=M) I;have L1:=_Q (M:=M) X Z.hb;let⟨hh,g,d,t,os⟩:=s;have L2:W.Looks M hh (isInstance (-x) (.type "BaseException")) true:=L0.andThen L1;simp only[checkBuiltinCall,k1,k2];show jp (L2.at ?_)
 repeat (any_goals (first | assumption | wp_step))
def ZG{Q:Option Value->Shared->Prop}(Z:uO K C)(X:K.In s.heap)(I:ed x (-C) od s.heap)(h:Q (!-C) { s with toks:=s.toks+1 }):wpAny (model prog w) A (getAttr? (-x) "__class__") Q E s:=by
 let⟨hh,g,d,t,os⟩:=s;have L0:=qI (M:=model prog w) I;have L1:=Tk (M:=model prog w) X Z.ub;have L2:=Tk (M:=model prog w) X Z.Qy;have L3:=RU (M:=model prog w) (x:=x) X Z.ha Z.hn Z.eN;unfold getAttr? getAttrBy? getAttrBy;show jp (wpAny_mkText (jp (wpAny_attempt (Os (jp (L0.at (jp (L1.at ?_))))))));change wpAny _ _ (getAttrByItsOwn (-x) (.str "__class__" t) (-C) (.builtin "BaseException.__getattribute__") false false) _ _ _;unfold getAttrByItsOwn;show jp (L2.at ?_);show jp (wpAny_attempt (Os ?_));change wpAny _ _ (boundAndCalled (.builtin "BaseException.__getattribute__") (-x) (.str "__class__" t)) _ _ _;unfold boundAndCalled;show jp (wpAny_of_eq (PySem.F.attr_ValueError.ga.bind (-x)) ?_);show _w (_M PySem.F.attr_ValueError.ga.plain PySem.F.entry_bexc_ga (aaq Z X I ?_));change wpAny _ _ (Builtin.«object.__getattribute__» #[[-x,.str "__class__" t],[]]) _ _ _;unfold Builtin.«object.__getattribute__»;show jp (ul ?_);show jp (ul ?_);show jp (L0.at (jp (L3.at ?_)));change wpAny _ _ (Builtin.ObjectAttr.bindTo (.builtin "getset_descriptor.__get__") (.builtin "object.__class__") (-x) (-C)) _ _ _;change wpAny _ _ (holding [.builtin "object.__class__"] (call (.builtin "getset_descriptor.__get__") [.builtin "object.__class__",-x,-C]) >>= fun v=>ret v) _ _ _;show jp (Os (_w (U9 Z X I (ul ?_))));show ul (ul h)
def Cz(Z:uO K C):W.KitX K (-x) (-C) (ed x (-C) od) where
 ty:=fun _ _ _ I=>qI I
 it:=fun _ _ X _=>by
  let⟨c',d',cd',sl',ho⟩:=Mm Z.hm;intro A' Q' E' s' k q;unfold isType loadHead;show jp (Jak (k _ _ (X _ _ ho)) (ul q))
 ne:=fun h tp dd ai n sl X htp=>by
  let⟨c',d',cd',sl',ho⟩:=Mm Z.hm;show Bool.eq_false_iff.mpr fun q=>?_;have e:C=tp:=Value.ref.inj (WP.mp q);subst e;have z:=(X _ _ ho).symm.trans htp;cases z
 ca:=fun X I k=>ZG Z X I k
end
inductive xC(K:ν)(H:Hp):V->Value->Bool->Prop where
 | of {x:V}{t:Value} (h:fQ K H x t):xC K H x t false
 | exc {ea C:Addr}{od:Option Addr} (e:H ea=!zS ea C od) (Z:uO K C):xC K H (-ea) (-C) true
inductive uD(K:ν)(H:Hp)(t:Value):Bool->V->Bool->Prop where
 | ty {f:Bool}{n:String}{b:Bool} (e:W.kitOne K t (.type n)=!b):uD K H t f (.ty n) b
 | cls {f:Bool}{a:Addr}{b:Bool} (e:W.kitOne K t (-a)=!b):uD K H t f (-a) b
 | tup {p:Addr}{cs:List V}{us:List Value}{b:Bool} (h:H p=!.tup cs) (hu:∀ ws,Vals cs ws->ws=us) (e:W.kitAny K t us=!b):uD K H t true (-p) b
section
variable {X:Cx}{K:ν}
def  DG(K:ν):List V->Hp->VK->Prop:=fun xs H Q=>match xs with
 | [x,c]=>∃ (t:Value) (f b:Bool),xC K H x t f/\uD K H t f c b/\Q (.bl b) H
 | _=>False
def aai{x c:V}{u v t:Value}{π:List (Addr×Obj)}{σ:St}{H:Hp}{s:Shared}{A:Around}{E:Value->Shared->Prop}{Q:Value->Shared->Prop}{f b:Bool}(I:Inv X π σ H s)(rx:RelV x u)(rc:RelV c v)(ty:xC X.K H x t f)(a:uD X.K H t f c b)(h:∀ tk,Q (.bool b) { s with toks:=tk }):wpAny (model X.prog X.w) A (call (.builtin "isinstance") [u,v]) Q E s:=by
 cases ty with
 | of ty =>
  cases a with
  | ty e=>cases (show v=Value.type _ from rc);show DV I rx ty e h
  | cls e=>cases (show v=Value.ref _ from rc);show DV I rx ty e h
 | @exc ea C od e Z =>
  cases (show u=Value.ref ea from rx);let⟨p,_,_⟩:=(show cg X.prog X.w H s.heap ea (zS ea C od) from I.aA ea _ e);cases a with
  | ty e'=>cases (show v=Value.type _ from rc);show LT (Cz Z) I.cw p e' (fun z=>nomatch z) h
  | cls e'=>cases (show v=Value.ref _ from rc);show LT (Cz Z) I.cw p e' (fun z=>nomatch z) h
  | @tup tp cs us b hp hu e' =>
   cases (show v=Value.ref tp from rc);let⟨_,ai,rv,o,ho,hc,n,hd,_⟩:=(show cg X.prog X.w H s.heap tp (.tup cs) from I.aA tp _ hp);obtain rfl:=hu ai rv;let⟨oc,odd,NC,ei⟩:=o;dsimp only at hc hd;subst hc hd;show W.kia_tup (Cz Z) I.cw p ho e' (fun z=>nomatch z) h
def oz(h:X.K=K):cJ X (.builtin "isinstance") (DG K):=h ▸ fun π s σ H xs us Q I r q=>by
 unfold DG at q;split at q
 ·rename_i x c;let⟨t,f,b,ty,a,q⟩:=q;let⟨u,v,rfl,ru,rv⟩:=vals2 r;show aai I ru rv ty a fun tk=>#[.bl b,H,I.tok tk,rfl,q]
 ·show q.elim
end
namespace Dv
section
variable {X:Cx}{st:Stmt}{t:TS}
def f7{k:Nat}{f:Addr}{fd:FuncData}{ps:List Str}{sp:Sp}{bG:List V}{ds:List Value}{R:St->XK}{x:Str}{p pos:Pos}{e:Expr}{es:List Expr}{t:TA}(F:aC X.prog X.w X.K X.mg X.base (dh X.prog X.w) k f fd ps sp)(hr:bL k X.A)(hm:X.mg x=!-f)(hk:W.keepIn X.K (-f)=true)(hb:Binds X.K fd ps ds)(hd:Vals bG ds)(hx:oJ X R)(ha:QA X (e::es) t)(hg:Gl X x:=by rfl)(hs:(e::es).all noStar=true:=by rfl)(cm:(x == ("__debug__":Str))=false:=by decide):QE X (.Call (.Name x p) (e::es) [] pos) (zR sp bG R t):=#[To F hr hg hm hk hb hd hx ha.h hs cm]
def BN{R:St->XK}{x:Str}{C:Addr}{e:Expr}{es:List Expr}{t:TA}{np bc pos:Pos}(hx:Raises X R)(hc:X.calm=true)(hm:X.mg x=!-C)(q:W.excIn X.K C tX "ValueError.__new__" = true)(ha:QA X (e::es) t)(hg:Gl X x:=by rfl)(hs:(e::es).all noStar=true:=by rfl)(cm:(x == ("__debug__":Str))=false:=by decide):QS X (.Raise (!.Call (.Name x np) (e::es) [] bc) none pos) (Ab C R t):=#[S5 hx hc hm q ha.h hg hs cm]
end
end Dv
def jX.fG{P:Program}{w:World}{K:ν}{mg:Str->Option Value}{base:Heap}{CX:eK}{x qual:Str}{st:Stmt}{f:Addr}{fd:FuncData}{N ps:List Str}{k:Nat}{sp:Sp}(F:jX K x qual st f fd)(S:aF N ps (aD st))(len:∀ vs H Q E,sp vs H Q E->vs.length=ps.length)(hb:∀ (ax:Value) (A:Around) (outer:List Env) (s:Shared) (H:Hp) (vs:List V) (Q:VK) (E:XK),bL k (A.deeper (envOfC qual (aD st) s.heap.objs.size f ax))->sp vs H Q E ->
   ∃ t,eE (ij CX P w K mg base N qual (aD st) f ax A outer s H E) (aW st) t/\t { nx:=fun _ H'=>Q .ao H',rt:=Q } (start N vs) H):aC P w K mg base CX (k+1) f fd ps sp:=by
 let⟨oc,od,kV,doc,pm,an,ax,ct,ei,rfl,lk,dD⟩:=F.ex;show En lk dD S len fun A outer s H vs Q E hr gQ=>hb ax A outer s H vs Q E hr gQ
def  sG:List Value->Bool
 | []=>false
 | v::r=>(v::r) == tX || match v with
  | .ref _=>sG r
  | _=>false
def JY(self:Value):∀ {l:List Value},sG l=true->refuseLoop self "__setattr__" l=pure .unit
 | [],e=>nomatch e
 | v::r,e=>by
  unfold sG at e;rcases Bool.or_eq_true_iff.mp e with q | q
  ·rw[WP.mp q];show PySem.F.store_ValueError.passes self
  ·split at q
   ·rw[refuseLoop_ref];show JY self q
   ·cases q
def  xj(K:ν)(C:Addr):Bool:=match K.lookup C with
 | some ⟨.type "type",_,.cls cd,sl⟩=>(match cd.mro,sl.toList with
  | .ref C'::bm,[_,_,_,_,!.builtin n,_]=>C' == C && n == "ValueError.__new__" && Bool.not cd.hasDel && W.tailIn K tX bm && sG cd.mro && cd.hasDict
  | _,_=>false)
 | _=>false
structure jV(K:ν)(C f:Addr)(fld:Str):Prop where
 q:xj K C=true
 hi:W.findIn K (-C) "__init__" = !(!-f)
 hf:W.typeIn K (-f)=!.type "function"
 sa:W.findIn K (-C) "__setattr__" = !(!.builtin "object.__setattr__")
 na:W.findIn K (-C) fld=!none
 ob:W.mroIn K C (.type "object")=!true
 be:W.mroIn K C (.type "BaseException")=!true
 self:W.mroIn K C (-C)=!true
 kp:W.keepIn K (-C)=true
def Bu{K:ν}{h:Heap}{C:Addr}(X:K.In h)(q:xj K C=true) :
  ∃ bm N nm q bs sn sub ab col dd k0 k1 k2 k3 k5,h.get? C=!excClassObj nm q C N bs bm true sn sub ab col dd k0 k1 k2 k3 k5 "ValueError.__new__"/\OwnTail h tX bm/\sG (-C::bm)=true:=by
 unfold xj at q;split at q
 ·rename_i dd cd sl ho;split at q
  ·rename_i C' bm k0 k1 k2 k3 n k5 hm hs;simp only[Fk,WP,Bool.not_eq_true']at q;let⟨⟨⟨⟨⟨q1,q2⟩,q3⟩,q4⟩,q5⟩,q6⟩:=q;subst q1 q2;let⟨nm,bs,mro,ns,qn,hd,sn,sub,ab,col,del⟩:=cd;dsimp only at hm q3 q5 q6;subst hm q3 q6;have e1:sl=(List.toArray [k0,k1,k2,k3,!.builtin "ValueError.__new__",k5]):=by
    let⟨l⟩:=sl;simp only at hs;rw[hs]
   subst e1;show#[bm,ns,nm,qn,bs,sn,sub,ab,col,dd,k0,k1,k2,k3,k5,X _ _ ho,W.tail_of_in X q4,q5]
  ·cases q
 ·cases q
section
variable {prog:Program}{w:World}{A:Around}{E:Value->Shared->Prop}{s:Shared}{K:ν}{x C f:Addr}{fld:Str}{v:Value}
open Builtin Builtin.ObjectAttr in
def SO{Q:Unit->Shared->Prop}(Z:jV K C f fld)(X:K.In s.heap)(I:ed x (-C) none s.heap)(h:∀ h' d tk,s.heap.objs.size<=d->d≠x->(∃ o,s.heap.get? x=!o/\h'.get? x=!{ o with dict:=some d })->h'.Ns1 d (fun y=>if y=fld then !v else none)->(∀ b o,b≠x->s.heap.get? b=!o->h'.get? b=!o)->Q .unit { s with heap:=h',toks:=tk }) :
  wpAny (model prog w) A (setAttr (-x) fld v) Q E s:=by
 let⟨hh,g,dr,t,os⟩:=s;have L0:=qI (M:=model prog w) I;have L1:=Tk (M:=model prog w) X Z.sa;have L2:=Tk (M:=model prog w) X Z.na;let⟨bm,N,nm,qn,bs,sn,sub,ab,col,dd,k0,k1,k2,k3,k5,hC,T,hve⟩:=Bu X Z.q;have Lo:=_Q (M:=model prog w) X Z.ob;have Li:W.Looks (model prog w) hh (isInstance (-x) (.type "object")) true:=L0.andThen Lo;have SF:=PySem.F.store_object;show jp (wpAny_mkText (jp (jp (jp (L0.at (L1.at (Os ?_)))))));rw[SF.slot.bind];show jp (ul (jp (_w ?_)));show _M SF.slot.plain SF.entry ?_;show @W.check_slot (model prog w) _ _ #[hh,g,dr,t+1,os] "object.__setattr__" "object" "__setattr__" (-x) [.str fld t,v] [] _ SF.kind SF.split Li (SF.args (-x) (.str fld t) v) ?_;change wpAny _ _ (Builtin.«object.__setattr__» #[[-x,.str fld t,v],[]]) _ _ _;rw[W.osa_eq,refuse_eq];show jp (jp (L0.at (jp (wpAny_mroOf_exc hC ?_))));rw[JY _ hve];show ul (jp (L0.at (jp (L2.at (jp (ul ?_))))));let⟨o,hx,hc,rX,vs,eS⟩:=I;change wpAny _ _ (storeInOwnDict (-x) (-C) (.str fld t) fld v false) _ _ _;have Lc:W.Looks (model prog w) hh (classData C) _:=(W.Looks.ld (part:=none) hC).andThen .now;let⟨oc,od,NC,ei⟩:=o;dsimp only at hc rX eS;subst hc rX eS;have bJ:(hh.push { cls:=.type "dict",data:=.dict (List.toArray []) }).get? x=!#[-C,none,.fields vs,ei]:=li _ hx;have Fq:x≠hh.objs.size:=zn (wf hx);unfold storeInOwnDict ownDictForStores instanceDict;show jp (ul ?_);show jp (jp (Jak hx (jp (Lc.at ?_))));show jp (wpAny_alloc' ?_);show jp (wpAny_update' bJ (ul ?_));change wpAny _ _ (storeInDict hh.objs.size (.str fld t) fld v) _ _ _;have hself:((hh.push { cls:=.type "dict",data:=.dict (List.toArray []) }).update x fun o=>{ o with dict:=some hh.objs.size }).get? x=!#[-C,!hh.objs.size,.fields vs,ei]:=UF _ bJ rfl;have hdict:((hh.push { cls:=.type "dict",data:=.dict (List.toArray []) }).update x fun o=>{ o with dict:=some hh.objs.size }).get? hh.objs.size=!{ cls:=.type "dict",data:=.dict (List.toArray []) } :=
  (Heap.get?_update_ne _ _ _ _ Fq.symm).trans (Heap.get?_push_at rfl rfl)
 have hoth:∀ b o,b≠x->hh.get? b=!o->((hh.push { cls:=.type "dict",data:=.dict (List.toArray []) }).update x fun o=>{ o with dict:=some hh.objs.size }).get? b=!o:=fun b o hb e =>
  (Heap.get?_update_ne _ _ _ _ hb).trans (li _ e)
 have eT:((hh.push { cls:=.type "dict",data:=.dict (List.toArray []) }).update x fun o=>{ o with dict:=some hh.objs.size }).Ns hh.objs.size (fun _=>none):=#[_,(List.toArray []),_,hdict,rfl,fun e he=>absurd he (),fun _=>rfl];unfold storeInDict newKeyGuard;show jp (ul (jp (wpAny_nsSet1 (Heap.Ns1.of_empty eT) fun h' hn' hs=>?_)));let⟨oD,Jm,epD,EN,EC,Ex⟩:=hn'.count (Within.cons fld v Within.nil);show jp (wpAny_lookBehind EN (by rw[EC];show pastItsLine_dict (tz Ex (by rw[xL,_d,sizeLine_eq];omega))) ?_);show ul (ul (ul ?_));show h h' hh.objs.size _ (lm _) (ut Fq) #[_,hx,(hs.2 x Fq).trans hself] hn' fun b o hb e=>(hs.2 b (zn (wf e))).trans (hoth b o hb e)
end
def  mK(e:Addr)(c:Value)(od:Option Addr)(h:Heap):Prop:=∃ o,h.get? e=!o/\o.cls=c/\o.dict=od/\∃ vs a0,o.data=.fields vs/\vs[1]?=!.none/\vs[0]?=!a0
def mK.hd{e:Addr}{c:Value}{od:Option Addr}{h:Heap}(x:mK e c od h):ed e c od h:=let ⟨o,a,b,c,vs,_,d,_⟩:=x;#[o,a,b,c,vs,d]
def  dG(ea C:Addr)(od:Option Addr):HO:=.ext (mK ea (-C) od)
def Jb{P:Program}{w:World}{H:Hp}{h:Heap}{ea C:Addr}{od:Option Addr}(x:mK ea (-C) od h):cg P w H h ea (dG ea C od) :=
 #[x,let ⟨o,e,_⟩:=x;#[o,e],fun _ _ #[o,e,r] k=>#[o,k o e,r]]
def Uw{h h':Heap}{e:Addr}{cls:Value}{args:List Value}(hx:Heap.MadeExcOf h h' e cls args):mK e cls none h':=by
 let⟨t,he,_⟩:=hx.there;show#[_,he,rfl,rfl,_,_,rfl,rfl,rfl]
def  zC(C:Addr)(fld:Str)(ta tv:TE):TS:=fun D σ H=>tv σ H fun y H1=>ta σ H1 fun x H2=>∃ ea,x=-ea/\H2 ea=!dG ea C none/\∀ d,H2 d=none->D.nx σ (upd (upd H2 ea (dG ea C (!d))) d (.xd [(fld,y)]))
def Tf{fld g:Str}{y:V}{u:Value}(r:RelV y u):eU (([(fld,y)]:List (Str×V)).lookup g) (if g=fld then !u else none):=by
 by_cases h:g=fld
 ·have hb:(g == fld)=true:=WP.mpr h;simp only[List.lookup,hb,At h];show r
 ·have hb:(g == fld)=false:=FS.mpr h;simp only[List.lookup,hb,wT h];show True.intro
section
variable {X:Cx}{C f:Addr}{fld:Str}{o value:Expr}{ta tv:TE}{pos pos':Pos}
def YZ(Z:jV X.K C f fld)(ha:PE X o ta)(hv:PE X value tv)(hs:swapsWith value (!.Attribute o fld pos') pos.line X.env=pure false):PS X (.Assign [.Attribute o fld pos'] value pos) (zC C fld ta tv):=by
 intro π s σ H D I h;show plainObj_wpAny_Assign_Attribute (aE (hv π s σ H _ I h) fun u s1 #[y,H1,I1,ry,q]=>aE (ha π s1 σ H1 _ I1 q) fun ov s2 #[x,H2,I2,rx,ea,ex,he,q2]=>?_) hs;subst ex;obtain rfl:ov=Value.ref ea:=rx;let⟨p,_,_⟩:=(show cg X.prog X.w H2 s2.heap ea (dG ea C none) from I2.aA ea _ he);show SO Z I2.cw p.hd fun h' d tk hsz mh wg eT hkeep=>?_;let⟨o0,e0,e1⟩:=wg;let⟨o0',e0',c0,d0,vs,a0,v0⟩:=p;rw[e0]at e0';cases e0';have hd':mK ea (-C) (!d) h':=#[_,e1,c0,rfl,vs,a0,v0];have bh:H2 d=none:=I2.aA.fresh hsz;have J:Inv X π σ (upd H2 ea (dG ea C (!d))) { s2 with heap:=h',toks:=tk } :=
  I2.write (x:=ea) (e:=ea) (o:=dG ea C (!d)) (t':=tk) (by rw[he];show True.intro) (.inl rfl) hkeep #[_,e1] (Jb hd')
 have big:∀ b,(∃ u,s2.heap.get? b=!u)->b≠d:=fun b #[u,e] z=>absurd (wf e) (by rw[z];show Nat.not_lt.mpr hsz);show#[σ,_,J.Ml (a:=d) (o:=.xd [(fld,y)]) (by rw[ah mh];show bh) (_J (tz I2.sz hsz)) ?_ ?_ ?_ #[_,eT,fun g=>Tf ry],q2 d bh]
 ·let⟨m,⟨o,_,_,ho,_⟩,_⟩:=I2.loc;show ut (big _ #[o,ho])
 ·intro z c e;let⟨w',o,ho,_⟩:=I2.cell z c e;show big _ #[o,ho]
 ·intro p hp;show big _ #[_,(I2.pin p hp).1]
end
def  mT(C:Addr)(fld:Str):Sp:=fun vs H Q _=>match vs with
 | [-ea,y]=>H ea=!dG ea C none/\∀ d,H d=none->Q .ao (upd (upd H ea (dG ea C (!d))) d (.xd [(fld,y)]))
 | _=>False
section
variable {prog:Program}{w:World}{A:Around}{E:Value->Shared->Prop}{h:Heap}{g:Array GenState}{d:Drawn}{t:Nat}{os:OsState}{K:ν}{C f:Addr}{fld:Str}
def VT{rest:List Value}{Q:Fin->Shared->Prop}(Z:jV K C f fld)(X:K.In h)(eg:rest.length<=sizeLine)(hq:∀ h' e,Heap.MadeExcOf h h' e (-C) rest->wpAny (model prog w) A (call (-f) (-e::rest)) (fun r s'=>r=.none/\Q (.done (.ret (-e))) s') E #[h',g,d,t,os]) :
  wpAny (model prog w) A (Builtin.«type.__call__» #[-C::rest,[]]) Q E #[h,g,d,t,os]:=by
 have F:=_L;let⟨bm,N,nm,qn,bs,sn,sub,ab,col,dd,k0,k1,k2,k3,k5,hC,T,_⟩:=Bu X Z.q
 repeat (first | with_reducible show wpAny_loadPart_at hC ?_ | with_reducible show wpAny_madeBy_exc hC ?_ | wp_step)
 show codeAny_call_builtin_code (Jap _ F.quiet) (wpAny_check_new_subT F T hC (codeAny_exc_new_subT F T hC ?_ eg));change wpAny _ _ _ _ _ _;have kk:∀ b o,h.get? b=!o->((h.push { cls:=.type "tuple",data:=.seq rest.toArray }).push { cls:=-C,data:=.fields (List.toArray [-h.objs.size,.none,.none,.none,.bool false,.none]) }).get? b=!o:=fun b o e=>li _ (li _ e);have MN:((h.push { cls:=.type "tuple",data:=.seq rest.toArray }).push { cls:=-C,data:=.fields (List.toArray [-h.objs.size,.none,.none,.none,.bool false,.none]) }).get? (h.objs.size+1)=!{ cls:=-C,data:=.fields (List.toArray [-h.objs.size,.none,.none,.none,.bool false,.none]) }:=by heap_get
 have NG:((h.push { cls:=.type "tuple",data:=.seq rest.toArray }).push { cls:=-C,data:=.fields (List.toArray [-h.objs.size,.none,.none,.none,.bool false,.none]) }).get? h.objs.size=!{ cls:=.type "tuple",data:=.seq rest.toArray }:=li _ (Heap.get?_push_at rfl rfl);generalize OD:(h.push { cls:=.type "tuple",data:=.seq rest.toArray }).push { cls:=-C,data:=.fields (List.toArray [-h.objs.size,.none,.none,.none,.bool false,.none]) }=h2 at kk MN NG ⊢;have made:Heap.MadeExcOf h h2 (h.objs.size+1) (-C) rest:=#[kk,_J (_W _),h.objs.size,MN,_J (lm _),NG];have X2:K.In h2:=fun b o e=>kk b o (X b o e);have L0:=qI (M:=model prog w) (HS made);have L1:=Tk (M:=model prog w) X2 Z.hi;have Lb:=W.bind_fn (M:=model prog w) X2 (-(h.objs.size+1)) Z.hf;have Ls:W.Looks (model prog w) h2 (isSubtype (-C) (-C)) true:=_Q X2 Z.self;have Li:W.Looks (model prog w) h2 (isInstance (-(h.objs.size+1)) (-C)) true:=L0.andThen Ls;show jp (Li.at ?_);simp only[Ja2,PP,_B];show jp (Os ?_);unfold callSpecial? specialOf;show jp (jp (L0.at (L1.at ?_)));show Os (jp (Lb.at (jp (Re (hq h2 _ made) (fun r s' z=>?_) fun _ _ z=>z))));let⟨rfl,z⟩:=z;show ul (ul z)
def W4{rest:List Value}{Q:Value->Shared->Prop}(Z:jV K C f fld)(X:K.In h)(eg:rest.length<=sizeLine)(hq:∀ h' e,Heap.MadeExcOf h h' e (-C) rest->wpAny (model prog w) (A.under (.builtin "type.__call__" #[-C::rest,[]])) (call (-f) (-e::rest)) (fun r s'=>r=.none/\Q (-e) s') E #[h',g,d,t,os]) :
  wpAny (model prog w) A (call (-C) rest) Q E #[h,g,d,t,os]:=by
 let⟨bm,N,nm,qn,bs,sn,sub,ab,col,dd,k0,k1,k2,k3,k5,hC,T,_⟩:=Bu X Z.q;have f1:=tc_lookup;have f2:=tc_bind (-C);have hT:(#[h,g,d,t,os]:Shared).TypeIs (-C) "type" := #[_,hC,rfl];show _w (codeAny_of_tree ?_);change wpAny _ _ (callAny (-C) _) _ _ _
 repeat (any_goals (first | assumption | with_reducible show wpAny_loadPart_at hC ?_ | wp_step))
 show#[rfl,codeAny_call_builtin_at (Jap _ (by decide +kernel)) entry_typeCall (wpAny_check_type_call_sub hC (VT Z X eg fun h' e hm=>hq h' e hm))]
end
def Qf{M:Model}{A:Around}{E:Value->Shared->Prop}{s:Shared}{env:Env}{K:ν}{C:Addr}{x:Sem Value}{Q:Flow->Shared->Prop}(hb:W.mroIn K C (.type "BaseException")=!true)(cD:W.typeIn K (-C)=!.type "type")(hh:A.handled=none)(h:wpAny M A x (fun v s₁=>∃ e o vs,v=-e/\s₁.heap.get? e=!o/\o.cls=-C/\o.data=.fields vs/\vs[1]?=!.none/\K.In s₁.heap/\E (-e) s₁) E s) :
  wpAny M A (raiseStmt env (!x) none) Q E s:=by
 unfold raiseStmt;show jp (Re h (fun v s₁ h₁=>?_) fun _ _ x=>x);let⟨e,o,vs,rfl,he,hc,hd,h1,X,hE⟩:=h₁;let⟨hp,g,d,tk,os⟩:=s₁;have L0:W.Looks M hp (typeOf (-e)) (-C):=hc ▸ (W.Looks.ld he).andThen .now;have L1:=_Q (M:=M) X hb;have L2:W.Looks M hp (isType (-e)) false:=by
  let⟨oc,od,NC,ei⟩:=o;dsimp only at hd;subst hd;intro A' Q' E' s' k q;unfold isType loadHead;show jp (Jak (k _ _ he) (ul q))
 have L3:W.Looks M hp (isExcClass (-e)) false:=L2.andThen .now;have L4:W.Looks M hp (isInstance (-e) (.type "BaseException")) true:=L0.andThen L1;have L5:=W.looks_typeIn (M:=M) X cD;show jp (ul (jp (Os ?_)));unfold excFromValue;show jp (L3.at ?_);simp only[PP,_B];show jp (L4.at ?_);simp only[if_true];show ul ?_;show jp (L2.at ?_);simp only[PP,_B];unfold raisedInstance;show jp (jp (L0.at (jp (L5.at ?_))));show ul ?_;unfold setFlight;show jp (jp (wpAny_field he hd h1 ?_));show ul ?_;show wpAny_raiseNew_none hh hE
def Km{fs:List Addr}{H H':Hp}{h h1 base:Heap}(u:Un fs [] H H' h h1):∀ l:List Env,(∀ b∈cb l,b∈fs/\H b=none)->h.FunFrames base l->h1.FunFrames base l
 | [],_,_=>trivial
 | env::r,hs,⟨hk,⟨L,o,hf,hn,ho,hd⟩,hr⟩=>by
  have e:cb (env::r)=L::cb r:=by
   unfold cb;rw[_l,hf]
  let⟨h1',h2'⟩:=hs L (by rw[e];show _t);let⟨sl,e1⟩:=u.slot L o ho h2' h1' ();show#[hk,#[L,_,hf,hn,e1,hd],Km u r (fun b hb=>hs b (by rw[e];show IN _ hb)) hr]
section
variable {X:Cx}{π:List (Addr×Obj)}{σ:St}{H H':Hp}{s s1:Shared}{ea C:Addr}{od:Option Addr}
def Inv.WZ{M:Model}{A:Around}{E:Value->Shared->Prop}(I:Inv X π σ H s)(O:Own X)(hA:A.frames=!X.stack)(os:s1.os=s.os)(bare:AllBare s1.gens)(un:Un (cb X.stack) [] H H' s.heap s1.heap)(aA:cy X.prog X.w H' s1.heap)(free:H' ea=none)(new:s.heap.get? ea=none)(hn:mK ea (-C) od s1.heap):wpAny M A (leaving X.env (-ea)) (fun _ s''=>oi X.prog X.w X.outer X.H₀ X.s₀ ea C od H' s'') E s1:=by
 have aQ:(W.hideAll s1.heap (ea::cb X.stack)).StaysIn s1.heap:=fun b o q=>Jai _ q;have fJ:s1.heap.FunFrames (W.hideAll s1.heap (ea::cb X.stack)) X.stack:=W.funFrames_hide (Km un X.stack (fun b hb=>#[hb,I.wM b hb]) I.stack) fun env he a ha=>IN _ (_U.mpr #[env,he,ha]);have FG:(W.hideAll s1.heap (ea::cb X.stack)).get? ea=none:=W.hideAll_none _ _t;have iu:uY (W.hideAll s1.heap (ea::cb X.stack)) (cb X.stack) s.heap H' s1.heap:=fun b o e hb z=>by
  show Jae _ e fun hm=>?_;rcases lv.mp hm with q | q
  ·rcases z with ⟨u,z⟩ | ⟨u,z⟩
   ·rw[q,new]at z;cases z
   ·rw[q,free]at z;cases z
  ·show hb q
 generalize W.hideAll s1.heap (ea::cb X.stack)=B at aQ fJ FG iu;rw[O.eP]at fJ hA;let⟨oe,he,hc,yQ,vs,a0,hd,h1,h0⟩:=id hn;show aE ((Kp.leaving X.env (-ea)).any hn.hd (wpAny_leaving_firstW (Q:=fun _ s''=>∃ h2,s''={ s1 with heap:=h2 }/\Heap.LeftW B (X.env::X.outer) ea oe.cls a0 s1.heap h2) hA fJ O.frame he aQ FG hd h1 h0 fun h2 x=>#[h2,rfl,x])) fun _ s'' #[#[h2,e,k1,#[_,_,k2],k3,k4],hd2]=>?_;subst e;rw[hc]at k3;show I.CI (s':={ s1 with heap:=h2 }) O os bare un aA free new iu #[k1,FG,k2,k3] k4 hd2
structure AD(X:Cx)(R:St->XK):Prop where
 made:∀ (π:List (Addr×Obj)) (σ:St) (H H':Hp) (s s1:Shared) (ea C:Addr) (od:Option Addr),Inv X π σ H s->s1.os=s.os->AllBare s1.gens->Un (cb X.stack) [] H H' s.heap s1.heap->cy X.prog X.w H' s1.heap->H' ea=none->s.heap.get? ea=none ->
  mK ea (-C) od s1.heap->R σ (-C) od H'->X.xe (-ea) s1
end
def tO{P:Program}{w:World}{K:ν}{mg:Str->Option Value}{base:Heap}{N:List Str}{qual:Str}{scope:Scope}{f:Addr}{cd:Value}{A:Around}{outer:List Env}{s₀:Shared}{H₀:Hp}{E:XK} :
  AD (ij (dh P w) P w K mg base N qual scope f cd A outer s₀ H₀ E) (fun _=>E) where
 made:=fun π σ H H' s s1 ea C od I os bare un aA free new hn hE=>aE (I.WZ #[rfl,rfl,rfl] I.ok.frames os bare un aA free new hn) fun _ s'' z=>#[ea,C,od,H',rfl,z,hE]
def  zL(C:Addr)(fld:Str)(R:St->XK)(t:TA):TS:=fun _ σ H=>t σ H fun vs H1=>∃ v,vs=[v]/\∀ d,H1 d=none->R σ (-C) (!d) (upd H1 d (.xd [(fld,v)]))
def Z2{X:Cx}{R:St->XK}{x fld:Str}{C f:Addr}{fd:FuncData}{k:Nat}{ps:List Str}{e:Expr}{es:List Expr}{t:TA}{np bc pos:Pos}(hx:AD X R)(hex:X.ex=[])(hc:X.calm=true)(hm:X.mg x=!-C)(Z:jV X.K C f fld)(cD:W.typeIn X.K (-C)=!.type "type")(F:aC X.prog X.w X.K X.mg X.base aM k f fd ps (mT C fld))(hr:bL (k+1) X.A)(hb:Binds X.K fd ps [])(ha:PA X (e::es) t)(hg:Gl X x:=by rfl)(hs:(e::es).all noStar=true:=by rfl)(cm:(x == ("__debug__":Str))=false:=by decide):PS X (.Raise (!.Call (.Name x np) (e::es) [] bc) none pos) (zL C fld R t):=by
 have hs':=hs;rw[LE,Fk]at hs';intro π s σ H D I h;rw[arm_exec_Raise];show jp (_S ?_);change wpAny _ _ (raiseStmt X.env (!(do let v <- eval (.Call (.Name x np) (e::es) [] bc) X.env;standAt pos;pure v)) none) _ _ s;show Qf Z.be cD (I.ok.hd hc) (jp (Re (KM (mR I hg hm ?_ cm)) (fun v s3 h3=>jp (_S (ul h3))) fun _ _ z=>z));show W1 (h₀:=X.base) I.ok.mod.jb Z.kp (aE (ha bc π s σ H _ I h) fun us s2 #[vs,H2,I2,r,v,ev,hR]=>#[I2.cw,?_]) (fv hs'.1) (ig hs'.2);subst ev;let⟨u,rfl,ru⟩:=vals1 r;let⟨h2,g2,d2,t2,vO⟩:=s2;show W4 Z I2.cw (by change 1<=sizeLine;decide) fun h3 ex nA=>?_;have jD:∀ b,(∃ o,h2.get? b=!o)->b≠ex:=fun b #[o,e'] z=>by
  have:=nA.new;rw[z,this]at e';cases e'
 have kq:H2 ex=none:=by
  cases q:H2 ex with
  | none=>rfl
  | some o=>show absurd rfl (jD ex (I2.aA ex o q).there)
 have I3:Inv X π σ H2 #[h3,g2,d2,t2,vO]:=I2.kept (t':=t2) nA.keeps;have I4:Inv X π σ (upd H2 ex (dG ex C none)) #[h3,g2,d2,t2,vO]:=by
  show I3.Ml kq ?_ ?_ ?_ ?_ (Jb (Uw nA))
  ·cases q:X.s₀.heap.get? ex with
   | none=>rfl
   | some o =>
    show absurd rfl (jD ex (I2.base.there ex o q (by rw[hex];simp)))
  ·let⟨m,⟨o,_,_,ho,_⟩,_⟩:=I2.loc;show ut (jD _ #[o,ho])
  ·intro y c e';let⟨w',o,ho,_⟩:=I2.cell y c e';show jD _ #[o,ho]
  ·intro p hp;show jD _ #[_,(I2.pin p hp).1]
 have hl:([Value.ref ex,u]++([]:List Value)).length=ps.length:=by
  have:=F.len [-ex,v] (upd H2 ex (dG ex C none)) (fun _ _=>True) E0 #[ay,fun _ _=>True.intro];show this
 show _w (_1 (F.run (X.A.under (.builtin "type.__call__" #[[-C,u],[]])) X.stack #[h3,g2,d2,t2,vO] (upd H2 ex (dG ex C none)) #[[-ex,u],[]] [-ex,u] [-ex,v]
  (fun r H5=>r=.ao/\∃ d,upd H2 ex (dG ex C none) d=none/\H5=upd (upd (upd H2 ex (dG ex C none)) ex (dG ex C (!d))) d (.xd [(fld,v)])) E0 (hr.make C [u] []) (I4.vh.make C [u] []) (hb _ [-ex,u] I4.cw hl) (.cons rfl (.cons ru .nil))
  #[ay,fun d hd=>#[rfl,d,hd,rfl]]) fun r s5 hq=>?_)
 cases r with
 | error e'=>show False.elim hq
 | ok fl =>
  cases fl with
  | next=>show False.elim hq
  | brk=>show False.elim hq
  | cont=>show False.elim hq
  | ret u5 =>
   let⟨v5,H5,os5,bare5,nz,EA,rv5,rfl,d,yS,rfl⟩:=hq;have mh:d≠ex:=fun z=>by rw[z,ay]at yS;cases yS
   have hd2:H2 d=none:=by rw[ah mh]at yS;show yS
   have e5:upd (upd (upd H2 ex (dG ex C none)) ex (dG ex C (!d))) d (.xd [(fld,v)]) ex=!dG ex C (!d):=by rw[ah (ut mh),ay]
   have e6:∀ b,b≠ex->upd (upd (upd H2 ex (dG ex C none)) ex (dG ex C (!d))) d (.xd [(fld,v)]) b=upd H2 d (.xd [(fld,v)]) b:=fun b hb=>by
    by_cases q:b=d
    ·rw[q,ay,ay]
    ·rw[ah q,ah hb,ah hb,ah q]
   have e7:upd H2 d (.xd [(fld,v)]) ex=none:=by rw[ah (ut mh)];show kq
   have e4:∀ b,b≠ex->upd H2 ex (dG ex C none) b=H2 b:=fun b hb=>ah hb;generalize upd (upd (upd H2 ex (dG ex C none)) ex (dG ex C (!d))) d (.xd [(fld,v)])=H5 at nz EA e5 e6;let⟨hN,_,_⟩:=(show cg X.prog X.w H5 s5.heap ex (dG ex C (!d)) from EA ex _ e5);have r9:∀ b o,H2 b=!o->b≠ex:=fun b o q=>eQ q kq;have Nq:Un (cb X.stack) [] H2 (upd H2 d (.xd [(fld,v)])) h2 s5.heap:=by
    show#[fun b o q n hb hx=>?_,fun b o q n hb hx=>?_,fun b o q n hx=>?_,fun b o q hx=>?_,fun b xs q=>?_,fun b o v' q=>?_,fun b ps' q=>?_]
    ·show nz.keep b o (nA.keeps b o q) (by rw[e4 b (jD b #[o,q])];show n) hb hx
    ·show nz.slot b o (nA.keeps b o q) (by rw[e4 b (jD b #[o,q])];show n) hb hx
    ·rw[<- e6 b (jD b #[o,q])];show nz.free b o (nA.keeps b o q) (by rw[e4 b (jD b #[o,q])];show n) hx
    ·show nz.there b o (nA.keeps b o q) hx
    ·rw[<- e6 b (r9 b _ q)];show nz.gD b xs (by rw[e4 b (r9 b _ q)];show q)
    ·rw[<- e6 b (r9 b _ q)];show nz.gv b o v' (by rw[e4 b (r9 b _ q)];show q)
    ·rw[<- e6 b (r9 b _ q)];show nz.gM b ps' (by rw[e4 b (r9 b _ q)];show q)
   have hokF:cy X.prog X.w (upd H2 d (.xd [(fld,v)])) s5.heap:=fun b o q=>by
    have hb:b≠ex:=fun z=>by rw[z,e7]at q;cases q
    have q5:H5 b=!o:=by rw[e6 b hb];show q
    have ne5:∀ c o',H5 c=!o'->o'≠dG ex C (!d)->c≠ex:=fun c o' z1 z2 z=>by rw[z,e5]at z1;show z2 (Id z1).symm
    show(EA b o q5).gL (fun _ _ _ z=>z) (fun c z=>?_) fun c xs z=>?_
    ·rw[<- e6 c (ne5 c _ z (fun z'=>by cases z'))];show z
    ·rw[<- e6 c (ne5 c _ z (fun z'=>by cases z'))];show z
   let⟨oe,he,y6,yQ,vs',a0,r8,h1,h0⟩:=id hN;show#[rv5,ex,oe,vs',rfl,he,y6,r8,h1,?_,hx.made π σ H2 _ #[h2,g2,d2,t2,vO] s5 ex C (!d) I2 os5 bare5 Nq hokF e7 nA.new hN (hR d hd2)];show I2.ok.mod.jb.keeps fun b o z=>Nq.keep b o (I2.bs b o z).1 (I2.bs b o z).2 (fun hb=>by have:=(I2.stack.mem hb).1;rw[z]at this;cases this) ()
section
variable {prog:Program}{w:World}{A:Around}{E:Value->Shared->Prop}{s:Shared}{K:ν}{x C f d:Addr}{fld:Str}
end
def  Qz(C:Addr)(fld:Str)(ta:TE):TE:=fun σ H Q=>ta σ H fun x H1=>∃ ea d fs v,x=-ea/\H1 ea=!zS ea C (!d)/\H1 d=!.xd fs/\fs.lookup fld=!v/\Q v H1
inductive FI(C:Addr)(f:Str)(x:V)(H:Hp)(Q:V->Prop):Prop
 | mk:∀ a dx fs v,x=-a->H a=!.ins C dx fs->fs.lookup f=!v->Q v->FI C f x H Q
inductive SI(C:Addr)(f:Str)(x y:V)(H:Hp)(R:Hp->Prop):Prop
 | mk:∀ a dx fs,x=-a->H a=!.ins C dx fs->fs.length < 1000->R (upd H a (.ins C dx (az f y fs)))->SI C f x y H R
inductive AI(C:Addr)(f:Str)(x:V)(H:Hp)(Q:Addr->V->Prop):Prop
 | mk:∀ a dx fs v,x=-a->H a=!.ins C dx fs->fs.lookup f=!v->Q a v->AI C f x H Q
inductive BI(C:Addr)(f:Str)(a:Addr)(z:V)(H:Hp)(R:Hp->Prop):Prop
 | mk:∀ dx fs,H a=!.ins C dx fs->fs.length < 1000->R (upd H a (.ins C dx (az f z fs)))->BI C f a z H R
def  xU(C:Addr)(f:Str)(ta:TE):TE:=fun σ H Q=>ta σ H fun x H1=>FI C f x H1 fun v=>Q v H1
def  oB(C:Addr)(f:Str)(ta tv:TE):TS:=fun D σ H=>tv σ H fun y H1=>ta σ H1 fun x H2=>SI C f x y H2 fun H3=>D.nx σ H3
def  DX(C:Addr)(f:Str)(ta tv:TE)(rd:R2):TS:=fun D σ H=>ta σ H fun x H1=>AI C f x H1 fun a v=>tv σ H1 fun y H2=>rd v y H2 fun z H3=>BI C f a z H3 fun H4=>D.nx σ H4
def  Ag(C:Addr)(m:Str)(sp:Sp)(bG:List V)(R:St->XK)(ta:TE)(t:TA):TE:=fun σ H Q=>ta σ H fun x H1=>MI C m x H1 (t σ H1 fun vs H2=>sp (x::(vs++bG)) H2 Q (R σ))
section
variable {X:Cx}{k:Nat}{f C:Addr}{fd:FuncData}{ps:List Str}{sp:Sp}{bG:List V}{ds:List Value}{R:St->XK}{x m:Str}{p pos apos:Pos}{e o:Expr}{es:List Expr}{ta:TE}{t:TA}
def ZK{pl:Sem Bool}(he:PE X o ta)(c:cZ X.K C)(hm:Meth X.K C m f)(F:aC X.prog X.w X.K X.mg X.base (dh X.prog X.w) k f fd ps sp)(hr:bL k X.A)(hb:Binds X.K fd ps ds)(hd:Vals bG ds)(hx:oJ X R)(ha:PA X (e::es) t)(hs:(e::es).all noStar=true:=by rfl)(ht:eval (.Call (.Attribute o m apos) (e::es) [] pos) X.env=(do
   let ov <- eval o X.env
   standAt apos.atName
   let (f,first) <- holding [ov] (getMethod ov m pl)
   callWith pos f first (backTo pos (starEach (e::es) X.env)) (backToKw pos (keywordEach [] X.env))):=by rfl):PE X (.Call (.Attribute o m apos) (e::es) [] pos) (Ag C m sp bG R ta t):=by
 have hs':=hs;rw[LE,Fk]at hs';intro π s σ H Q I h;show _6 (pl:=pl) (aE (he π s σ H _ I h) fun u s1 ⟨x,H1,I1,rx,a,dx,fs,ex,ea,l,q⟩=>?_) ht;subst ex;obtain rfl:u=Value.ref a:=rx;show Ae I1 ea c hm l (W1 (first:=[-a]) (h₀:=X.base) I.ok.mod.jb hm.kp (aE (ha pos π s1 σ H1 _ I1 q) fun us s2 ⟨vs,H2,I2,r,q2⟩=>#[I2.cw,?_]) (fv hs'.1) (ig hs'.2));show JJ (us:=-a::us) (vs:=-a::vs) F hr hb hd hx I2 (.cons rfl r) q2
end
section
variable {X:Cx}{C:Addr}{f:Str}{e o value:Expr}{ta tv:TE}{pos pos' ko:Pos}
def XH(c:cZ X.K C)(n:bN X.K C f)(he:PE X e ta)(hb:attributeBase e f X.env (eval e X.env)=eval e X.env):PE X (.Attribute e f pos) (xU C f ta):=by
 intro π s σ H Q I h;show UH hb (aE (he π s σ H _ I h) fun u s1 ⟨x,H1,I1,rx,a,dx,fs,v,ex,ea,l,q⟩=>?_);subst ex;obtain rfl:u=Value.ref a:=rx;show KU I1 ea c n l fun u' s2 I2 ru=>#[v,H1,I2,ru,q]
def WD(c:cZ X.K C)(n:bN X.K C f)(ha:PE X o ta)(hv:PE X value tv)(hs:swapsWith value (!.Attribute o f pos') pos.line X.env=pure false):PS X (.Assign [.Attribute o f pos'] value pos) (oB C f ta tv):=by
 intro π s σ H D I h;show plainObj_wpAny_Assign_Attribute (aE (hv π s σ H _ I h) fun u s1 ⟨y,H1,I1,ry,q⟩=>aE (ha π s1 σ H1 _ I1 q) fun ov s2 ⟨x,H2,I2,rx,a,dx,fs,ex,ea,l,q2⟩=>?_) hs;subst ex;obtain rfl:ov=Value.ref a:=rx;show Gh I2 ea c n l ry fun s3 I3=>#[σ,_,I3,q2]
def UG{op:Operator}{rd:R2}(c:cZ X.K C)(n:bN X.K C f)(ha:PE X o ta)(hv:PE X value tv)(vE:zO X op rd):PS X (.AugAssign (.Attribute o f ko) op value pos) (DX C f ta tv rd):=by
 intro π s σ H D I h;show wpAny_AugAssign_AttributeAny (aE (ha π s σ H _ I h) fun ov s1 ⟨x,H1,I1,rx,a,dx,fs,v,ex,ea,l,q⟩=>?_);subst ex;obtain rfl:ov=Value.ref a:=rx;show KU I1 ea c n l fun u s2 I2 ru=>aE (hv π s2 σ H1 _ I2 q) fun w3 s3 ⟨y,H2,I3,ry,q3⟩=>aE (vE π s3 σ H2 v y u w3 _ I3 ru ry q3) fun w4 s4 ⟨z,H3,I4,rz,dx',fs',ea',l',q4⟩=>?_;show Gh I4 ea' c n l' rz fun s5 I5=>#[σ,_,I5,q4]
end
def Hz{X:Cx}{op:CmpOp}{a b:Expr}{t:TE}{pos:Pos}(h:PC X op a b t)(hm:behindInMarks op b=false:=by first | show wD _ ⋯ ⋯ | rfl):PT X (.Compare a [op] [b] pos) (mO t):=by
 intro π s σ H Q I hw;show wpAny_isTrue_Compare1 (aE (h π s σ H _ I hw) fun v s1 h1=>aE h1 fun u s2 h2=>aE h2 fun c s3 #[x,H1,I1,r1,q1]=>?_) hm;let⟨k,rfl,q⟩:=B6 q1;cases r1;show Sc #[H1,I1,q]
namespace Dv
section
variable {X:Cx}{a b o e i value:Expr}{ta tb td ty tv:TE}{es:List Expr}{t:TA}{pos pos' apos bc p ko:Pos}{f C:Addr}{fn m x:Str}{k:Nat}{fd:FuncData}{ps:List Str}{sp:Sp}{bG:List V}{ds:List Value}{R:St->XK}{CX:eK}{E:XK}{tA:TT}{body:List Stmt}{tB:TS}
def fld(c:cZ X.K C)(n:bN X.K C fn)(he:QE X e ta)(hb:attributeBase e fn X.env (eval e X.env)=eval e X.env:=by rfl):QE X (.Attribute e fn pos) (xU C fn ta):=#[XH c n he.h hb]
def bM(c:cZ X.K C)(n:bN X.K C fn)(ha:QE X o ta)(hv:QE X value tv)(hs:swapsWith value (!.Attribute o fn pos') pos.line X.env=pure false:=by rfl):QS X (.Assign [.Attribute o fn pos'] value pos) (oB C fn ta tv):=#[WD c n ha.h hv.h hs]
def kY{op:Operator}{rd:R2}(c:cZ X.K C)(n:bN X.K C fn)(vE:zO X op rd)(ha:QE X o ta)(hv:QE X value tv):QS X (.AugAssign (.Attribute o fn ko) op value pos) (DX C fn ta tv rd):=#[UG c n ha.h hv.h vE]
def GK(Z:jV X.K C f fn)(ha:QE X o ta)(hv:QE X value tv)(hs:swapsWith value (!.Attribute o fn pos') pos.line X.env=pure false:=by rfl):QS X (.Assign [.Attribute o fn pos'] value pos) (zC C fn ta tv):=#[YZ Z ha.h hv.h hs]
def bu{pl:Sem Bool}(c:cZ X.K C)(hm:Meth X.K C m f)(F:aC X.prog X.w X.K X.mg X.base CX k f fd ps sp)(hr:bL k X.A)(hb:Binds X.K fd ps ds)(hd:Vals bG ds)(hx:Passes CX X E)(ho:QE X o ta)(ha:QA X (e::es) t)(hs:(e::es).all noStar=true:=by rfl)(ht:eval (.Call (.Attribute o m apos) (e::es) [] pos) X.env=(do
   let ov <- eval o X.env
   standAt apos.atName
   let (f,first) <- holding [ov] (getMethod ov m pl)
   callWith pos f first (backTo pos (starEach (e::es) X.env)) (backToKw pos (keywordEach [] X.env))):=by rfl):QE X (.Call (.Attribute o m apos) (e::es) [] pos) (vi C m sp bG E ta t):=by
 have hs':=hs;rw[LE,Fk]at hs';show#[Zi ho.h c hm F hr hb hd hx ha.h (fv hs'.1) (ig hs'.2) ht]
def qT{pl:Sem Bool}(c:cZ X.K C)(hm:Meth X.K C m f)(F:aC X.prog X.w X.K X.mg X.base CX k f fd ps sp)(hr:bL k X.A)(hb:Binds X.K fd ps ds)(hd:Vals bG ds)(hx:Passes CX X E)(ho:QE X o ta)(ht:eval (.Call (.Attribute o m apos) [] [] pos) X.env=(do
   let ov <- eval o X.env
   standAt apos.atName
   let (f,first) <- holding [ov] (getMethod ov m pl)
   callWith pos f first (backTo pos (starEach [] X.env)) (backToKw pos (keywordEach [] X.env))):=by rfl):QE X (.Call (.Attribute o m apos) [] [] pos) (vi C m sp bG E ta f9):=#[PD ho.h c hm F hr hb hd hx ht]
def eJ{pl:Sem Bool}(c:cZ X.K C)(hm:Meth X.K C m f)(F:aC X.prog X.w X.K X.mg X.base (dh X.prog X.w) k f fd ps sp)(hr:bL k X.A)(hb:Binds X.K fd ps ds)(hd:Vals bG ds)(hx:oJ X R)(ho:QE X o ta)(ha:QA X (e::es) t)(hs:(e::es).all noStar=true:=by rfl)(ht:eval (.Call (.Attribute o m apos) (e::es) [] pos) X.env=(do
   let ov <- eval o X.env
   standAt apos.atName
   let (f,first) <- holding [ov] (getMethod ov m pl)
   callWith pos f first (backTo pos (starEach (e::es) X.env)) (backToKw pos (keywordEach [] X.env))):=by rfl):QE X (.Call (.Attribute o m apos) (e::es) [] pos) (Ag C m sp bG R ta t):=#[ZK ho.h c hm F hr hb hd hx ha.h hs ht]
def make(M:Mk X.K C f)(F:aC X.prog X.w X.K X.mg X.base CX k f fd ps sp)(hr:bL (k+1) X.A)(hm:X.mg x=!-C)(hb:Binds X.K fd ps ds)(hd:Vals bG ds)(hx:Passes CX X E)(ha:QA X (e::es) t)(hg:Gl X x:=by rfl)(hs:(e::es).all noStar=true:=by rfl)(cm:(x == ("__debug__":Str))=false:=by decide) :
  QE X (.Call (.Name x p) (e::es) [] pos) (uP C sp bG E t):=by
 have hs':=hs;rw[LE,Fk]at hs';show#[Ti M F hr hg hm hb hd hx ha.h cm (fv hs'.1) (ig hs'.2)]
def aaN(M:Mk X.K C f)(F:aC X.prog X.w X.K X.mg X.base CX k f fd ps sp)(hr:bL (k+1) X.A)(hm:X.mg x=!-C)(hb:Binds X.K fd ps ds)(hd:Vals bG ds)(hx:Passes CX X E)(hg:Gl X x:=by rfl)(cm:(x == ("__debug__":Str))=false:=by decide) :
  QE X (.Call (.Name x p) [] [] pos) (uP C sp bG E f9):=#[XT M F hr hg hm hb hd hx cm]
def uR(hx:AD X R)(hex:X.ex=[])(hc:X.calm=true)(hm:X.mg x=!-C)(Z:jV X.K C f fn)(cD:W.typeIn X.K (-C)=!.type "type")(F:aC X.prog X.w X.K X.mg X.base aM k f fd ps (mT C fn))(hr:bL (k+1) X.A)(hb:Binds X.K fd ps [])(ha:QA X (e::es) t)(hg:Gl X x:=by rfl)(hs:(e::es).all noStar=true:=by rfl)(cm:(x == ("__debug__":Str))=false:=by decide):QS X (.Raise (!.Call (.Name x p) (e::es) [] bc) none pos) (zL C fn R t):=#[Z2 hx hex hc hm Z cD F hr hb ha.h hg hs cm]
def nR(hu:X.A.units+1 < cLine)(ho:QE X o td)(hi:QE X i ty)(hs:BJ i:=by intro _ _;rfl):QE X (.Subscript o i pos) (A0 td ty):=#[Ry hu ho.h hi.h hs]
def CY(hu:X.A.units+1 < cLine)(hi:QE X i ty)(ho:QE X o td)(hm:behindInMarks .In o=false:=by rfl):QT X (.Compare i [.In] [o] pos) (mO (DP ty td)):=#[Hz (XE hu hi.h ho.h) hm]
def Hv(hu:X.A.units+1 < cLine)(hi:QE X i ty)(ho:QE X o td)(hm:behindInMarks .NotIn o=false:=by rfl):QT X (.Compare i [.NotIn] [o] pos) (mO (DQ ty td)):=#[Hz (aap hu hi.h ho.h) hm]
def nM(hu:X.A.units+1 < cLine)(ho:QE X o td)(hi:QE X i ty)(hv:QE X value tv)(hs:swapsWith value (!.Subscript o i pos') pos.line X.env=pure false:=by rfl):QS X (.Assign [.Subscript o i pos'] value pos) (Ef td ty tv):=#[OT hu ho.h hi.h hv.h hs]
def Qi:QE X (.Dict [] [] pos) AX:=#[Zz]
def Kn(hu:X.A.units+1 < cLine)(ho:QE X o td)(he:QE X e ty)(m1:M1 X o "get" apos e bc:=by show#[rfl,rfl,rfl,rfl]):QE X (.Call (.Attribute o "get" apos) [e] [] bc) (DD td ty):=#[XW hu ho.h he.h m1]
def kX(hp:PassesOwn (model X.prog X.w) X.A X.env X.xe)(hc:QT X a tA)(hb:QB X body tB):QS X (.While a body [] pos) (J4 tA tB):=#[T9 hp hc.h hb.h]
def JX(hc:QT X o tA)(ha:QE X a ta)(hb:QE X b tb):QE X (.IfExp o a b pos) (zP tA ta tb):=#[Tb hc.h ha.h hb.h]
end
end Dv
structure Ui(X:Cx)(π:List (Addr×Obj))(σ:St)(H:Hp)(ea C:Addr)(od:Option Addr)(s:Shared):Prop where
 fl:∃ B a0,Heap.FlyingW B (X.env::X.outer) ea (-C) a0 s.heap/\∀ h4:Heap,B.StaysIn h4->s.heap.UpToSlots h4->Inv X π σ H { s with heap:=h4 }
 hd:ed ea (-C) od s.heap
 free:H ea=none
 n0:X.s₀.heap.get? ea=none
 nL:ea≠X.env.locals
 nC:∀ x c,X.env.cells.lookup x=!c->c≠ea
 nP:∀ p∈X.pn++π,p.1≠ea
abbrev yH:=Ends->St->Addr->Option Addr->Hp->Prop
def  PH(X:Cx)(hs:List ExceptHandler)(t:yH):Prop:=∀ (π:List (Addr×Obj)) (s:Shared) (σ:St) (H:Hp) (D:Ends) (ea C:Addr) (od:Option Addr),Ui X π σ H ea C od s->t D σ C od H->wpAny (model X.prog X.w) X.A (handleBy (-ea) X.env hs) (SP X π D) X.xe s
section
variable {X:Cx}{K:ν}{Cc:Addr}{n x:Str}{suite:List Stmt}{b₀:Stmt}{np hpos pos:Pos}{th:TS}{tr:yH}{rest:List ExceptHandler}
end
structure QH(X:Cx)(hs:List ExceptHandler)(t:yH):Prop where
 h:PH X hs t
namespace Dv
section
variable {X:Cx}{K:ν}{Cc:Addr}{n x:Str}{suite:List Stmt}{b₀:Stmt}{np hpos pos:Pos}{th:TS}{tr:yH}{rest:List ExceptHandler}
end
end Dv
def  eW(a b:Str):Bool:=Bool.not (ltCps b.cps.toList a.cps.toList)
def  iq(ts:List Str):List Str:=ts.mergeSort eW
def wu{a b:Str}:eW a b=true ↔ ¬ b.cps.toList < a.cps.toList:=by
 unfold eW;rw[ltCps_eq];simp
def K8(a b c:Str)(h1:eW a b=true)(h2:eW b c=true):eW a c=true:=by
 rw[wu] at *;show Ja3.mpr (List.le_trans (Ja3.mp h1) (Ja3.mp h2))
def abd(a b:Str):(eW a b || eW b a)=true:=by
 cases h:eW a b with
 | true=>rfl
 | false =>
  have:¬ eW a b=true:=by rw[h];simp
  rw[wu,Classical.not_not]at this;simp only[Bool.false_or,wu];show Ja3.mpr (List.le_of_lt this)
def TK{a b:Str}(h1:eW a b=true)(h2:eW b a=true):a=b:=by
 rw[wu] at *;have:=List.le_antisymm (Ja3.mp h1) (Ja3.mp h2);let⟨x⟩:=a;let⟨y⟩:=b;show On Str.mk (Array.ext' this)
def J1(ts:List Str):(iq ts).Perm ts:=List.mergeSort_perm ts eW
def S7(ts:List Str):(iq ts).Pairwise (fun a b=>eW a b=true):=List.pairwise_mergeSort K8 abd ts
def HI(ts:List Str):(iq ts).length=ts.length:=(J1 ts).length_eq
def HU:∀ (p:Str) (l:List Str),risingS p l=true->(p::l).Pairwise (fun a b=>eW a b=true)
 | p,[],_=>List.pairwise_singleton _ _
 | p,x::r,h=>by
  have h':eW p x=true/\risingS x r=true:=by simpa [risingS,eW] using h
  have ih:=HU x r h'.2;show List.pairwise_cons.mpr #[fun y hy=>?_,ih];rcases lv.mp hy with e | hy
  ·show e ▸ h'.1
  ·show K8 p x y h'.1 (List.rel_of_pairwise_cons ih hy)
def K7:∀ (l:List Str),sortedS l=true->l.Pairwise (fun a b=>eW a b=true)
 | [],_=>.nil
 | x::r,h=>HU x r h
def Cd{us ts:List Str}(hp:us.Perm ts)(hs:us.Pairwise (fun a b=>eW a b=true)):us=iq ts :=
 List.Perm.eq_of_pairwise (fun a b _ _ h1 h2=>TK h1 h2) hs (S7 ts) (hp.trans (J1 ts).symm)
def Xi(x:Str):iq [x]=[x]:=(Cd (.refl _) (List.pairwise_singleton _ _)).symm
def JO:∀ {ts:List Str}{us:List Value},Vals (ts.map V.str) us->StrsAre us ts
 | [],_,.nil=>.nil
 | x::r,_,.cons h t=>by let⟨t',rfl⟩:=h;show .cons x t' (JO t)
def Ai:∀ {us:List Value}{ts:List Str},StrsAre us ts->Vals (ts.map V.str) us
 | _,_,.nil=>.nil
 | _,_,.cons y t h=>.cons #[t,rfl] (Ai h)
section
variable {X:Cx}
def  JC(K:ν):List V->Hp->VK->Prop:=fun xs H Q=>∃ p ts,xs=[-p]/\aB K H p (ts.map V.str)/\ts.length < 64/\∀ l,H l=none->Q (-l) (upd H l (.lst ((iq ts).map V.str)))
def WB:cJ X (.builtin "sorted") (JC X.K):=by
 intro π s σ H xs us Q I r h;let⟨p,ts,rfl,hq,EO,q⟩:=h;let⟨u,rfl,rx⟩:=vals1 r;cases rx;let⟨ai,r',pl,hz⟩:=I.list hq;have hlen:=r'.length;show sorted_strs pl.isList (JO r') (by rw[<- hlen];simpa using EO) fun out ss' a1 a2 a3=>?_;let⟨e,he⟩:=sortedAll_at s.heap ai out;have e1:ss'=iq ts:=Cd a2 (K7 _ a3);subst e1;show#[-(s.heap.objs.size+1),_,I.laid (t':=s.toks) (fun _ _=>sortedAll_old) (_W _) (show cg X.prog X.w _ _ _ (.lst ((iq ts).map V.str)) from#[?_,out.toList,e,Ai a1,?_]),rfl,q _ (I.aA.fresh (_W _))]
 ·rw[pi,HI];simpa using hz
 ·simpa [seqObj] using he
def  HR:List V->Hp->VK->Prop:=fun xs H Q=>∃ p kvs,∃ ts:List Str,xs=[-p]/\H p=!.dK kvs/\kvs.map (·.1)=ts.map Sum.inr/\ts.length < 64/\∀ l,H l=none->Q (-l) (upd H l (.lst ((iq ts).map V.str)))
def HZ{x:Str}{v:Value}(h:lB (.inr x) v=true):∃ t,v=Value.str x t:=Value.isStrOf_shape h
def Zx(hc:X.calm=true):cJ X (.builtin "sorted") HR:=by
 intro π s σ H xs us Q I r h;let⟨p,kvs,ts,rfl,hq,hk,EO,q⟩:=h;let⟨u,rfl,rx⟩:=vals1 r;cases rx;let⟨hz,hS,vs,rv,m⟩:kvs.length<=sizeLine/\(p == sysModules)=false/\∃ vs,KV kvs vs/\s.heap.DictOf (dI X.prog X.w) p vs:=I.aA p _ hq;let⟨ep,en⟩:=m.dictAt;have eG:kvs.length=ts.length:=by simpa using On List.length hk
 have Fg:vs.length=ts.length:=by rw[<- eG];simpa using (On List.length rv.keys).symm
 show Calls.call_function_entry kind_sorted plain_sorted entry_sorted (args_sorted1 _) ?_;unfold Builtin.«sorted»;show jp (m:=checkCount "sorted" 1 1 _) (ul ?_);show jp (W.kdu_collect (A:=X.A.in1) (W.kdl_dict (knd:=dI X.prog X.w) (kvs:=vs) (ep:=ep) hS) (I.ok.hd hc) en (by rw[Fg,<- eG];show hz) fun h' tk acc hk' gR=>?_);have hl:acc.toList.length=ts.length:=by rw[Uf,<- Fg];show gR.1
 have hS':StrsAre acc.toList ts:=by
  have key:∀ (l:List Value) (us:List Str),l.length=us.length->(∀ (j:Nat) (v:Value) (x:Str),l[j]?=!v->us[j]?=!x->∃ t,v=Value.str x t)->StrsAre l us:=by
   intro l
   induction l with
   | nil=>intro us e _;cases us with | nil=>show .nil | cons=>cases e
   | cons v l ih =>
    intro us e hh;cases us with
    | nil=>cases e
    | cons x us =>
     let⟨t,rfl⟩:=hh 0 v x rfl rfl;show .cons x t (ih us (by simpa using e) fun j v x h1 h2=>hh (j+1) v x h1 h2)
  show key _ _ hl fun j v x h1 h2=>?_;let⟨k,y,hx,o6⟩:=gR.2 j v (by rw[<- SC];show h1);have e1:(vs.map (·.1))[j]?=!k:=by rw[Da,hx];rfl
  rw[<- rv.keys,hk,Da,h2]at e1;cases e1;show HZ o6
 show jp (wpAny_newList ?_ (by rw[hl,<- eG];show hz));have l9:(h'.push (seqObj "list" acc.toList.toArray 0)).get? h'.objs.size=!seqObj "list" acc.toList.toArray 0:=wl _ rfl;show jp (Os (Ja1 slot_list_sort #[_,l9,rfl] entry_list_sort (list_sort_treeK strKind_oneLt l9 hS'.keysOf (fun v₁ v₂ rest e=>keyKind_strs (by rw[<- e];show hS')) (by rw[hl];show EO) fun st' a1 a2=>#[_,rfl,?_]) (args_list_sort _)));show ul #[_,rfl,?_];let⟨ss',b1,b2,b3⟩:=sorted_out_str hS' a1 a2;have e1:ss'=iq ts:=Cd b2 (K7 _ b3);subst e1;let⟨e,he⟩:=sortedHeap_at (out:=(arrOf st').map (·.2)) l9;have I1:Inv X π σ H { s with heap:=h',toks:=tk }:=I.kept (t':=tk) hk';show#[-h'.objs.size,_,I1.laid (t':=tk) (fun b o z=>?_) (lm _) (show cg X.prog X.w _ _ _ (.lst ((iq ts).map V.str)) from#[?_,_,e,Ai b1,?_]),rfl,q _ (I1.aA.fresh (lm _))]
 ·have hb:b < h'.objs.size:=wf z;rw[sortedHeap_old (zn hb) (by have:=_n h' (seqObj "list" acc.toList.toArray 0);rw[this];show _H hb)];show li _ z
 ·rw[pi,HI,<- eG];show hz
 ·rw[Ja4];show he
end
def  Mg(P:Program)(w:World)(K:ν)(mg:Str->Option Value)(base:Heap)(N:List Str)(qual:Str)(scope:Scope)(f:Addr)(cd:Value)(cl:List (Str×Addr))(A:Around)(outer:List Env)(s:Shared)(H:Hp)(E:XK):Cx where
 prog:=P
 w:=w
 K:=K
 mg:=mg
 base:=base
 A:=A.deeper (W.envX qual scope s.heap.objs.size f cd cl)
 N:=N
 s₀:=s
 H₀:=H
 env:=W.envX qual scope s.heap.objs.size f cd cl
 outer:=outer
 stack:=W.envX qual scope s.heap.objs.size f cd cl::outer
 ex:=[]
 calm:=true
 fn:=fun _=>false
 pn:=[]
 xe:=fun e s'=>wpAny (model P w) (A.deeper (W.envX qual scope s.heap.objs.size f cd cl)) (leaving (W.envX qual scope s.heap.objs.size f cd cl) e) (fun _ s''=>dh P w outer H s E e s'') (fun e' s''=>dh P w outer H s E e' s'') s'
def  xF(c:Addr)(q:Str):HO:=.ext fun h=>h.CodeRec (-c) q
structure Md(N:List Str)(scope:Scope)(cl:List (Str×Addr)):Prop where
 kind:scope.kind=.function
 co:scope.isCoroutine=false
 gen:scope.isGenerator=false
 abw:∀ x∈scope.names,x.2≠.cell
 free:∀ x∈N,scope.names.lookup x=!.free
 has:∀ x,scope.names.lookup x=!.free->∃ c,cl.lookup x=!c
 inj:∀ x y c,cl.lookup x=!c->cl.lookup y=!c->x=y
def  Qb(i:Nat)(f:Addr)(fC:Hp->VK->XK->Prop)(R:St->XK):TE:=fun σ H Q=>σ[i]?=!(!-f)/\fC H Q (R σ)
abbrev U7:=List Env->Shared->Sp
structure abK(P:Program)(w:World)(K:ν)(mg:Str->Option Value)(base:Heap)(CX:eK)(k:Nat)(f:Addr)(fd:FuncData)(ps:List Str)(sp:U7):Prop where
 len:∀ outer s vs H Q E,sp outer s vs H Q E->vs.length=ps.length
 run:∀ (A:Around) (outer:List Env) (s:Shared) (H:Hp) (args:Args) (us:List Value) (vs:List V) (Q:VK) (E:XK),bL k A->mD P w K mg base A outer s H->BindsTo s fd args (ps.zip us)->Vals vs us->sp outer s vs H Q E ->
  codeAny (model P w) A (.call (-f) args) (CR CX outer P w H s Q E) s
abbrev Ent:=Int×Int×Addr
def  K2:List Ent->List Value
 | []=>[]
 | e::r=>rawInt e.1::rawInt e.2.1::.ref e.2.2::K2 r
def  Ll(P:Addr)(es:List Ent):HO:=.ext fun h=>h.get? P=!W.tabObj (K2 es).toArray
structure Dj(H:Hp)(P:Addr)(q:Str)(es:List Ent):Prop where
 tab:H P=!Ll P es
 code:∀ e∈es,H e.2.2=!xF e.2.2 q
structure abL(X:Cx)(P:Addr)(params:Arguments)(scope:Scope)(eL:List (Str×Addr))(q:Str):Prop where
 dflt:defaultsOf params X.env=([],[])
 oU:closureFor scope X.env=pure eL
 code:∃ c,X.env.code=-c/\W.CodeHd X.base c P
 blt:X.base.BuiltinsAt X.mg P
 qual:X.env.qual ++ "<lambda>" = q
structure Ia(P:Addr)(q:Str)(c:Addr)(H H1:Hp):Prop where
 rest:∀ b,b≠P->b≠c->H1 b=H b
 code:H1 c=!xF c q
 old:H c=none\/H1=H
 tab:∃ es,Dj H1 P q es
abbrev jf:=Hp->VK->XK->Prop
def  Qo(c:Addr)(q:Str)(W:jf):jf:=fun H Q E=>H c=!xF c q/\W H Q E
def  xE(ix:List Nat)(σ:St)(vs:List V):Prop:=vs.length=ix.length/\∀ (i j:Nat) (v:V),ix[i]?=!j->vs[i]?=!v->σ[j]?=!(!v)
def  Ua(P:Addr)(q:Str)(ix:List Nat)(W:List V->jf)(FP:jf->jf)(R:St->XK):TE:=fun σ H Q =>
 ∃ es vs,Dj H P q es/\xE ix σ vs/\∀ c H1,Ia P q c H H1->FP (Qo c q (W vs)) H1 Q (R σ)
structure aao(X:Cx)(N':List Str)(ix:List Nat)(eL:List (Str×Addr)):Prop where
 len:ix.length=N'.length
 at':∀ (i j:Nat),ix[i]?=!j->∃ x,N'[i]?=!x/\X.N[j]?=!x/\X.env.scope.names.lookup x=!.cell
 oU:∀ x c,eL.lookup x=!c->X.env.cells.lookup x=!c
 cap:∀ x∈N',eL.lookup x=X.env.cells.lookup x
 own:∀ x c,eL.lookup x=!c->X.fn x=true
abbrev Qw:=List (Addr×Addr)
structure abO(tabs:Qw)(H:Hp):Prop where
 all:∀ b,H b=none\/(∃ o xs,H b=!.bX o (.lst xs))\/∃ q∈tabs,b=q.2
 tab:∀ q∈tabs,H q.2=!Ll q.2 []
section
variable {prog:Program}{w:World}{A:Around}{R:Result->Shared->Prop}{I:Addr}{fp wr:List Addr}{P:Nat->Value->Prop}{St:Nat->Heap->Prop}
def OQ(a d:Value):argsOk "min" #[[a],[("default",d)]]:=by unfold argsOk;kernel_rfl
def RV(W:Walks prog w A.in1 I fp wr 0 P St){S:Addr}{s:Shared}{c:Nat}{d:Value}(aQ:St 0 s.heap)(hS:s.heap.get? S=!{ cls:=.type "list",dict:=none,data:=.seq (List.toArray []) c,slots:=(List.toArray []) })(hR:∀ h' tk,(∀ b o,b ∉ wr->s.heap.get? b=!o->h'.get? b=!o)->R (.ok (.ret d)) { s with heap:=h',toks:=tk }) :
  codeAny (model prog w) A (.builtin "min.loop" #[[-I,.none,-S],[("default",d)]]) R s:=by
 show Ja9 F.entry_min_loop ?_;rw[Ja5 _O _];change wpAny _ A.in1 (seqItems? (-S) >>= _) _ _ s;show jp (Jaq hS rfl ?_);change wpAny _ A.in1 (tryCatch (pyNext (-I)) _ >>= _) _ _ s;show jp (wpAny_tryCatch (W.done s _ _ aQ fun h' tk hk'=>?_));show jp (wpAny_rule (ul (hR h' tk hk')))
def Rr(W:Walks prog w A.in1 I fp wr 1 P St){S:Addr}{s:Shared}{c:Nat}{d:Value}(rR:S ∉ fp)(aQ:St 0 s.heap)(hS:s.heap.get? S=!{ cls:=.type "list",dict:=none,data:=.seq (List.toArray []) c,slots:=(List.toArray []) })(hR:∀ v h' tk,P 0 v->(∀ b o,b ∉ wr->b≠S->s.heap.get? b=!o->h'.get? b=!o)->R (.ok (.ret v)) { s with heap:=h',toks:=tk }) :
  codeAny (model prog w) A (.builtin "min.loop" #[[-I,.none,-S],[("default",d)]]) R s:=by
 have NW:S ∉ wr:=fun h=>rR (W.sub _ h);have EX:(toString "min" ++ toString ".loop" : String) = "min.loop" := by decide
 show Ja9 F.entry_min_loop ?_;rw[Ja5 _O _];change wpAny _ A.in1 (seqItems? (-S) >>= _) _ _ s;show jp (Jaq hS rfl ?_);change wpAny _ A.in1 (tryCatch (pyNext (-I)) _ >>= _) _ _ s;show jp (wpAny_tryCatch (W.item 0 s _ _ ⋯ aQ fun v h' tk hP hst' hk'=>?_));have hS':=hk' S _ NW hS;change wpAny _ A.in1 (updateSeq S (fun _=>(List.toArray [v,v])) >>= _) _ _ _;show jp ?_;show wpAny_updateSeq hS' rfl ?_;rw[EX];show ul #[plainId_quiet _O _,?_];have key:∀ (s2:Shared) (c2:Nat),St 1 s2.heap->s2.heap.get? S=!{ cls:=.type "list",dict:=none,data:=.seq (List.toArray [v,v]) c2,slots:=(List.toArray []) }->(∀ h'' tk'',(∀ b o,b ∉ wr->b≠S->s2.heap.get? b=!o->h''.get? b=!o)->R (.ok (.ret v)) { s2 with heap:=h'',toks:=tk'' }) ->
   codeAny (model prog w) A (.builtin "min.loop" #[[-I,.none,-S],[("default",d)]]) R s2:=fun s2 c2 f6 hS2 hR2=>by
  show Ja9 F.entry_min_loop ?_;rw[Ja5 _O _];change wpAny _ A.in1 (seqItems? (-S) >>= _) _ _ s2;show jp (Jaq hS2 rfl ?_);change wpAny _ A.in1 (tryCatch (pyNext (-I)) _ >>= _) _ _ s2;show jp (wpAny_tryCatch (W.done s2 _ _ f6 fun h3 tk3 Oe=>?_));have hS3:=Oe S _ NW hS2;change wpAny _ A.in1 (updateSeq S (fun _=>(List.toArray [])) >>= _) _ _ _;show jp ?_;show wpAny_updateSeq hS3 rfl (jp (wpAny_letGo (ul ?_)));show hR2 _ tk3 fun b o hbw hbS e=>(IO _ _ (ut hbS)).trans (Oe b o hbw e)
 show key _ _ (W.frame _ _ _ hst' fun b oV o e=>(IO _ _ (fun h:S=b=>rR (by rw[h];show oV))).trans e) (UF _ hS' rfl) fun h'' tk'' hk''=>?_;show hR v h'' tk'' hP fun b o hbw hbS e=>hk'' b o hbw hbS ((IO _ _ (ut hbS)).trans (hk' b o hbw e))
def Sf{E:Value->Shared->Prop}{s:Shared}{x d:Value}{Q:Value->Shared->Prop}(h:wpAny (model prog w) A.in1 (pyIter x) (fun it s₂=>∃ I fp wr n P St,it=-I/\Walks prog w A.in1 I fp wr n P St/\St 0 s₂.heap/\(∀ b∈fp,b < s₂.heap.objs.size)/\n<=1 /\
   ∀ v h' tk,(n=0/\v=d\/n=1/\P 0 v)->(∀ b o,b ∉ wr->s₂.heap.get? b=!o->h'.get? b=!o)->Q v { s₂ with heap:=h',toks:=tk }) E s) :
  wpAny (model prog w) A (call (.builtin "min") [x] [("default",d)]) Q E s:=by
 have EX:(toString "min" ++ toString ".loop" : String) = "min.loop" := by decide
 show _w (_M F.plain_min F.entry_min ?_);have rY:wpAny (model prog w) A.in1 (Builtin.«min» #[[x],[("default",d)]]) (fun fin s'=>match fin with
   | .done f=>(match (Except.ok f:Result) with | .ok (.ret v)=>Q v s' | .ok _=>False | .error e=>E e s')
   | .again c'=>c'.quiet=true/\codeAny (model prog w) A c' (fun r s'=>match r with | .ok (.ret v)=>Q v s' | .ok _=>False | .error e=>E e s') s') E s:=by
  change wpAny _ A.in1 (Builtin.Builtins.bindParams "min" ["key","default"] 0 #[[],[("default",d)]] >>= _) _ _ s;show jp (wpAny_of_eq (show Builtin.Builtins.bindParams "min" ["key","default"] 0 #[[],[("default",d)]]=pure [none,!d] from rfl) ?_);show jp (ul ?_);show jp (Re h (fun it s₂ h₂=>?_) fun _ _ e=>e);let⟨I,fp,wr,n,P,St,rfl,W,aQ,EV,hn,hQ⟩:=h₂;show jp (_I ?_);have rR:s₂.heap.objs.size ∉ fp:=fun hm=>KB _ (EV _ hm);rw[EX];show ul #[plainId_quiet _O _,?_];have f6:=W.frame _ _ _ aQ (fun b _ o e=>li { cls:=.type "list",data:=.seq ([]:List Value).toArray } e)
  match n,hn,W,hQ with
  | 0,_,W,hQ =>
   show RV W f6 (wl _ rfl) fun h' tk hk=>?_;show hQ d h' tk (.inl #[rfl,rfl]) fun b o hbw e=>hk b o hbw (li _ e)
  | 1,_,W,hQ =>
   show Rr W rR f6 (wl _ rfl) fun v h' tk hP hk=>?_;show hQ v h' tk (.inr #[rfl,hP]) fun b o hbw e=>hk b o hbw (zn (wf e)) (li _ e)
 have ha:=OQ x d;simp only[checkBuiltinCall,F.kind_min];cases hsig:Manifest.signature? "min" with
 | none=>show ul rY
 | some sig =>
  have ha':Bind.checkArgs "min" sig #[[x],[("default",d)]]=pure .unit:=by simpa only [argsOk,hsig] using ha
  simp only[ha'];show ul rY
end
def  jP(h:Heap)(d:Addr)(es:Array DictEntry)(ep:Nat):Prop:=∃ o,h.get? d=!o/\o.ExactDict/\o.data=.dict es ep
def jP.at'{h h':Heap}{d:Addr}{es:Array DictEntry}{ep:Nat}(x:jP h d es ep)(k:∀ o,h.get? d=!o->h'.get? d=!o):jP h' d es ep:=let ⟨o,e,r⟩:=x;#[o,k o e,r]
section
variable {prog:Program}{w:World}{A:Around}{E:Value->Shared->Prop}{s:Shared}{es:Array DictEntry}
def jP.typeIs{d:Addr}{ep:Nat}(x:jP s.heap d es ep):s.TypeIs (-d) "dict" := let ⟨o,e,c,_⟩:=x;#[o,e,c.1]
def C8{d:Addr}{ep:Nat}{Q:Value->Shared->Prop}(hd:(d == sysModules)=false)(hm:jP s.heap d es ep)(hQ:Q (-s.heap.objs.size) { s with heap:=s.heap.push { cls:=.type "dict_keyiterator",data:=.fields (List.toArray [-d,.int 0 0,.int es.size 0,.int ep 0]) } }) :
  wpAny (model prog w) A (pyIter (-d)) Q E s:=by
 let⟨o,ho,hc,eS⟩:=id hm;have hT:=hm.typeIs;show wpAny_pyIter_slot hT F.slot_dict_iter (Ja1 F.slot_dict_iter hT F.entry_dict_iter ?_ (F.args_dict_iter_1 _));unfold Builtin.«dict.__iter__» Builtin.Dict.dictSlotNone;show jp (jp (wpAny_notOrdered_dict hT ?_));change wpAny _ _ (pure (Value.ref d)) _ _ s;show ul ?_;change wpAny _ _ (Builtin.Dict.showsAll d >>= _) _ _ s;unfold Builtin.Dict.showsAll;rw[wT (by rw[hd];show wP)];show jp (ul (jp (wpAny_dictEntries ho eS (jp (wpAny_dictEpoch ho eS ?_)))));show jp (_I (ul #[_,rfl,"dict_keyiterator",_,#[_,wl _ rfl,rfl],_D.lookup,?_]))
 simpa [rawInt] using hQ
def wy{it d:Addr}{i ep:Nat}{Q:Option Value->Shared->Prop}(hit:s.heap.IsKeyIter it d i es.size ep)(hm:jP s.heap d es ep)(h1:∀ bO:i < es.size,∀ h',h'.IsKeyIter it d (i+1) es.size ep->Heap.SameBut it s.heap h'->Q (!es[i].key) { s with heap:=h' })(h2:es.size<=i->A.handled=none/\∀ h',Heap.ExtBut it s.heap h'->Q none { s with heap:=h' }) :
  wpAny (model prog w) A (pyNext (-it)) Q E s:=by
 let⟨o,ho,hc,hd⟩:=id hit;let⟨od,Ny,dD,yQ⟩:=id hm;unfold pyNext;show jp (wpAny_attempt (wpAny_callSpecial?_slot (name:=Str.ofString "__next__") hit.typeIs _D
  (Ja1 _D hit.typeIs F.entry_dict_keyiterator_next ?_ (F.args_dict_keyiterator_next_1 _))))
 show jp (ul (jp (jp ?_)));show jp (_s hit.typeIs (ul ?_));show jp (wpAny_fieldsOf ho hd ?_);simp only[show Builtin.Dict_items.ownsTuple "dict_keyiterator" = false by decide,PP,_B];change wpAny _ _ (if (Value.ref d == Value.none)=true then _ else _) _ _ s;rw[wT (show ¬ ((Value.ref d == Value.none)=true) from wP)];show jp (ul (jp (wpAny_dictEntries Ny yQ ?_)));rw[wT ()];show jp (ul (jp (wpAny_dictEpoch Ny yQ ?_)));rw[wT ()];show ul ?_;rcases Nat.lt_or_ge i es.size with bO | rT
 ·simp only[show ¬ ((i:Int) < 0) from by omega,_B,Int.toNat_natCast,Array.getElem?_eq_getElem bO];show jp (jp (_s hit.typeIs (ul ?_)));show jp (wpAny_isOneOf_keyiter hit.typeIs ?_);change wpAny _ _ (setField (-it) 1 (rawInt ((i:Int)+1)) >>= _) _ _ s;show jp (wpAny_setField ho hd () ?_);have hit':(s.heap.update it (Obj.mapFields (·.setIfInBounds 1 (rawInt ((i:Int)+1))))).IsKeyIter it d (i+1) es.size ep :=
   #[_,UF _ ho (Obj.isFreed_of_fields (Jao hd _)),(Obj.cls_mapFields ..).trans hc,by rw[Jao hd];simp[rawInt]]
  show jp (Os (jp (wpAny_isOneOf_keyiter (s:={ s with heap:=s.heap.update it (Obj.mapFields (·.setIfInBounds 1 (rawInt ((i:Int)+1)))) }) hit'.typeIs ?_)));change wpAny _ _ (pure es[i].key) _ _ _;show ul (ul #[_,rfl,ul (h1 bO _ hit' (Heap.SameBut.update ..))])
 ·let⟨hh,hQ⟩:=h2 rT;simp only[show ¬ ((i:Int) < 0) from by omega,_B,Int.toNat_natCast,Array.getElem?_eq_none rT];show jp (jp (_s hit.typeIs (ul ?_)));change wpAny _ _ (setField (-it) 0 .none >>= _) _ _ s;show jp (wpAny_setField ho hd () ?_);change wpAny _ _ (newExc (.type "StopIteration") [] >>= _) _ _ _;show jp ?_;simp only[newExc,newTuple];show jp (_I ?_ (by size_fits));show jp (m:=firstArgMember _ _) (wpAny_of_eq (a:=Value.none) (by first | rfl | (simp only[firstArgMember];rfl)) ?_);show _I ?_ (by size_fits);simp only[raiseNew];show jp (wpAny_handled ?_);rw[show A.in1.handled=none from hh];show jp (ul (wpAny_throw ?_));show jp (wpAny_isInstance (T := "StopIteration") (b:=true) #[_,wl _ rfl,rfl] isSubtype_stop ?_);show ul (hQ _ (((Heap.SameBut.update ..).extBut.push _).push _))
def J9(hh:A.handled=none)(I d:Addr)(cX:d≠I)(es:Array DictEntry)(ep:Nat) :
  Walks prog w A I [I,d] [I] es.size (fun i v=>∃ e,es[i]?=!e/\v=e.key) (fun i h=>h.IsKeyIter I d i es.size ep/\jP h d es ep) where
 sub:=fun b hb=>by simp at hb;simp[hb]
 frame:=fun _ _ _ st hk=>#[st.1.at fun o e=>hk I () o e,st.2.at' fun o e=>hk d () o e]
 item:=fun i s Q E hi st hQ=>wy st.1 st.2 (fun bO h' hit' hs'=>hQ _ h' s.toks #[es[i],by simp[bO],rfl] #[hit',st.2.at' fun o e=>hs'.extBut d o cX e] fun b o hb e=>hs'.extBut b o (fun h=>hb (by simp[h])) e) fun rT=>absurd hi (Nat.not_lt.mpr rT)
 done:=fun s Q E st hQ=>wy st.1 st.2 (fun bO=>absurd bO (KB _)) fun _=>#[hh,fun h' he'=>hQ h' s.toks fun b o hb e=>he' b o (fun h=>hb (by simp[h])) e]
 self:=fun _ _ _ _ st hQ=>wpAny_pyIter_keyiter st.1 hQ
end
section
variable {X:Cx}
def  B7(te:TE):TE:=fun σ H Q=>te σ H fun x H1=>∃ a kvs,x=-a/\H1 a=!.dT kvs/\((kvs=[]/\Q .ao H1)\/∃ k v,kvs=[(k,v)]/\∀ p,H1 p=!.tup (k.map kV)->Q (-p) H1)
def Xg{e:Expr}{te:TE}{p p2 p3 pos:Pos}{j:Nat}(hc:X.calm=true)(hg:Gl X "min")(hm:X.mg "min" = none)(he:PE X e te)(hs:starEach [e] X.env=[(false,eval e X.env)]:=by rfl) :
  PE X (.Call (.Name "min" p) [e] [#[!"default",.Constant .none j p2,p3]] pos) (B7 te):=by
 intro π s σ H Q I h;show KM (oQ (u:=.builtin "min") I hg hm (by kernel_rfl) ?_);show callWith_kw ?_ (by rw[hs];rfl) (by rw[hs];rfl);rw[hs];change wpAny _ _ (spliced ((false,eval e X.env)::backTo pos [])) _ _ s;show _v (aE (he π s σ H _ I h) fun u s1 #[x,H1,I1,rx,a,kvs,ex,hd,q]=>_G ?_);subst ex;cases (show u=Value.ref a from rx);show kws_cons (Constant_none (kws_nil ?_));change wpAny _ _ (call (.builtin "min") [-a] [("default",.none)]) _ _ s1;let⟨hz,hS,xs,hp,o,es,ep,ho,hex,eS,pJ,wo⟩:=id (I1.aA a _ hd);show Sf (C8 hS #[o,ho,hex,eS] ?_);have bO:a < s1.heap.objs.size:=wf ho;have hW:=J9 (prog:=X.prog) (w:=X.w) (A:=X.A.in1) (I1.ok.hd hc) s1.heap.objs.size a (zn bO) es ep;have zc:(s1.heap.push { cls:=.type "dict_keyiterator",data:=.fields (List.toArray [-a,.int 0 0,.int es.size 0,.int ep 0]) }).IsKeyIter s1.heap.objs.size a 0 es.size ep/\jP (s1.heap.push { cls:=.type "dict_keyiterator",data:=.fields (List.toArray [-a,.int 0 0,.int es.size 0,.int ep 0]) }) a es ep :=
  #[#[_,wl _ rfl,rfl,rfl],#[o,li _ ho,hex,eS]]
 have EV:∀ b∈[s1.heap.objs.size,a],b < (s1.heap.push { cls:=.type "dict_keyiterator",data:=.fields (List.toArray [-a,.int 0 0,.int es.size 0,.int ep 0]) }).objs.size:=fun b hb=>by
  rw[_n];rcases lv.mp hb with e | hb
  ·rw[e];show GT _
  ·rw[wn.mp hb];show _H bO
 have kp:∀ h':Heap,(∀ b o,b ∉ [s1.heap.objs.size]->(s1.heap.push { cls:=.type "dict_keyiterator",data:=.fields (List.toArray [-a,.int 0 0,.int es.size 0,.int ep 0]) }).get? b=!o->h'.get? b=!o)->∀ b o,s1.heap.get? b=!o->h'.get? b=!o:=fun h' k b o e =>
  k b o (fun z=>by have z':=wn.mp z;have:=wf e;rw[z']at this;show KB _ this) (li _ e)
 have hsz:es.size=xs.length:=by rw[<- Uf,pJ,pi]
 show#[_,_,_,_,_,_,rfl,hW,zc,EV,?_,fun v h' tk hv hk=>?_]
 ·rcases q with ⟨rfl,_⟩ | ⟨k,v,rfl,_⟩
  ·cases hp;rw[hsz];show wS _
  ·cases hp with | cons _ t=>cases t;rw[hsz];show lm _
 ·have I2:Inv X π σ H1 { s1 with heap:=h',toks:=tk }:=I1.kept (t':=tk) (kp h' hk);rcases q with ⟨rfl,q⟩ | ⟨k,v',rfl,q⟩
  ·cases hp;rcases hv with ⟨_,rfl⟩ | ⟨h1,_⟩
   ·show#[.ao,H1,I2,rfl,q]
   ·rw[hsz]at h1;cases h1
  ·cases hp with
   | @cons _ y _ _ hh t =>
    cases t;rcases hv with ⟨h1,_⟩ | ⟨_,e,he,rfl⟩
    ·rw[hsz]at h1;cases h1
    ·rw[<- SC,pJ]at he;cases he;show#[-y.2.1,H1,I2,rfl,q _ hh.2.1]
end
def cM{f:Str}{v:V}{fs:List (Str×V)}{m:Nat}(h:fs.length<=m):(az f v fs).length<=m+1:=tz (Bw f v fs) (Ja0 h)
def  dz(fs gs:List (Str×V)):Prop:=∀ f,fs.lookup f=gs.lookup f
def dz.refl(fs:List (Str×V)):dz fs fs:=fun _=>rfl
def dz.put{fs gs:List (Str×V)}(h:dz fs gs)(f:Str)(v:V):dz (az f v fs) (az f v gs):=fun g=>by rw[eO,eO,h g]
section
variable {X:Cx}
def Za{π:List (Addr×Obj)}{σ:St}{H:Hp}{s:Shared}{Q:VK}{p:Addr}(hc:X.calm=true)(I:Inv X π σ H s)(hd:H p=!.dT [])(q:∀ l,H l=none->Q (-l) (upd H l (.lst []))) :
  wpAny (model X.prog X.w) X.A (call (.builtin "sorted") [-p]) (EP X π σ Q) X.xe s:=by
 let⟨hz,hS,xs,hp,o,es,ep,ho,hex,eS,pJ,wo⟩:=id (I.aA p _ hd);cases hp;have he:es=(List.toArray []):=by
  have:es.toList=[]:=pJ;show Array.toList_eq_nil_iff.mp this
 subst he;have en:s.heap.DictAt (dI X.prog X.w) p [] ep:=#[o,(List.toArray []),ho,hex,eS,fun e z=>absurd z (),.nil,.nil];show Calls.call_function_entry kind_sorted plain_sorted entry_sorted (args_sorted1 _) ?_;unfold Builtin.«sorted»;show jp (m:=checkCount "sorted" 1 1 _) (ul ?_);show jp (W.kdu_collect (A:=X.A.in1) (W.kdl_dict (knd:=dI X.prog X.w) (kvs:=[]) (ep:=ep) hS) (I.ok.hd hc) en (wS _) fun h' tk acc hk' gR=>?_);have ha:acc=(List.toArray []):=Array.eq_empty_of_size_eq_zero gR.1;subst ha;show jp (wpAny_newList ?_ (wS _));have l9:(h'.push (seqObj "list" ([]:List Value).toArray 0)).get? h'.objs.size=!seqObj "list" ([]:List Value).toArray 0:=wl _ rfl;show jp (Os (Ja1 slot_list_sort #[_,l9,rfl] entry_list_sort (list_sort_treeK strKind_oneLt (vs:=[]) l9 (StrsAre.nil).keysOf (fun v₁ v₂ rest e=>nomatch e) ⋯ fun st' a1 a2=>#[_,rfl,?_]) (args_list_sort _)));show ul #[_,rfl,?_];let⟨e,he⟩:=sortedHeap_at (out:=(arrOf st').map (·.2)) l9;have aQ:arrOf st'=(List.toArray []):=Array.eq_empty_of_size_eq_zero (a1.size_eq.trans (pairsOf_size []));rw[aQ,Array.map_empty]at he;have I1:Inv X π σ H { s with heap:=h',toks:=tk }:=I.kept (t':=tk) hk';rw[aQ,Array.map_empty];show#[-h'.objs.size,_,I1.laid (t':=tk) (fun b o z=>?_) (lm _) (show cg X.prog X.w _ _ _ (.lst []) from#[wS _,[],e,.nil,he]),rfl,q _ (I1.aA.fresh (lm _))];have hb:b < h'.objs.size:=wf z;rw[sortedHeap_old (zn hb) (by have:=_n h' (seqObj "list" ([]:List Value).toArray 0);rw[this];show _H hb)];show li _ z
def  Qn(K:ν):List V->Hp->VK->Prop:=fun xs H Q=>JC K xs H Q\/HR xs H Q\/∃ p,xs=[-p]/\H p=!.dT []/\∀ l,H l=none->Q (-l) (upd H l (.lst []))
def Qr{K:ν}(h:X.K=K)(hc:X.calm=true):cJ X (.builtin "sorted") (Qn K):=by
 subst h;intro π s σ H xs us Q I r h;rcases h with h | h | ⟨p,rfl,hd,q⟩
 ·show WB π s σ H xs us Q I r h
 ·show Zx hc π s σ H xs us Q I r h
 ·let⟨u,rfl,rx⟩:=vals1 r;cases rx;show Za hc I hd q
def Zo:bootBuiltins "sorted" = !.builtin "sorted":=by kernel_rfl
def Dv.minD{e:Expr}{te:TE}{p p2 p3 pos:Pos}{j:Nat}(hc:X.calm=true)(hm:X.mg "min" = none)(he:QE X e te)(hg:Gl X "min" := by rfl)(hs:starEach [e] X.env=[(false,eval e X.env)]:=by rfl) :
  QE X (.Call (.Name "min" p) [e] [#[!"default",.Constant .none j p2,p3]] pos) (B7 te):=#[Xg hc hg hm he.h hs]
end
structure kL(K:ν)(x qual:Str)(st:Stmt)(f:Addr)(fd:FuncData)(ds:List Value):Prop where
 ex:∃ (oc:Value) (od:Option Addr) (dt:Addr) (kV doc pm:Value) (an:Option Addr) (ax ct:Value) (ei:Array (Option Value)) (o:Obj) (n:Nat),
  fd=W.fnOf x qual (fm st) (aW st) (aD st) (-dt) kV doc pm an ax ct/\K.lookup f=!#[oc,od,.func fd,ei]/\W.codeIn K ax qual=true/\K.lookup dt=!o/\o.data=.seq ds.toArray n
 kp:W.keepIn K (-f)=true
section
variable {P:Program}{w:World}{K:ν}{mg:Str->Option Value}{base:Heap}{CX:eK}{x qual:Str}{st:Stmt}{f:Addr}{fd:FuncData}{N ps:List Str}{k:Nat}{ds:List Value}
def kL.fG{sp:Sp}(F:kL K x qual st f fd ds)(S:aF N ps (aD st))(len:∀ vs H Q E,sp vs H Q E->vs.length=ps.length)(hb:∀ (ax:Value) (A:Around) (outer:List Env) (s:Shared) (H:Hp) (vs:List V) (Q:VK) (E:XK),bL k (A.deeper (envOfC qual (aD st) s.heap.objs.size f ax))->sp vs H Q E ->
   ∃ t,eE (ij CX P w K mg base N qual (aD st) f ax A outer s H E) (aW st) t/\t { nx:=fun _ H'=>Q .ao H',rt:=Q } (start N vs) H):aC P w K mg base CX (k+1) f fd ps sp:=by
 let⟨oc,od,dt,kV,doc,pm,an,ax,ct,ei,o,n,rfl,lk,dD,_⟩:=F.ex;show En lk dD S len fun A outer s H vs Q E hr gQ=>hb ax A outer s H vs Q E hr gQ
def kL.ok{sp:Sp}(F:kL K x qual st f fd ds)(S:aF N ps (aD st))(len:∀ vs H Q E,sp vs H Q E->vs.length=ps.length)(hb:∀ (ax:Value) (A:Around) (outer:List Env) (s:Shared) (H:Hp) (vs:List V) (Q:VK) (E:XK),bL k (A.deeper (envOfC qual (aD st) s.heap.objs.size f ax))->sp vs H Q E ->
   ∃ t,eE (ij aM P w K mg base N qual (aD st) f ax A outer s H E).qH (aW st) t/\t { nx:=fun _ H'=>Q .ao H',rt:=Q } (start N vs) H):aC P w K mg base aM (k+1) f fd ps sp :=
 F.fG S len fun ax A outer s H vs Q E hr gQ=>by
  let⟨t,h,q⟩:=hb ax A outer s H vs Q E hr gQ;show#[t,h.qH,q]
def O6{oc:Value}{od an:Option Addr}{ei:Array (Option Value)}{kV doc pm ax ct:Value}{dt:Addr}{o:Obj}{n:Nat}(l:K.lookup f=!#[oc,od,.func (W.fnOf x qual (fm st) (aW st) (aD st) (-dt) kV doc pm an ax ct),ei])(c:W.codeIn K ax qual=true)(k:W.keepIn K (-f)=true)(ld:K.lookup dt=!o)(hd:o.data=.seq ds.toArray n):kL K x qual st f (W.fnOf x qual (fm st) (aW st) (aD st) (-dt) kV doc pm an ax ct) ds :=
 #[#[oc,od,dt,kV,doc,pm,an,ax,ct,ei,o,n,rfl,l,c,ld,hd],k]
end
section
variable {X:Cx}
end
def fk{X:Cx}:oJ X (fun _=>E0) where
 pass:=fun π σ H s e s' I hc=>by
  let⟨ea,C,od,H',rfl,F,hE⟩:=hc;show hE.elim
section
variable {X:Cx}
end
def  jt{α:Type}(p:α->Prop):List α->Prop
 | []=>True
 | a::r=>p a/\jt p r
def jt.mem{α:Type}{p:α->Prop}:∀ {l:List α},jt p l->∀ a∈l,p a
 | _::_,h,a,ha=>by
  rcases lv.mp ha with rfl | ha
  ·show h.1
  ·show jt.mem h.2 a ha
section
variable {X:Cx}
def xZ{π:List (Addr×Obj)}{σ:St}{H:Hp}{s:Shared}{A:Around}{a b:Addr}{xs ys:List V}(I:Inv X π σ H s)(ha:aB X.K H a xs)(hb:aB X.K H b ys)(h0:xs=[]\/ys=[])(hu:A.units < cLine) :
  SeqAt.RcAt A s (-a) (-b) (decide (xs=ys))/\SeqAt.RcNeAt A s (-a) (-b) (Bool.not (decide (xs=ys))):=by
 let⟨i1,r1,p1,_⟩:=I.list ha;let⟨i2,r2,p2,_⟩:=I.list hb;have n1:i1.toArray.size=xs.length:=by rw[sB,<- r1.length]
 have n2:i2.toArray.size=ys.length:=by rw[sB,<- r2.length]
 by_cases h:xs.length=ys.length
 ·have e1:xs=[]:=by
   rcases h0 with e | e
   ·show e
   ·rw[e]at h;show Pi.mp h
  have e2:ys=[]:=by rw[e1]at h;show Pi.mp h.symm
  subst e1 e2;have hsz:i1.toArray.size=i2.toArray.size:=by rw[n1,n2]
  have hz:i1.toArray.size=0:=n1;have k1:=SeqAt.RcAt.lists (A:=A) (s:=s) (e:=fun _=>true) p1.isList p2.isList hsz hu (fun j g1 g2=>absurd g1 (by rw[hz];show Jaa _));have k2:=Jan (A:=A) (s:=s) (e:=fun _=>true) p1.isList p2.isList hsz hu (fun j g1 g2=>absurd g1 (by rw[hz];show Jaa _));rw[hz]at k1 k2;show#[k1,k2]
 ·have hsz:(i1.toArray.size != i2.toArray.size)=true:=by rw[n1,n2];simpa using h
  have e:decide (xs=ys)=false:=kt fun z=>h (by rw[z]);rw[e];show#[SeqAt.RcAt.lists_lengths p1.isList p2.isList hsz hu,SeqAt.RcNeAt.lists_lengths p1.isList p2.isList hsz hu]
def  rp(K:ν)(neg:Bool):R2:=fun x y H Q=>match x,y with
 | .ref a,-b=>∃ xs ys:List V,aB K H a xs/\aB K H b ys/\((ys=[]/\Q (.bl (neg ^^ xs.isEmpty)) H)\/(xs=[]/\Q (.bl (neg ^^ ys.isEmpty)) H))
 | _,_=>False
def IA{xs ys:List V}(h:ys=[]):decide (xs=ys)=xs.isEmpty:=by subst h;cases xs <;> simp
def KS{xs ys:List V}(h:xs=[]):decide (xs=ys)=ys.isEmpty:=by subst h;cases ys <;> simp
def SQ{K:ν}(hK:X.K=K)(hu:X.A.units < cLine):aZ X (compareOp .Eq) (rp K false):=by
 subst hK;intro π s σ H x y v u Q I rx ry h;unfold rp at h;split at h
 ·let⟨xs,ys,ha,hb,q⟩:=h;cases rx;cases ry;simp only[Bool.false_bne]at q;rcases q with ⟨e,q⟩ | ⟨e,q⟩
  ·show(xZ I ha hb (.inr e) hu).1 _ _ _ _ #[.bl _,H,I,rfl,by rw[IA e];show q]
  ·show(xZ I ha hb (.inl e) hu).1 _ _ _ _ #[.bl _,H,I,rfl,by rw[KS e];show q]
 ·show h.elim
def aaV{K:ν}(hK:X.K=K)(hu:X.A.units < cLine):aZ X (compareOp .NotEq) (rp K true):=by
 subst hK;intro π s σ H x y v u Q I rx ry h;unfold rp at h;split at h
 ·let⟨xs,ys,ha,hb,q⟩:=h;cases rx;cases ry;simp only[Bool.true_bne]at q;rcases q with ⟨e,q⟩ | ⟨e,q⟩
  ·show(xZ I ha hb (.inr e) hu).2 _ _ _ _ #[.bl _,H,I,rfl,by rw[IA e];show q]
  ·show(xZ I ha hb (.inl e) hu).2 _ _ _ _ #[.bl _,H,I,rfl,by rw[KS e];show q]
 ·show h.elim
def  Em:V->List V->Hp->VK->Prop:=fun x vs H Q=>match x,vs with
 | .ref l,[]=>∃ xs y,H l=!.lst (xs++[y])/\Q y (upd H l (.lst xs))
 | _,_=>False
def J8:cP X "list.pop" Em:=cP.imp (r:=Gb) Yx fun x vs H Q h=>by
 unfold Em at h;split at h
 ·let⟨xs,y,hl,q⟩:=h;show#[_,xs++[y],y,rfl,rfl,hl,?_,?_]
  ·simp
  ·rw[Ja6];show q
 ·show h.elim
def  zZ:V->List V->Hp->VK->Prop:=fun x vs H Q=>match x,vs with
 | .ref l,[]=>∃ xs,H l=!.lst xs/\Q .ao (upd H l (.lst []))
 | _,_=>False
def Q5:cP X "list.clear" zZ:=cP.imp (r:=HG) Z3 fun x vs H Q h=>by
 unfold zZ at h;split at h
 ·let⟨xs,hl,q⟩:=h;show#[_,xs,rfl,rfl,hl,q]
 ·show h.elim
def  ZW:List V->Hp->VK->Prop:=fun xs H Q=>∃ p kvs,xs=[-p]/\H p=!.dT kvs/\∀ l (ks:List Addr),ks.length=kvs.length->(∀ (i:Nat) (a:Addr) (k:List Key) (v:V),ks[i]?=!a->kvs[i]?=!(k,v)->H a=!.tup (k.map kV))->H l=none ->
 Q (-l) (upd H l (.lst (ks.map V.ref)))
end
def VU{prog:Program}{w:World}{d:Addr}{es:Array DictEntry}{ep:Nat}(lo:(d == sysModules)=false):W.KdlSrc prog w "dict" d d es.size (fun i v=>∃ e,es[i]?=!e/\v=e.key) (fun h=>jP h d es ep) where
 type:=fun _ hm=>hm.typeIs
 there:=fun _ hm=>let ⟨_,e,_⟩:=hm;#[wf e,wf e]
 keep:=fun _ _ hm hk=>hm.at' fun o e=>hk d (.inl rfl) o e
 notList:=⋯
 notTuple:=⋯
 hint:=fun _ _ _ _ hm hq=>W.kdl_hint_dict hm.typeIs hq
 iter:=fun _ _ hh hm=>#[_,_,(fun _ _ hq=>C8 lo hm hq),J9 hh _ d (let ⟨_,e,_⟩:=hm;zn (wf e)) es ep,#[#[_,wl _ rfl,rfl,rfl],hm.at' fun o e=>li _ e]]
def Au{α β:Type}{F:α->β->Prop}:∀ {l₁:List α}{l₂:List β},Paired F l₁ l₂->∀ {i:Nat}{a:α}{b:β},l₁[i]?=!a->l₂[i]?=!b->F a b
 | _,_,.cons h _,0,_,_,e1,e2=>by cases e1;cases e2;show h
 | _,_,.cons _ t,i+1,_,_,e1,e2=>Au t e1 e2
section
variable {X:Cx}
def Co:∀ {vs:List V}{us:List Value},vs.length=us.length->(∀ (i:Nat) (v:V) (u:Value),vs[i]?=!v->us[i]?=!u->RelV v u)->Vals vs us
 | [],[],_,_=>.nil
 | v::vs,u::us,e,h=>.cons (h 0 v u rfl rfl) (Co (by simpa using e) fun i v u h1 h2=>h (i+1) v u h1 h2)
def ZR(hc:X.calm=true):cJ X (.type "list") ZW:=by
 intro π s σ H xs us Q I r h;let⟨p,kvs,rfl,hd,q⟩:=h;let⟨u,rfl,rx⟩:=vals1 r;cases rx;let⟨hz,hS,ys,hp,o,es,ep,ho,hex,eS,pJ,wo⟩:=id (I.aA p _ hd);have hsz:es.size=ys.length:=by rw[<- Uf,pJ,pi]
 have lV:kvs.length=ys.length:=hp.length;show W.kdl_call (VU (prog:=X.prog) (w:=X.w) (ep:=ep) (es:=es) hS) (I.ok.hd hc) #[o,ho,hex,eS] (by rw[hsz,<- lV];show hz) fun h' tk acc c hk hD gR=>?_;have hal:acc.toList.length=ys.length:=by rw[Uf,gR.1,hsz]
 have hv:Vals ((ys.map (·.2.1)).map V.ref) acc.toList:=by
  show Co (by simp[hal]) fun i v u h1 h2=>?_;let⟨e,he,rfl⟩:=gR.2 i u (by rw[<- SC];show h2);rw[<- SC,pJ,Da]at he;rw[SL,Da]at h1;cases hy:ys[i]? with
  | none=>rw[hy]at h1;cases h1
  | some y =>
   rw[hy]at h1 he;cases h1;cases he;show rfl
 show#[-s.heap.objs.size,_,I.laid (t':=tk) hk (lm _) (show cg X.prog X.w _ _ _ (.lst ((ys.map (·.2.1)).map V.ref)) from#[?_,_,c,hv,?_]),rfl,q _ (ys.map (·.2.1)) ?_ (fun i a k v h1 h2=>?_) (I.aA.fresh (lm _))]
 ·simp only[pi];rw[<- lV];show hz
 ·rw[Ja4];show hD
 ·rw[pi,lV]
 ·rw[Da]at h1;cases hy:ys[i]? with
  | none=>rw[hy]at h1;cases h1
  | some y =>
   rw[hy]at h1;cases h1;have z:=Au hp h2 hy;show z.2.1
end
def Zy:typeLookup (.type "list_reverseiterator") "__len__" = pure none:=by rw[typeLookup_type,builtinLookup_eq_fast];kernel_rfl
def RF:typeLookup (.type "list_reverseiterator") "__length_hint__" = pure (!.builtin "list_reverseiterator.__length_hint__"):=by rw[typeLookup_type,builtinLookup_eq_fast];kernel_rfl
section
variable {prog:Program}{w:World}{A:Around}{E:Value->Shared->Prop}{s:Shared}{I:Addr}
def aaY{Q:Bool->Shared->Prop}(hT:s.TypeIs (-I) "list_reverseiterator")(h:Q false s):wpAny (model prog w) A (Builtin.List.listLengthHint (-I)) Q E s:=by
 unfold Builtin.List.listLengthHint;show jp (wpAny_specialOf hT Zy ?_);change wpAny _ A (specialOf (Value.ref I) (Str.ofString "__length_hint__") >>= _) _ _ _;show jp (wpAny_specialOf hT RF ?_);generalize hid:("list_reverseiterator.__length_hint__" : String)=id0
 wp_delta
 rw[show splitId id0=some ("list_reverseiterator","__length_hint__") from by subst hid;decide +kernel];subst hid;show jp (wpAny_isInstance (T := "list_reverseiterator") (b:=true) hT (by rw[isSubtype_type];kernel_rfl) ?_);show Jab (fun fW=>absurd fW ⋯) (fun _=>?_);show Jab (fun _=>?_) (fun fW=>absurd (by decide +kernel) fW);show Jab (fun fW=>absurd fW (by decide +kernel)) (fun _=>?_);show ul h
def Vv{R:Result->Shared->Prop}{l S:Addr}{items:Array Value}{res:Value}{c₀:Nat}(hh:A.handled=none)(hit:s.heap.IsRevIter I l ((items.size:Int) - 1))(hl:s.heap.IsList l items)(cX:l≠I)(Oi:S≠I)(hSl:S≠l)(hn:items.size<=sizeLine)(hS:s.heap.get? S=!{ cls:=.type "list",data:=.seq (List.toArray []) c₀ })(hR:∀ h' tk acc' c',(∀ b o,b≠S->b≠I->s.heap.get? b=!o->h'.get? b=!o)->h'.get? S=!{ cls:=.type "list",dict:=none,data:=.seq acc' c',slots:=(List.toArray []) }->ItemsOf (fun i v=>items[items.size - 1 - i]?=!v) acc' items.size->R (.ok (.ret res)) { s with heap:=h',toks:=tk }) :
  wpAny (model prog w) A.in1 (Builtin.List.listExtendWith (-S) (-I) res)
   (fun fin s'=>match fin with | .done f=>R (.ok f) s' | .again c'=>c'.quiet=true/\codeAny (model prog w) A c' R s') (fun e s'=>R (.error e) s') s:=by
 have W:=Walks.listRev (prog:=prog) (w:=w) (A:=A.in1) hh I l cX items;have rR:S ∉ [I,l]:=by simp only[lv,sK,AT,_y];show#[Oi,hSl]
 have zc:0<=items.size/\s.heap.IsRevIter I l ((items.size:Int) - 1 - ((0:Nat):Int))/\s.heap.IsList l items:=#[wS _,by simpa using hit,hl];unfold Builtin.List.listExtendWith;show jp (wpAny_typeOf hit.typeIs ?_);have h1:Builtin.List.listSameRef (-S) (-I)=false:=by simp[Builtin.List.listSameRef,Oi]
 simp only[h1,show(Value.type "list_reverseiterator" == Value.type "list")=false by decide,show(Value.type "list_reverseiterator" == Value.type "tuple")=false by decide,Jas,PP,_B];show jp (W.self 0 _ _ _ zc ?_);show jp (Os (aaY hit.typeIs ?_));show Jab (fun h=>absurd h ⋯) (fun _=>ul #[plainId_quiet PySem.F.plain_extend_loop _,?_]);show codeAny_extend_loopS W.toS hn S rR res items.size 0 _ (List.toArray []) c₀ rfl (wS _) zc hS (ItemsOf.nil _) fun s' acc' c' hm hS' gR=>?_;rw[Moved.eq_with hm];show hR s'.heap s'.toks acc' c' (fun b o hb hb' e=>hm.heap b o (fun iU=>?_) e) hS' gR;rcases lv.mp iU with e' | iU
 ·show hb e'
 ·show hb' (wn.mp iU)
def XC{Q:Value->Shared->Prop}{l:Addr}{items:Array Value}(hh:A.handled=none)(hit:s.heap.IsRevIter I l ((items.size:Int) - 1))(hl:s.heap.IsList l items)(cX:l≠I)(hn:items.size<=sizeLine)(hQ:∀ h' tk acc' c',(∀ b o,b≠I->s.heap.get? b=!o->h'.get? b=!o)->h'.get? s.heap.objs.size=!{ cls:=.type "list",dict:=none,data:=.seq acc' c',slots:=(List.toArray []) }->ItemsOf (fun i v=>items[items.size - 1 - i]?=!v) acc' items.size ->
   Q (-s.heap.objs.size) { s with heap:=h',toks:=tk }):wpAny (model prog w) A (call (.type "list") [-I]) Q E s:=by
 have hIlt:I < s.heap.objs.size:=let ⟨_,e,_⟩:=hit;wf e
 have hllt:l < s.heap.objs.size:=let ⟨_,e,_⟩:=hl;wf e
 show callType_codes (Q₁:=fun obj s₁=>obj=-s.heap.objs.size/\s₁={ s with heap:=s.heap.push { cls:=.type "list",data:=.seq (List.toArray []) } }) PySem.F.called_list (PySem.F.typeCall_list_1 _) PySem.F.entry_list_init
  (code_list_new _ #[rfl,rfl]) fun obj s₁ h₁=>?_
 let⟨rfl,rfl⟩:=h₁;have hS:(s.heap.push { cls:=.type "list",data:=.seq (List.toArray []) }).get? s.heap.objs.size=!{ cls:=.type "list",data:=.seq (List.toArray []) }:=wl _ rfl;show#[#[_,hS,rfl],PySem.F.args_list_init_2 _ _,?_];change wpAny _ _ (do let old <- Builtin.List.listItems (-s.heap.objs.size);Builtin.List.listUpdate (-s.heap.objs.size) (fun _=>(List.toArray []));letGo old.toList.reverse;Builtin.List.listExtendWith (-s.heap.objs.size) (-I) .none) _ _ _;show jp ?_;unfold Builtin.List.listItems;show jp (Jaq hS rfl (ul ?_));change wpAny _ _ (updateSeq s.heap.objs.size (fun _=>(List.toArray [])) >>= fun _=>letGo ((List.toArray []):Array Value).toList.reverse >>= fun _=>Builtin.List.listExtendWith (-s.heap.objs.size) (-I) .none) _ _ _;show jp (wpAny_updateSeq hS rfl ?_);have hS₂:=UF (Obj.mapSeq (fun _=>((List.toArray []):Array Value))) hS rfl;have FW:∀ b o,s.heap.get? b=!o->((s.heap.push { cls:=.type "list",data:=.seq (List.toArray []) }).update s.heap.objs.size (Obj.mapSeq (fun _=>((List.toArray []):Array Value)))).get? b=!o :=
  fun b o e=>(IO _ _ (_0 (wf e))).trans (li _ e)
 show jp (wpAny_letGo ?_);show Vv (A:=A.in1) hh (hit.at fun o e=>FW _ o e) (hl.at fun o e=>FW _ o e) cX (_0 hIlt) (_0 hllt) hn hS₂ fun h' tk acc' c' hk hS' gR=>?_;show#[rfl,hQ h' tk acc' c' (fun b o hb e=>hk b o (zn (wf e)) hb (FW b o e)) hS' gR]
end
section
variable {X:Cx}
def  zG(K:ν)(te:TE):TE:=fun σ H Q=>te σ H fun x H1=>∃ p ys,x=-p/\aB K H1 p ys/\∀ l,H1 l=none->Q (-l) (upd H1 l (.lst ys.reverse))
def W7{e:Expr}{te:TE}{p q pos qos:Pos}(hc:X.calm=true)(hg:Gl X "list")(hm:X.mg "list" = none)(Fs:Gl X "reversed")(nh:X.mg "reversed" = none)(he:PE X e te)(hs:starEach [e] X.env=[(false,eval e X.env)]:=by rfl) :
  PE X (.Call (.Name "list" p) [.Call (.Name "reversed" q) [e] [] qos] [] pos) (zG X.K te):=by
 intro π s σ H Q I h;show KM (oQ (u:=.type "list") I hg hm (by kernel_rfl) ?_);show WF ?_;change wpAny _ _ (spliced ((false,eval (.Call (.Name "reversed" q) [e] [] qos) X.env)::backTo pos (starEach [] X.env))) _ _ s;show _v ?_;show KM (oQ (u:=.type "reversed") I Fs nh (by kernel_rfl) ?_);show WF ?_ (by rw[hs];rfl) (by rfl);rw[hs];change wpAny _ _ (spliced ((false,eval e X.env)::backTo qos [])) _ _ s;show _v (aE (he π s σ H _ I h) fun u s1 #[x,H1,I1,rx,a,ys,ex,hl,q]=>_G ?_);subst ex;cases (show u=Value.ref a from rx);let⟨ai,r',pl,hz⟩:=I1.list hl;have hlen:=r'.length;let⟨oa,hoa,_⟩:=pl.isList;have halt:a < s1.heap.objs.size:=wf hoa;show call_reversed_list pl.isList ?_;show _G ?_;show XC (I1.ok.hd hc) (l:=a) (items:=ai.toArray) #[_,wl _ rfl,rfl,rfl] (pl.isList.at fun o e=>li _ e) (zn halt) (by rw[sB,<- hlen];show hz) fun h' tk acc c hk hD gR=>?_;have kp:∀ b o,s1.heap.get? b=!o->h'.get? b=!o:=fun b o e=>hk b o (zn (wf e)) (li _ e);have hsz:s1.heap.objs.size<=(s1.heap.push (revObj a ((ai.toArray.size:Int) - 1))).objs.size:=by rw[_n];show _W _
 have hv:Vals ys.reverse acc.toList:=by
  have ha:acc.size=ai.length:=by rw[gR.1,sB]
  show Co (by rw[_R,hlen,<- ha];show Uf.symm) fun i v u h1 h2=>?_;have hu:=gR.2 i u (by rw[<- SC];show h2);have hi:i < ys.length:=by have:=(ss.mp h1).1;rwa [_R]at this
  rw[List.getElem?_reverse hi]at h1;let⟨w,hw,rw'⟩:=r'.get h1;rw[List.getElem?_toArray,sB,<- hlen,hw]at hu;cases hu;show rw'
 show#[-_,_,I1.laid (t':=tk) kp hsz (show cg X.prog X.w _ _ _ (.lst ys.reverse) from#[by rw[_R];show hz,_,c,hv,by rw[Ja4];show hD]),rfl,q _ (I1.aA.fresh hsz)]
def Dv.listRev{e:Expr}{te:TE}{p q pos qos:Pos}{K:ν}(hK:X.K=K)(hc:X.calm=true)(hm:X.mg "list" = none)(nh:X.mg "reversed" = none)(he:QE X e te)(hg:Gl X "list" := by rfl)(Fs:Gl X "reversed" := by rfl)(hs:starEach [e] X.env=[(false,eval e X.env)]:=by rfl) :
  QE X (.Call (.Name "list" p) [.Call (.Name "reversed" q) [e] [] qos] [] pos) (zG K te):=hK ▸ #[W7 hc hg hm Fs nh he.h hs]
end
def abA{K:ν}{x:Str}{f c P:Addr}{oc occ:Value}{od odc:Option Addr}{fd:FuncData}{sl slc:Array (Option Value)}{vs:Array Value}(n:W.nsIn K mainGlobals x=!(!-f))(l:K.lookup f=!#[oc,od,.func fd,sl])(hc:fd.code=-c)(lc:K.lookup c=!#[occ,odc,.fields vs,slc])(hv:vs[11]?=!-P):W.tabIn K x=!(c,P):=by
 unfold W.tabIn;simp only[n,l,hc,lc,hv]
def  cL(X:Cx)(scope:Scope)(cl:List (Str×Addr))(N:List Str)(s:Shared)(H:Hp)(ex:List Addr)(C:Addr):Cx :=
 { X with N:=N,s₀:=s,H₀:=H,env:=compEnvC scope cl C X.env,outer:=X.stack,stack:=X.stack,ex:=ex,fn:=fun _=>false,pn:=[],xe:=fun _ _=>False }
structure jW(X:Cx)(scope:Scope)(cl:List (Str×Addr))(caps:List Str)(ix:List Nat):Prop where
 oU:closureFor scope X.env=pure cl
 sub:∀ x c,cl.lookup x=!c->X.env.cells.lookup x=!c
 has:∀ y,((relabel scope X.env).names.lookup y=!.cell\/(relabel scope X.env).names.lookup y=!.free)->∃ c,cl.lookup y=!c
 len:ix.length=caps.length
 at':∀ (i j:Nat),ix[i]?=!j->∃ x,caps[i]?=!x/\X.N[j]?=!x/\X.env.scope.names.lookup x=!.cell/\(relabel scope X.env).names.lookup x=!.cell/\cl.lookup x=X.env.cells.lookup x
def jW.of{X:Cx}{scope:Scope}{cl:List (Str×Addr)}{caps:List Str}{ix:List Nat}(oU:closureFor scope X.env=pure cl)(sub:jt (fun e:Str×Addr=>X.env.cells.lookup e.1=!e.2) cl)(has:jt (fun e:Str×NameKind=>(e.2=.cell\/e.2=.free)->∃ c,cl.lookup e.1=!c) (relabel scope X.env).names)(len:ix.length=caps.length)(at':jt (fun e:Nat×Str=>X.N[e.1]?=!e.2/\X.env.scope.names.lookup e.2=!.cell/\(relabel scope X.env).names.lookup e.2=!.cell/\cl.lookup e.2=X.env.cells.lookup e.2) (ix.zip caps)):jW X scope cl caps ix where
 oU:=oU
 sub:=fun x c h=>jt.mem sub _ (Rs h)
 has:=fun y hy=>by
  rcases hy with h | h
  ·show jt.mem has _ (Rs h) (.inl rfl)
  ·show jt.mem has _ (Rs h) (.inr rfl)
 len:=len
 at':=fun i j h=>by
  have hi:=(ss.mp h).1;have hi':i < caps.length:=len ▸ hi;have hm:(j,caps[i])∈ix.zip caps:=by
   show List.mem_iff_getElem?.mpr #[i,?_];rw[List.getElem?_zip_eq_some];show#[h,sw hi']
  have z:=jt.mem at' _ hm;show#[caps[i],sw hi',z]
def  kI(n:Nat)(ix:List Nat)(wi:TI)(g:TG)(tt:TT)(te:TE):TE:=fun σ H Q=>∃ vs,xE ix σ vs/\wi σ H fun J H1=>∃ W:Nat->List V->Nat->Hp->Prop,(∃ m,W 0 [] m H1)/\∀ i ys m H,W i ys m H ->
 ys.length<=sizeLine/\((J.stop i H/\∀ l,H l=none->Q (-l) (upd H l (.lst ys))) \/
  (J.go i H/\ys.length < sizeLine/\∀ y H',J.kK i H y H'->∀ σ0:St,σ0.length=n->g y (σ0++vs.map some) H' fun σ1 H1=>(∃ σ2:St,σ1=σ2++vs.map some/\σ2.length=n) /\
   tt σ1 H1 fun c H2=>if c=true then te σ1 H2 fun z H3=>∃ m',m' < m/\W (i+1) (ys++[z]) m' H3 else ∃ m',m' < m/\W (i+1) ys m' H2))
section
variable {X:Cx}
def aaf{π:List (Addr×Obj)}{σ:St}{H:Hp}{s s4:Shared}{scope:Scope}{cl:List (Str×Addr)}{TN caps:List Str}{ix:List Nat}{vs:List V}{fp:List Addr}{C:Addr}{m:Str->Option Value}(I:Inv X π σ H s)(CC:jW X scope cl caps ix)(hv:xE ix σ vs)(hf:∀ b∈fp,j0 X π H b)(bO:∀ b∈fp,b < s.heap.objs.size)(hk:scope.kind=.function)(hC:s.heap.objs.size<=C)(lY:s4.os=s.os)(hgen:s4.gens=s.gens)(old:∀ b o,s.heap.get? b=!o->s4.heap.get? b=!o)(eT:s4.heap.Ns C m):Inv (cL X scope cl (TN++caps) s H fp C) [] ((TN.map fun _=>none)++vs.map some) H s4:=by
 show#[#[I.ok.mod,hk,I.ok.glob,I.ok.blt,hC,fun x y c e1 e2=>I.ok.inj x y c (CC.sub x c e1) (CC.sub y c e2),fun y hy=>CC.has y hy,fun _ _ e=>(by cases e),I.ok.hd,I.ok.frames,.inl rfl,fun b hb=>#[zn (ww (bO b hb) hC),fun x c e=>(hf b hb).2.2.2.2.1 x c (CC.sub x c e)],
  fun b o e=>I.bs b o e,tz I.ok.lP I.sz,fun b o e hb=>?_,fun b hb hm=>?_,I.stack,I.wM],
  lY,by rw[hgen];show I.bare,Un.kept old,#[m,eT,fun i y v e1 e2 _=>?_],fun x c e=>?_,I.aA.fresh hC,fun x c e=>I.jn x c (CC.sub x c e),fun p hp=>absurd (show p∈([]:List (Addr×Obj)) from hp) (),I.aA.kept old,?_]
 ·rcases (hf b hb).2.2.2.1 with z | z
  ·show I.ok.sY b o e z
  ·show absurd (ww (ww (wf e) I.ok.lP) z) (KB _)
 ·rcases lv.mp (I.xk b hm) with z | z
  ·show(hf b hb).2.1 z
  ·show(hf b hb).2.2.1 z
 ·have e1':(TN++caps)[i]?=!y:=e1;have e2':((TN.map fun _=>(none:Option V))++vs.map some)[i]?=!(!v):=e2;by_cases hi:i < TN.length
  ·rw[EQ (by simpa using hi),Da]at e2';cases h:TN[i]? <;> rw[h]at e2' <;> simp at e2'
  ·rw[Cl ∅]at e1';rw[Cl (by simpa using Nat.not_lt.mp hi),pi,Da]at e2';have ev:vs[i - TN.length]?=!v:=by
    cases h:vs[i - TN.length]? with
    | none=>rw[h]at e2';cases e2'
    | some a=>rw[h]at e2';cases e2';rfl
   have hlt':i - TN.length < ix.length:=by
    rw[<- hv.1];show(ss.mp ev).1
   let⟨x,c1,c2,c3,c4,c5⟩:=CC.at' _ _ (sw hlt');rw[e1']at c1;cases c1;have hσ:=hv.2 _ _ v (sw hlt') ev;let⟨m0,_,hl⟩:=I.loc;let⟨u,ru,lk⟩:=hl _ y v c2 hσ (.inr (.inl c3));rcases lk with ⟨k1,_⟩ | ⟨_,c,k2,o,k3,k4⟩
   ·have:X.env.scope.names.lookup y=!.local:=k1;rw[c3]at this;cases this
   ·show#[u,ru,.inr #[.inl c4,c,by change cl.lookup y=!c;rw[c5];show k2,o,old _ _ k3,k4]]
 ·let⟨v,o,e1,e2⟩:=I.cell x c (CC.sub x c e);show#[v,o,old _ _ e1,e2]
 ·change((TN.map fun _=>(none:Option V))++vs.map some).length=(TN++caps).length;rw[mo,mo,pi,pi,hv.1,CC.len]
def Mu{elt iter:Expr}{ifs:List Expr}{tg:Expr}{g:TG}{TN caps:List Str}{ix:List Nat}{cl:List (Str×Addr)}{pos:Pos}{scope:Scope}{wi:TI}{tt:St->TT}{te:TE}(hc:X.calm=true)(hi:PI X tg iter wi)(ht:∀ {π σ s H ex} C,Inv X π σ H s->(∀ b∈ex,j0 X π H b)->rh (cL X scope cl (TN++caps) s H ex C) ifs (tt σ))(iH:∀ s H ex C,PG (cL X scope cl (TN++caps) s H ex C) tg g)(he:∀ s H ex C,PE (cL X scope cl (TN++caps) s H ex C) elt te)(CC:jW X scope cl caps ix)(hk:scope.kind=.function)(eY:∀ y∈scope.names,y.2≠.cell){π:List (Addr×Obj)}{s:Shared}{σ:St}{H:Hp}{Q:VK}{RR:Value->Addr->Result->Shared->Prop}(I:Inv X π σ H s)(h:kI TN.length ix wi g (tt σ) te σ H Q)(hRR:∀ (a C:Addr) (s6:Shared) (H6:Hp),Inv X π σ H6 s6->(∃ m,s6.heap.Ns C m)->Bz X π H6 C->Q (-a) H6->RR (-a) C (.ok .next) s6) :
  wpAny (model X.prog X.w) X.A (eval iter X.env) (fun v s1=>wpAny (model X.prog X.w) X.A (pyIter v) (fun it s2=>wpAny (model X.prog X.w) X.A (newList []) (fun acc s3 =>
   wpAny (model X.prog X.w) X.A (newFunctionEnv scope X.env.globals cl [] X.env.qual none .none (!X.env)) (fun Ov s4 =>
    codeAny (model X.prog X.w) X.A (.compStart (.ListComp elt [#[tg,iter,ifs,0]] scope pos) 0 it acc { Ov with scope:=relabel scope X.env }) (RR acc Ov.locals) s4) X.xe s3) X.xe s2) X.xe s1) X.xe s:=by
 let⟨vs,hvs,h⟩:=h;show aE (hi π s σ H _ I h) fun v s1 h1=>aE h1 fun ET s2 h2=>?_;let⟨it,fp,tn,J,H2,rfl,I2,T,f6,f2,W,⟨m0,w0⟩,turn⟩:=h2;have bO:∀ b∈fp,b < s2.heap.objs.size:=fun b hb=>let ⟨o,e,_⟩:=T.obj _ _ f6 b hb;wf e
 show _I (wpAny_newFunctionEnv eY (by intro y hy;simp at hy) (fun h1 hns1 hsb1=>?_) hk);dsimp only at hns1 hsb1 ⊢;generalize Fh:s2.heap.push { cls:=.type "list",dict:=none,data:=.seq ([]:List Value).toArray }=G at hns1 hsb1 ⊢;have hG:G.objs.size=s2.heap.objs.size+1:=by rw[<- Fh,_n]
 have zr:s2.heap.objs.size≠G.objs.size:=by rw[hG];show zn (GT _)
 have pG:s2.heap.objs.size<=G.objs.size:=by rw[hG];show _W _
 have old:∀ b o,s2.heap.get? b=!o->h1.get? b=!o:=fun b o e=>by
  show hsb1.extBut b o (zn (ww (wf e) pG)) (li _ (Fh ▸ li _ e))
 have accO:h1.get? s2.heap.objs.size=!{ cls:=.type "list",dict:=none,data:=.seq ([]:List Value).toArray } :=
  hsb1.extBut _ _ zr (li _ (Fh ▸ wl _ rfl))
 -- iC state at iC block's entry
 have main:∀ s4:Shared,s4={ s2 with heap:=h1,toks:=s2.toks+([]:List (Str×Value)).length } ->
   codeAny (model X.prog X.w) X.A (.compLoop (.ListComp elt [#[tg,iter,ifs,0]] scope pos) 0 (-it) (-s2.heap.objs.size) (compEnvC scope cl G.objs.size X.env))
    (RR (-s2.heap.objs.size) G.objs.size) s4:=by
  rintro s4 rfl;have I4:Inv (cL X scope cl (TN++caps) s2 H2 fp G.objs.size) [] ((TN.map fun _=>none)++vs.map some) H2 { s2 with heap:=h1,toks:=s2.toks+([]:List (Str×Value)).length } :=
   aaf I2 CC hvs f2 bO hk pG rfl rfl old hns1
  have E6:∀ {H':Hp}{pl:List (Addr×Obj)},(∀ b∈fp,H' b=none)->(∀ p∈pl,p.1 ∉ fp)->∀ b∈fp,j0 (cL X scope cl (TN++caps) s2 H2 fp G.objs.size) pl H' b:=fun hn hp b hb =>
   #[hn b hb,zn (ww (bO b hb) pG),I4.ok.sr b hb,.inl hb,fun x c e=>(f2 b hb).2.2.2.2.1 x c (CC.sub x c e),fun p hp' e=>hp p (by simpa [cL] using hp') (e ▸ hb)]
  have Nb:s2.heap.objs.size ∉ fp:=fun z=>KB _ (bO _ z);show Sh (fun n s'=>∃ (i:Nat) (ys:List V) (ai:List Value) (k:Nat) (σ':St) (H':Hp),(∃ σ0:St,σ'=σ0++vs.map some/\σ0.length=TN.length)/\Inv (cL X scope cl (TN++caps) s2 H2 fp G.objs.size) [] σ' H' s'/\tn i s'.heap/\(∀ b∈fp,H' b=none)/\H' s2.heap.objs.size=none/\Vals ys ai /\
   s'.heap.get? s2.heap.objs.size=!{ cls:=.type "list",dict:=none,data:=.seq ai.toArray k }/\W i ys n H') (fun _ _ _=>trivial) ?_ m0
   #[0,[],[],0,_,H2,#[_,rfl,()],I4,T.keep _ _ _ f6 (fun b _ o e=>old b o e),fun b hb=>(f2 b hb).1,I2.aA.fresh (lm _),.nil,accO,w0]
  rintro n s5 ⟨i,ys,ai,k,σ5,H5,⟨σ0,hq5,hσ⟩,I5,rO,vv,za,rv,ea,w5⟩;subst hq5;have Ip:Inv (cL X scope cl (TN++caps) s2 H2 fp G.objs.size) [(s2.heap.objs.size,{ cls:=.type "list",dict:=none,data:=.seq ai.toArray k })] (σ0++vs.map some) H5 s5:=I5.uT fun p hp=>by
   have e:p=(s2.heap.objs.size,{ cls:=.type "list",dict:=none,data:=.seq ai.toArray k }):=by simpa using hp
   subst e;show#[ea,za,zr,fun z=>?_,fun v z=>by cases z];show I2.Hh (lm _) (by
    have hz:s2.heap.objs.size∈cb X.stack:=z;rcases lv.mp (I2.xk _ hz) with q | q
    ·show absurd I2.lt (by rw[<- q];show KB _)
    ·show q)
  have Ft:∀ p∈[((s2.heap.objs.size,{ cls:=.type "list",dict:=none,data:=.seq ai.toArray k }):Addr×Obj)],p.1 ∉ fp:=fun p hp=>by
   have e:p=(s2.heap.objs.size,{ cls:=.type "list",dict:=none,data:=.seq ai.toArray k }):=by simpa using hp
   subst e;show Nb
  let⟨hyl,alt⟩:=turn i ys n H5 w5;rcases alt with ⟨stop,qn⟩ | ⟨go,hys,step⟩
  ·show aE (T.done (cL X scope cl (TN++caps) s2 H2 fp G.objs.size) rfl rfl rfl hc i _ s5 (σ0++vs.map some) H5 (fun _ _=>False) Ip (E6 vv Ft) rO stop) fun r s6 #[hr,I6]=>?_;subst hr;have ea6:=(I6.pin (s2.heap.objs.size,{ cls:=.type "list",dict:=none,data:=.seq ai.toArray k }) (wE _ (wn.mpr rfl))).1;let⟨m,hn6,_⟩:=I6.loc;have hC6:H5 G.objs.size=none:=I6.free;have lt2:∀ b o,s2.heap.get? b=!o->b≠s2.heap.objs.size:=fun b o e=>zn (wf e);have Iout:Inv X π σ (upd H5 s2.heap.objs.size (.lst ys)) s6:=by
    show I2.LQ (s':=s6) (ch:=fp) I6.os #[fun b o e n hb hx=>?_,fun b o e n hb hx=>?_,fun b o e n hx=>?_,fun b o e hx=>?_,fun b xs e=>?_,fun b o u e=>?_,fun b ps e=>?_] ?_ I6.bare fun b hb=>?_
    ·show I6.base.keep b o e n hb hx
    ·show I6.base.slot b o e n hb hx
    ·rw[ah (lt2 b o e)];show I6.base.free b o e n hx
    ·show I6.base.there b o e hx
    ·rw[ah (eQ e (I2.aA.fresh (lm _)))];show I6.base.gD b xs e
    ·rw[ah (eQ e (I2.aA.fresh (lm _)))];show I6.base.gv b o u e
    ·let⟨more,e1⟩:=I6.base.gM b ps e;show#[more,by rw[ah (eQ e (I2.aA.fresh (lm _)))];show e1]
    ·intro b u e;by_cases hb:b=s2.heap.objs.size
     ·subst hb;rw[ay]at e;cases e;show#[hyl,ai,k,rv,ea6]
     ·rw[ah hb]at e;show(I6.aA b u e).gL (fun c v _ q=>q) (fun c q=>by rw[ah (eQ q za)];show q) fun c xs q=>by rw[ah (eQ q za)];show q
    ·let⟨g1,g2,g3,g4,g5,g6⟩:=f2 b hb;show#[g4,g2,g5,g6]
   show hRR _ _ s6 _ Iout #[m,hn6] #[by rw[ah (ut zr)];show hC6,?_,?_,fun y c e z=>?_,fun p hp z=>?_] (qn _ za)
   ·show _0 (ww I2.lt pG)
   ·show tz I2.sz pG
   ·let⟨v',q⟩:=I2.cell y c e;show absurd (ww q.lt pG) (by rw[z];show KB _)
   ·show absurd (ww (wf (I2.pin p hp).1) pG) (by rw[z];show KB _)
  ·show aE (T.item (cL X scope cl (TN++caps) s2 H2 fp G.objs.size) rfl rfl rfl hc i _ s5 (σ0++vs.map some) H5 (fun _ _=>False) Ip (E6 vv Ft) rO go) fun r s6 #[u,hr,h6]=>?_;subst hr;show aE h6 fun _ s7 #[y,H7,I7,ry,y7,EL,fr7]=>?_;have I7':=I7.pinned (E6 fr7 Ft) (T.obj _ _ EL);show aE (iH _ _ _ _ _ s7 (σ0++vs.map some) H7 y u _ I7' ry (step y H7 y7 σ0 hσ)) fun _ s8 #[σ8,H8,I8,N5,q8]=>?_;show aE (ht _ I2 f2 _ s8 σ8 H8 _ I8 q8) fun ok s9 #[H9,I9,q9]=>?_
   -- what is pinned stays
   have Oz:∀ {s':Shared}{H':Hp},Inv (cL X scope cl (TN++caps) s2 H2 fp G.objs.size) ([(s2.heap.objs.size,{ cls:=.type "list",dict:=none,data:=.seq ai.toArray k })]++tD fp s7.heap) σ8 H' s' ->
     tn (i+1) s'.heap/\(∀ b∈fp,H' b=none)/\H' s2.heap.objs.size=none/\s'.heap.get? s2.heap.objs.size=!{ cls:=.type "list",dict:=none,data:=.seq ai.toArray k }:=fun {s' H'} J'=>by
    show#[T.keep _ _ _ EL fun b hb o e=>(J'.pin (b,o) (wE _ (wE _ (yp hb e)))).1,fun b hb=>?_,(J'.pin (s2.heap.objs.size,{ cls:=.type "list",dict:=none,data:=.seq ai.toArray k }) (wE _ (xz _ (wn.mpr rfl)))).2.1,(J'.pin (s2.heap.objs.size,{ cls:=.type "list",dict:=none,data:=.seq ai.toArray k }) (wE _ (xz _ (wn.mpr rfl)))).1];let⟨o,e,_⟩:=T.obj _ _ EL b hb;show(J'.pin (b,o) (wE _ (wE _ (yp hb e)))).2.1
   cases ok with
   | false =>
    let⟨m',hm,w'⟩:=q9;let⟨k1,k2,k3,k4⟩:=Oz I9;show#[m',hm,i+1,ys,ai,k,σ8,H9,N5,I9.uT (π':=[]) (fun _ hp=>nomatch hp),k1,k2,k3,rv,k4,w']
   | true =>
    show aE (he _ _ _ _ _ s9 σ8 H9 _ I9 q9) fun zv s10 #[z,y1,NS,rz,kJ]=>?_;let⟨m',hm,w'⟩:=kJ;let⟨k1,k2,k3,k4⟩:=Oz NS;have hl:=rv.length;show ST F.slot_list_append #[_,k4,rfl] F.entry_list_append (F.args_list_append_2 _ _) (PySem.list_append s2.heap.objs.size ai.toArray k zv (by rw[sB];omega)) #[k4,?_];have q:=PySem.IsL.update k4 (·.push zv);have ip:ai.toArray.push zv=(ai++[zv]).toArray:=()
    rw[ip]at q;have I11:Inv (cL X scope cl (TN++caps) s2 H2 fp G.objs.size) [] σ8 y1 s10:=NS.uT (π':=[]) (fun _ hp=>nomatch hp);show#[m',hm,i+1,ys++[z],ai++[zv],_,σ8,y1,N5,I11.turned (t':=s10.toks) (it:=s2.heap.objs.size) (fun b o hb e=>(IO s10.heap _ (ut hb)).trans e) k3 zr (.inr (lm _)) (fun x c e z=>by let⟨v',q⟩:=I2.cell x c (CC.sub x c e);show absurd q.lt (by rw[z];show KB _)) (fun p hp=>absurd (show p∈([]:List (Addr×Obj)) from hp) ()),
     T.keep _ _ _ k1 fun b hb o e=>(IO s10.heap _ (fun z=>Nb (by rw[z];show hb))).trans e,k2,k3,rv.append (.cons rz .nil),q,w']
 show codeAny_compStart_list (main _ rfl) (T.self _ 0 _ _ _ (T.keep _ _ _ f6 fun b _ o e=>old b o e) (main _ rfl))
def Sx{elt iter:Expr}{ifs:List Expr}{tg:Expr}{g:TG}{TN caps:List Str}{ix:List Nat}{cl:List (Str×Addr)}{pos:Pos}{scope:Scope}{wi:TI}{tt:TT}{te:TE}(hc:X.calm=true)(hi:PI X tg iter wi)(ht:∀ s H ex C,rh (cL X scope cl (TN++caps) s H ex C) ifs tt)(iH:∀ s H ex C,PG (cL X scope cl (TN++caps) s H ex C) tg g)(he:∀ s H ex C,PE (cL X scope cl (TN++caps) s H ex C) elt te)(CC:jW X scope cl caps ix)(hk:scope.kind=.function:=by rfl)(bK:∀ y∈scope.names,y.2=.local->scope.names.lookup y.1=!.local:=by decide +kernel)(eY:∀ y∈scope.names,y.2≠.cell:=by decide +kernel)(hs:∀ x,foldedSetIterable iter X.env x=pure x:=by intro _;rfl):PE X (.ListComp elt [#[tg,iter,ifs,0]] scope pos) (kI TN.length ix wi g tt te):=by
 intro π s σ H Q I h;rw[eval_ListComp];show wpAny_comprehension_free (use:=none) (cl:=cl) rfl hs CC.oU hk bK ?_;show Mu (RR:=fun acc C=>compPost (model X.prog X.w) X.A X.xe none (EP X π σ Q) acc C) (tt:=fun _=>tt) hc hi (fun C _ _=>ht _ _ _ C) iH he CC hk eY I h ?_;intro a C s6 H6 I6 hm o q;let⟨m,hn⟩:=hm;show#[m,hn,fun h' vX=>#[-a,H6,o.go I6 vX,rfl,q]]
def Y8{elt iter:Expr}{ifs:List Expr}{tg:Expr}{g:TG}{TN caps:List Str}{ix:List Nat}{cl:List (Str×Addr)}{y:Str}{i:Nat}{py pos spos:Pos}{scope:Scope}{wi:TI}{tt:TT}{te:TE}(hc:X.calm=true)(hN:X.N.Nodup)(vZ:X.N[i]?=!y)(rV:X.env.scope.names.lookup y=!.local)(hi:PI X tg iter wi)(ht:∀ s H ex C,rh (cL X scope cl (TN++caps) s H ex C) ifs tt)(iH:∀ s H ex C,PG (cL X scope cl (TN++caps) s H ex C) tg g)(he:∀ s H ex C,PE (cL X scope cl (TN++caps) s H ex C) elt te)(CC:jW X scope cl caps ix)(vA:swapsWith (.ListComp elt [#[tg,iter,ifs,0]] scope pos) (!.Name y py) spos.line X.env=pure true:=by rfl)(hk:scope.kind=.function:=by rfl)(bK:∀ y∈scope.names,y.2=.local->scope.names.lookup y.1=!.local:=by decide +kernel)(eY:∀ y∈scope.names,y.2≠.cell:=by decide +kernel)(hs:∀ x,foldedSetIterable iter X.env x=pure x:=by intro _;rfl):PS X (.Assign [.Name y py] (.ListComp elt [#[tg,iter,ifs,0]] scope pos) spos) (jU (kI TN.length ix wi g tt te) (fi i)):=by
 intro π s σ H D I h;rw[exec_Assign_Name_used _ _ _ _ vA];show jp (_S (jp ?_));show jp (Re (wpAny_comprehension_free (e:=.ListComp elt [#[tg,iter,ifs,0]] scope pos) (use:=!assign (.Name y py) X.env) (cl:=cl) (Q:=fun _ s'=>SP X π D .next s') rfl hs CC.oU hk bK
  (Mu (RR:=fun acc C=>compPost (model X.prog X.w) X.A X.xe (!assign (.Name y py) X.env) (fun _ s'=>SP X π D .next s') acc C) (tt:=fun _=>tt) hc hi (fun C _ _=>ht _ _ _ C) iH he CC hk eY I h ?_)) (fun _ s' hq=>ul (ul hq)) fun _ _ e=>e)
 intro a C s6 H6 I6 hm o q;let⟨m,hn⟩:=hm;show(show wpAny (model X.prog X.w) X.A (assign (.Name y py) X.env (-a)) _ X.xe s6 from ?_);show wpAny_assign_Name (Gr I6 hN vZ (.inl rV) (v:=-a) rfl (fun s' I' vX=>?_) (.inr rV));let⟨b,vX,hb⟩:=vX;have nb:C≠b:=by
  rcases hb with z | z
  ·rw[z];show o.nl
  ·show fun e=>o.nc y b z e.symm
 show#[m,hn.sameBut vX nb,fun h' hs'=>#[_,H6,o.go I' hs',q]]
end
namespace Dv
section
variable {X:Cx}
def AQ{elt iter tg:Expr}{g:TG}{ifs:List Expr}{TN caps:List Str}{ix:List Nat}{cl:List (Str×Addr)}{pos:Pos}{scope:Scope}{wi:TI}{tt:TT}{te:TE}(hc:X.calm=true)(hi:QI X tg iter wi)(ht:∀ s H ex C,qt (cL X scope cl (TN++caps) s H ex C) ifs tt)(iH:∀ s H ex C,QG (cL X scope cl (TN++caps) s H ex C) tg g)(he:∀ s H ex C,QE (cL X scope cl (TN++caps) s H ex C) elt te)(CC:jW X scope cl caps ix)(hk:scope.kind=.function:=by rfl)(bK:∀ y∈scope.names,y.2=.local->scope.names.lookup y.1=!.local:=by decide +kernel)(eY:∀ y∈scope.names,y.2≠.cell:=by decide +kernel)(hs:∀ x,foldedSetIterable iter X.env x=pure x:=by intro _;rfl):QE X (.ListComp elt [#[tg,iter,ifs,0]] scope pos) (kI TN.length ix wi g tt te):=#[Sx hc hi.h (fun s H ex C=>(ht s H ex C).h) (fun s H ex C=>(iH s H ex C).h) (fun s H ex C=>(he s H ex C).h) CC hk bK eY hs]
def Zl(i:Nat){elt iter tg:Expr}{g:TG}{ifs:List Expr}{TN caps:List Str}{ix:List Nat}{cl:List (Str×Addr)}{y:Str}{py pos spos:Pos}{scope:Scope}{wi:TI}{tt:TT}{te:TE}(hc:X.calm=true)(hN:X.N.Nodup)(hi:QI X tg iter wi)(ht:∀ s H ex C,qt (cL X scope cl (TN++caps) s H ex C) ifs tt)(iH:∀ s H ex C,QG (cL X scope cl (TN++caps) s H ex C) tg g)(he:∀ s H ex C,QE (cL X scope cl (TN++caps) s H ex C) elt te)(CC:jW X scope cl caps ix)(vZ:X.N[i]?=!y:=by rfl)(rV:X.env.scope.names.lookup y=!.local:=by rfl)(vA:swapsWith (.ListComp elt [#[tg,iter,ifs,0]] scope pos) (!.Name y py) spos.line X.env=pure true:=by rfl)(hk:scope.kind=.function:=by rfl)(bK:∀ y∈scope.names,y.2=.local->scope.names.lookup y.1=!.local:=by decide +kernel)(eY:∀ y∈scope.names,y.2≠.cell:=by decide +kernel)(hs:∀ x,foldedSetIterable iter X.env x=pure x:=by intro _;rfl):QS X (.Assign [.Name y py] (.ListComp elt [#[tg,iter,ifs,0]] scope pos) spos) (jU (kI TN.length ix wi g tt te) (fi i)):=#[Y8 hc hN vZ rV hi.h (fun s H ex C=>(ht s H ex C).h) (fun s H ex C=>(iH s H ex C).h) (fun s H ex C=>(he s H ex C).h) CC vA hk bK eY hs]
end
end Dv
section
variable {X:Cx}
end
def Bx{σ:St}(h:σ.length=1):∃ a,σ=[a]:=by
 match σ,h with
 | [a],_=>show#[a,rfl]
def gJ{f:Str}{v u:V}:∀ {fs:List (Str×V)},fs.lookup f=!u->(az f v fs).length=fs.length
 | (g,x)::r,h=>by
  rw[show az f v ((g,x)::r)=(if g=f then (g,v)::r else (g,x)::az f v r) from rfl];by_cases e:g=f
  ·rw[At e];rfl
  ·rw[wT e];have hb:(f == g)=false:=FS.mpr (ut e);have h':r.lookup f=!u:=by simpa [List.lookup,hb] using h
   rw[xL,gJ h'];rfl
def  Dn(r:V->List V->Hp->VK->Prop)(to:TE):TE:=fun σ H Q=>to σ H fun x H1=>match x with
 | .ref l=>(match H1 l with
  | some (.lst _)=>r (-l) [] H1 Q
  | _=>False)
 | _=>False
section
variable {X:Cx}{name:Str}{id:String}{r:V->List V->Hp->VK->Prop}{o:Expr}{to:TE}{apos bc:Pos}
def UR(slot:Slot "list" name id)(cD:typeOf (.builtin id)=pure (.type "method_descriptor"))(hm:cP X id r)(ho:PE X o to)(fb:attributeBase o name X.env (eval o X.env)=eval o X.env:=by rfl)(fe:(apos.endLine == bc.line)=true:=by rfl):PE X (.Call (.Attribute o name apos) [] [] bc) (Dn r to):=by
 intro π s σ H Q I h;show wpAny_Call_method0_late fb fe (aE (ho π s σ H _ I h) fun v s1 ⟨x,H1,I1,r1,q1⟩=>?_);dsimp only at q1;split at q1
 ·rename_i l;split at q1
  ·rename_i zs el;let⟨h1,h2⟩:=Ci (T := "list") I1 r1 (.inl #[rfl,zs,aB.of el]);show#["list",id,PySem.F.plainAttrs_list,slot,cD,h1,h2,TD rfl (PySem.evalArgs_none (hm π s1 σ H1 (-l) [] v [] Q I1 r1 .nil q1))]
  ·show q1.elim
 ·show q1.elim
def Dv.B3(slot:Slot "list" name id)(cD:typeOf (.builtin id)=pure (.type "method_descriptor"))(hm:cP X id r)(ho:QE X o to)(fb:attributeBase o name X.env (eval o X.env)=eval o X.env:=by rfl)(fe:(apos.endLine == bc.line)=true:=by rfl):QE X (.Call (.Attribute o name apos) [] [] bc) (Dn r to):=#[UR slot cD hm ho.h fb fe]
end
def ag.fE{H H1:Hp}{l:Addr}{o:HO}(s:ag H H1)(hl:H l=none):ag H (L2.upd H1 l o):=fun b u e=>by
 rw[ah (fun z=>by rw[z,hl]at e;cases e)];show s b u e
section
variable {X:Cx}
def  Al:List V->Hp->VK->Prop:=fun xs H Q=>match xs with
 | [.bl b]=>Q (.int (if b then 1 else 0)) H
 | _=>False
def Di:cJ X (.type "int") Al:=by
 intro π s σ H xs us Q I r h;unfold Al at h;split at h
 ·rename_i b;let⟨u,rfl,rx⟩:=vals1 r;cases rx;show call_int_bool #[.int (if b then 1 else 0),H,I.tok _,#[_,rfl],h]
 ·show h.elim
end
def  BE(K:ν):R2:=fun x y H Q=>match y with
 | .ref p=>∃ xs,(aB K H p xs\/bE K H p xs)/\cE x=true/\xs.all cE=true/\Q (.bl (Bool.not (ik x xs))) H
 | _=>False
def uq{X:Cx}{K:ν}(h:X.K=K):aZ X (compareOp .NotIn) (BE K):=h ▸ OR.imp fun x y H Q z=>by
 unfold BE at z;split at z
 ·let⟨xs,z1,z2,z3,z4⟩:=z;show#[_,xs,rfl,z1,z2,z3,z4]
 ·show z.elim
structure FT(K:ν)(mg:Str->Option Value)(x y:Str)(st:Stmt)(ps:List Str) where
 f:Addr
 d:FuncData
 F:jX K x y st f d
 m:mg x=!-f
 b:Binds K d ps []
structure MT(K:ν)(C:Addr)(x y:Str)(st:Stmt)(ps:List Str) where
 f:Addr
 d:FuncData
 F:jX K x y st f d
 h:Meth K C x f
 b:Binds K d ps []
def  FA(K:ν)(x y:Str)(st:Stmt):Prop:=∃ (f:Addr) (oc:Value) (od:Option Addr) (kV dc pm:Value) (an:Option Addr) (cd ct:Value) (sl:Array (Option Value)),
 W.nsIn K mainGlobals x=!(!-f)/\K.lookup f=!#[oc,od,.func (W.fnOf x y (fm st) (aW st) (aD st) .none kV dc pm an cd ct),sl]/\W.codeIn K cd y=true/\W.keepIn K (-f)=true
def  MA(K:ν)(C:Addr)(x y:Str)(st:Stmt):Prop:=∃ (f:Addr) (oc:Value) (od:Option Addr) (kV dc pm:Value) (an:Option Addr) (cd ct:Value) (sl:Array (Option Value)),
 W.findIn K (-C) x=!(!-f)/\K.lookup f=!#[oc,od,.func (W.fnOf x y (fm st) (aW st) (aD st) .none kV dc pm an cd ct),sl]/\W.codeIn K cd y=true/\W.keepIn K (-f)=true/\W.isFn K (-f)=true
section
variable {K:ν}{mg:Str->Option Value}{h:Heap}{C:Addr}{x y:Str}{st:Stmt}{ps:List Str}
def FA.ft(X:K.In h)(G:h.Ns mainGlobals mg)(ps:List Str)(hb:∀ (kV dc pm:Value) (an:Option Addr) (cd ct:Value) (us:List Value),us.length=ps.length->bindArgs (W.fnOf x y (fm st) (aW st) (aD st) .none kV dc pm an cd ct) #[us,[]]=pure (ps.zip us))(a:FA K x y st):Nonempty (FT K mg x y st ps):=by
 let⟨f,oc,od,kV,dc,pm,an,cd,ct,sl,n,l,c,k⟩:=a;have F:=DW (st:=st) l c k;show#[#[f,_,F,W.mg_of X G n,F.binds hb]]
def MA.ft(ps:List Str)(hb:∀ (kV dc pm:Value) (an:Option Addr) (cd ct:Value) (us:List Value),us.length=ps.length->bindArgs (W.fnOf x y (fm st) (aW st) (aD st) .none kV dc pm an cd ct) #[us,[]]=pure (ps.zip us))(a:MA K C x y st):Nonempty (MT K C x y st ps):=by
 let⟨f,oc,od,kV,dc,pm,an,cd,ct,sl,n,l,c,k,t⟩:=a;have F:=DW (st:=st) l c k;show#[#[f,_,F,#[n,t,k],F.binds hb]]
end
section
variable {K:ν}{mg:Str->Option Value}{h:Heap}{C:Addr}{x y:Str}{st:Stmt}{ps:List Str}
def FA.mk{f:Addr}{oc:Value}{od:Option Addr}{kV dc pm:Value}{an:Option Addr}{cd ct:Value}{sl:Array (Option Value)}(n:W.nsIn K mainGlobals x=!(!-f))(l:K.lookup f=!#[oc,od,.func (W.fnOf x y (fm st) (aW st) (aD st) .none kV dc pm an cd ct),sl])(c:W.codeIn K cd y=true)(k:W.keepIn K (-f)=true):FA K x y st:=#[_,_,_,_,_,_,_,_,_,_,n,l,c,k]
def MA.mk{f:Addr}{oc:Value}{od:Option Addr}{kV dc pm:Value}{an:Option Addr}{cd ct:Value}{sl:Array (Option Value)}(n:W.findIn K (-C) x=!(!-f))(l:K.lookup f=!#[oc,od,.func (W.fnOf x y (fm st) (aW st) (aD st) .none kV dc pm an cd ct),sl])(c:W.codeIn K cd y=true)(k:W.keepIn K (-f)=true)(t:W.isFn K (-f)=true):MA K C x y st:=#[_,_,_,_,_,_,_,_,_,_,n,l,c,k,t]
def FA.gt(X:K.In h)(G:h.Ns mainGlobals mg)(hb:∀ (kV dc pm:Value) (an:Option Addr) (cd ct:Value) (us:List Value),us.length=ps.length->bindArgs (W.fnOf x y (fm st) (aW st) (aD st) .none kV dc pm an cd ct) #[us,[]]=pure (ps.zip us))(a:FA K x y st):Nonempty (FT K mg x y st ps):=FA.ft X G ps hb a
def MA.gt(hb:∀ (kV dc pm:Value) (an:Option Addr) (cd ct:Value) (us:List Value),us.length=ps.length->bindArgs (W.fnOf x y (fm st) (aW st) (aD st) .none kV dc pm an cd ct) #[us,[]]=pure (ps.zip us))(a:MA K C x y st):Nonempty (MT K C x y st ps):=MA.ft ps hb a
def Xm{M:MT K C "__init__" y st ps}(a:W.makesIn K C=true)(b:W.keepIn K (-C)=true):Mk K C M.f:=#[a,M.h.at_,M.h.fn,b]
def nS{dt:Addr}{kV doc pm ax ct:Value}{an:Option Addr}{o:Obj}{n:Nat}{ds:List Value}(j:Nat)(ld:K.lookup dt=!o)(hd:o.data=.seq ds.toArray n)(h:∀ (dt:Addr) (kV doc pm:Value) (an:Option Addr) (ax ct:Value) (us:List Value),(us++ds.drop j).length=ps.length ->
   ∃ k,bindArgs (W.fnOf x y (fm st) (aW st) (aD st) (-dt) kV doc pm an ax ct) #[us,[]]=seqItems? (-dt) >>= k/\k (!ds.toArray)=pure (ps.zip (us++ds.drop j))) :
  Binds K (W.fnOf x y (fm st) (aW st) (aD st) (-dt) kV doc pm an ax ct) ps (ds.drop j):=by
 intro s us X hl;let⟨k,h1,h2⟩:=h dt kV doc pm an ax ct us hl;show BindsTo.of_defaults rfl (X _ _ ld) hd h1 h2
end
section
variable {X:Cx}{tg:Expr}
end
section
variable {X:Cx}
def  SG:List V->Hp->VK->Prop:=fun xs H Q=>match xs with
 | [.int a]=>a.natAbs.log2 < 1920/\Q (.str (Str.ofString (toString a))) H
 | _=>False
end
section
variable {X:Cx}
def  Bj:V->List V->Hp->VK->Prop:=fun x vs H Q=>match x,vs with
 | .ref l,[.int 0]=>∃ y xs,H l=!.lst (y::xs)/\Q y (upd H l (.lst xs))
 | _,_=>False
def QU:cP X "list.pop" Bj:=cP.imp (r:=Hb) Vw fun x vs H Q h=>by
 unfold Bj at h;split at h
 ·let⟨y,xs,hl,q⟩:=h;show#[_,y::xs,0,0,y,rfl,rfl,hl,⋯,⋯,by simp[seqIndex?],rfl,q]
 ·show h.elim
end
section
variable {X:Cx}
def wK{A:Around}{s:Shared}{xs ys:List V}{i1 i2:List Value}(r1:Vals xs i1)(r2:Vals ys i2)(f1:xs.all cE=true)(f2:ys.all cE=true)(he:∀ i (h1:i < xs.length) (h2:i < ys.length),ff xs[i] ys[i]=true)(j:Nat)(g1:j < i1.toArray.size)(g2:j < i2.toArray.size):SeqAt.EqAt A s i1.toArray[j] i2.toArray[j] true:=by
 have j1:j < xs.length:=by rw[r1.length];simpa using g1
 have j2:j < ys.length:=by rw[r2.length];simpa using g2
 let⟨u1,e1,ru1⟩:=r1.get (sw j1);let⟨u2,e2,ru2⟩:=r2.get (sw j2);have w1:i1.toArray[j]=u1:=by
  have:=(ss.mp e1).2
  simpa using this
 have w2:i2.toArray[j]=u2:=by
  have:=(ss.mp e2).2
  simpa using this
 rw[w1,w2];have:=Ma (A:=A) (s:=s) ru1 ru2 (Ix.mp f1 _ (_o j1)) (Ix.mp f2 _ (_o j2));rw[he j j1 j2]at this;show this
def all_true(n:Nat):(List.range n).all (fun _=>true)=true:=by rw[Ix];show fun _ _=>rfl
def  fT(K:ν)(neg:Bool):R2:=fun x y H Q=>match x,y with
 | .ref a,-b=>∃ xs ys:List V,(aB K H a xs/\aB K H b ys\/bE K H a xs/\bE K H b ys)/\xs.length=ys.length/\xs.all cE=true/\ys.all cE=true/\(∀ i (h1:i < xs.length) (h2:i < ys.length),ff xs[i] ys[i]=true)/\Q (.bl (Bool.not neg)) H
 | _,_=>False
def ug{K:ν}(hK:X.K=K)(hu:X.A.units < cLine):aZ X (compareOp .Eq) (fT K false):=by
 subst hK;intro π s σ H x y v u Q I rx ry h;unfold fT at h;split at h
 ·let⟨xs,ys,fW,hl,f1,f2,he,q⟩:=h;cases rx;cases ry;rcases fW with ⟨ha,hb⟩ | ⟨ha,hb⟩
  ·let⟨i1,r1,p1,_⟩:=I.list ha;let⟨i2,r2,p2,_⟩:=I.list hb;have hsz:i1.toArray.size=i2.toArray.size:=by rw[sB,sB,<- r1.length,<- r2.length,hl]
   have k:=SeqAt.RcAt.lists (A:=X.A) (s:=s) (e:=fun _=>true) p1.isList p2.isList hsz hu (fun j g1 g2=>wK r1 r2 f1 f2 he j g1 g2);rw[all_true]at k;show k _ _ _ _ #[.bl _,H,I,rfl,q]
  ·let⟨i1,r1,p1,_⟩:=I.tuple ha;let⟨i2,r2,p2,_⟩:=I.tuple hb;have hsz:i1.toArray.size=i2.toArray.size:=by rw[sB,sB,<- r1.length,<- r2.length,hl]
   have k:=SeqAt.RcAt.tuples (A:=X.A) (s:=s) (e:=fun _=>true) p1 p2 hu (fun j g1 g2=>wK r1 r2 f1 f2 he j g1 g2);rw[all_true,hsz,beq_self_eq_true,Bool.and_self]at k;show k _ _ _ _ #[.bl _,H,I,rfl,q]
 ·show h.elim
def Aw{K:ν}(hK:X.K=K)(hu:X.A.units < cLine):aZ X (compareOp .NotEq) (fT K true):=by
 subst hK;intro π s σ H x y v u Q I rx ry h;unfold fT at h;split at h
 ·let⟨xs,ys,fW,hl,f1,f2,he,q⟩:=h;cases rx;cases ry;rcases fW with ⟨ha,hb⟩ | ⟨ha,hb⟩
  ·let⟨i1,r1,p1,_⟩:=I.list ha;let⟨i2,r2,p2,_⟩:=I.list hb;have hsz:i1.toArray.size=i2.toArray.size:=by rw[sB,sB,<- r1.length,<- r2.length,hl]
   have k:=Jan (A:=X.A) (s:=s) (e:=fun _=>true) p1.isList p2.isList hsz hu (fun j g1 g2=>wK r1 r2 f1 f2 he j g1 g2);rw[all_true]at k;show k _ _ _ _ #[.bl _,H,I,rfl,q]
  ·let⟨i1,r1,p1,_⟩:=I.tuple ha;let⟨i2,r2,p2,_⟩:=I.tuple hb;have hsz:i1.toArray.size=i2.toArray.size:=by rw[sB,sB,<- r1.length,<- r2.length,hl]
   have k:=SeqAt.RcNeAt.tuples (A:=X.A) (s:=s) (e:=fun _=>true) p1 p2 hu (fun j g1 g2=>wK r1 r2 f1 f2 he j g1 g2);rw[all_true,hsz,beq_self_eq_true,Bool.and_self]at k;show k _ _ _ _ #[.bl _,H,I,rfl,q]
 ·show h.elim
def Wl{v:V}(h:cE v=true):ff v v=true:=by
 cases v <;> first | rfl | (cases h;done) | simp[ff]
def fT.same{K:ν}{neg:Bool}{a b:Addr}{xs:List V}{H:Hp}{Q:VK}(h:aB K H a xs/\aB K H b xs\/bE K H a xs/\bE K H b xs)(f:xs.all cE=true)(q:Q (.bl (Bool.not neg)) H):fT K neg (-a) (-b) H Q :=
 #[xs,xs,h,rfl,f,f,fun i h1 _=>Wl (Ix.mp f _ (_o h1)),q]
end
def  nX{α:Type}(us ws:List α):List α:=if ws.length=1 then us++ws else []
section
variable {K:ν}{x qual nm:Str}{st:Stmt}{f:Addr}{fd:FuncData}{ps:List Str}{ds:List Value}
def QF{α:Type}{a b c d:α}:nX [a,b,c] [d]=[a,b,c,d]:=rfl
def Pn{vs:List V}{us:List Value}{zs:List V}{ws:List Value}(r:Vals vs us)(q:Vals zs ws):Vals (nX vs zs) (nX us ws):=by
 unfold nX;rw[q.length];split
 ·show r.append q
 ·show .nil
def QL(F:kL K x qual st f fd ds)(hp:ps.length=4)(h:∀ (dt:Addr) (kV doc pm:Value) (an:Option Addr) (ax ct a b c d:Value),
   ∃ k,bindArgs (W.fnOf x qual (fm st) (aW st) (aD st) (-dt) kV doc pm an ax ct) #[[a,b,c],[(nm,d)]]=seqItems? (-dt) >>= k/\k (!ds.toArray)=pure (ps.zip [a,b,c,d])):yf K fd ps [nm] nX nX where
 to:=by
  let⟨oc,od,dt,kV,doc,pm,an,ax,ct,ei,o,n,rfl,lk,dD,ldt,r8⟩:=F.ex;intro s us ws X hl;unfold nX at hl ⊢;split at hl
  ·rename_i h1;rw[At h1];rw[mo,h1,hp]at hl;let⟨d,rfl⟩:=List.length_eq_one_iff.mp h1;have h3:us.length=3:=∅
   let⟨a,b,c,rfl⟩:∃ a b c,us=[a,b,c]:=by
    match us,h3 with
    | [a,b,c],_=>show#[a,b,c,rfl]
   let⟨k,h1,h2⟩:=h dt kV doc pm an ax ct a b c d;show BindsTo.of_defaults rfl (X _ _ ldt) r8 h1 h2
  ·rw[hp]at hl;cases hl
 rel:=Pn
end
section
variable {X:Cx}
def Dv.aba{CX:eK}{k:Nat}{f:Addr}{fd:FuncData}{ps:List Str}{sp:Sp}{E:XK}{x nm:Str}{p pos yO:Pos}{e e2:Expr}{es:List Expr}{t:TA}{te:TE}{g:List Value->List Value->List Value}{gV:List V->List V->List V}(F:aC X.prog X.w X.K X.mg X.base CX k f fd ps sp)(hr:bL k X.A)(hm:X.mg x=!-f)(hk:W.keepIn X.K (-f)=true)(hb:yf X.K fd ps [nm] g gV)(hx:Passes CX X E)(ha:QA X (e::es) t)(FR:QE X e2 te)(hg:Gl X x:=by rfl)(cm:(x == ("__debug__":Str))=false:=by decide)(he:starEach (e::es) X.env=(false,eval e X.env)::starEach es X.env:=by rfl)(bx:((backTo pos (starEach (e::es) X.env)).any (·.1) || (backToKw pos (keywordEach [#[!nm,e2,yO]] X.env)).any (·.1.isNone))=false:=by rfl) :
  QE X (.Call (.Name x p) (e::es) [#[!nm,e2,yO]] pos) (DA sp gV E t (fP te f9)) :=
 #[aaL F hr hg hm hk hb hx ha.h (ZN FR.h Vh) rfl rfl cm he bx]
end
def  sA(J:It)(n:Nat)(vs:List V)(g:TG)(tt:TT)(te:TE)(Q:VK)(H1:Hp):Prop:=∃ W:Nat->List V->Nat->Hp->Prop,(∃ m,W 0 [] m H1)/\∀ i ys m H,W i ys m H ->
 ys.length<=sizeLine/\((J.stop i H/\∀ l,H l=none->Q (-l) (upd H l (.lst ys))) \/
  (J.go i H/\ys.length < sizeLine/\∀ y H',J.kK i H y H'->∀ σ0:St,σ0.length=n->g y (σ0++vs.map some) H' fun σ1 H1=>(∃ σ2:St,σ1=σ2++vs.map some/\σ2.length=n) /\
   tt σ1 H1 fun c H2=>if c=true then te σ1 H2 fun z H3=>∃ m',m' < m/\W (i+1) (ys++[z]) m' H3 else ∃ m',m' < m/\W (i+1) ys m' H2))
def DI{n:Nat}{ix:List Nat}{wi:TI}{g:TG}{tt:TT}{te:TE}{σ:St}{H:Hp}{Q:VK}:kI n ix wi g tt te σ H Q=∃ vs,xE ix σ vs/\wi σ H fun J H1=>sA J n vs g tt te Q H1:=rfl
def Z5{K:ν}{l:Addr}{xs:List V}{te:TE}{H:Hp}{Q:VK}{vs:List V}(f:V->V)(hs:aB K H l xs)(hz:xs.length<=1000)(he:∀ x∈xs,∀ R:VK,R (f x) H->te (some x::vs.map some) H R)(q:∀ l',H l'=none->Q (-l') (upd H l' (.lst (xs.map f)))):sA (jq K l) 1 vs (fi 0) hZ te Q H:=by
 have hsz:xs.length<=sizeLine:=fits hz;show#[fun i zs k H1=>H1=H/\zs=(xs.take i).map f/\i<=xs.length/\k=xs.length - i,#[_,rfl,rfl,wS _,rfl],?_];rintro i zs k H1 ⟨rfl,rfl,hi,rfl⟩;have hlen:((xs.take i).map f).length=i:=by rw[pi,Tm];omega
 show#[∅,?_];by_cases h:i < xs.length
 ·have hx:xs[i]?=!xs[i]:=sw h;show .inr #[#[xs,xs[i],hs,hx],∅,?_];rintro y H' ⟨rfl,hy⟩ σ0 hσ0;let⟨a,rfl⟩:=Bx hσ0;have jy:=hy xs hs;show#[#[[!y],rfl,rfl],?_];change hZ _ _ _;unfold hZ;dsimp only;rw[At rfl];show he y (Go jy) _ #[xs.length - (i+1),∅,rfl,by rw[_f,jy,Fa];rfl,h,rfl]
 ·have e:i=xs.length:=∅
  subst e;show .inl #[#[xs,hs,lm _],fun l' hl'=>?_];have:=q l' hl';rw[Op (lm _)];show this
def Gf{X:Cx}{K:ν}(h:X.K=K):g7 X (G6 K):=h ▸ K6
def TV{K:ν}{C:Addr}{y:Str}{st:Stmt}{ps:List Str}{fld:Str}{M:MT K C "__init__" y st ps}(q:xj K C=true)(sa:W.findIn K (-C) "__setattr__" = !(!.builtin "object.__setattr__"))(na:W.findIn K (-C) fld=!none)(ob:W.mroIn K C (.type "object")=!true)(be:W.mroIn K C (.type "BaseException")=!true)(self:W.mroIn K C (-C)=!true)(kp:W.keepIn K (-C)=true):jV K C M.f fld:=#[q,M.h.at_,eq_of_beq M.h.fn,sa,na,ob,be,self,kp]
end L2
open PySem PySem.Spec PyProof.Rows
namespace L2
section
variable {X:Cx}
def  xr(n b:Bool):Bool:=match n with | false=>b | true=>Bool.not b
def zU(n b:Bool):(n ^^ b)=xr n b:=by cases n <;> cases b <;> rfl
def  qo(neg:Bool):R2:=fun x y H Q=>match x,y with
 | .int i,.int j=>Q (.bl (xr neg (decide (i=j)))) H
 | .str i,.str j=>Q (.bl (xr neg (decide (i=j)))) H
 | .bl i,.bl j=>Q (.bl (xr neg (decide (i=j)))) H
 | _,_=>xx x y=true/\Q (.bl (xr neg (decide (x=y)))) H
def F2(neg:Bool):qN neg=qo neg:=by
 funext x y H Q;unfold qN qo;simp only[zU] <;> rfl
def eD:aZ X (compareOp .Eq) (qo false):=F2 false ▸ Wv
def jg:aZ X (compareOp .NotEq) (qo true):=F2 true ▸ aaG
def  u7(neg:Bool):R2:=fun x y H Q=>match x,y with
 | .ref a,-b=>∃ ts us:List Str,H a=!.lst (ts.map V.str)/\H b=!.lst (us.map V.str)/\Q (.bl (xr neg (decide (ts=us)))) H
 | _,_=>False
def LC(neg:Bool):qa neg=u7 neg:=by
 funext x y H Q;unfold qa u7;simp only[zU] <;> rfl
def ZA(hu:X.A.units < cLine):aZ X (compareOp .Eq) (u7 false):=LC false ▸ Zs hu
def Lw(hu:X.A.units < cLine):aZ X (compareOp .NotEq) (u7 true):=LC true ▸ QM hu
def  vb(K:ν)(neg:Bool):R2:=fun x y H Q=>match x,y with
 | .ref a,-b=>∃ xs ys:List V,aB K H a xs/\aB K H b ys/\((ys=[]/\Q (.bl (xr neg xs.isEmpty)) H)\/(xs=[]/\Q (.bl (xr neg ys.isEmpty)) H))
 | _,_=>False
def La{K:ν}(neg:Bool):rp K neg=vb K neg:=by
 funext x y H Q;unfold rp vb;simp only[zU] <;> rfl
def Jl{K:ν}(hK:X.K=K)(hu:X.A.units < cLine):aZ X (compareOp .Eq) (vb K false):=La (K:=K) false ▸ SQ hK hu
def IP{K:ν}(hK:X.K=K)(hu:X.A.units < cLine):aZ X (compareOp .NotEq) (vb K true):=La (K:=K) true ▸ aaV hK hu
end
end L2
namespace L2
open PySem PySem.Spec PyProof.Rows
def XU{J:It}{tt:TT}{te:TE}{Q:VK}{H:Hp}:qX J tt te Q H ↔ sA J 1 [] (fi 0) tt te Q H:=by
 constructor
 ·rintro⟨W,w0,h⟩;show#[W,w0,fun i ys m H hw=>#[(h i ys m H hw).1,(h i ys m H hw).2.imp_right fun z=>#[z.1,z.2.1,fun y H' hy σ0 hσ=>?_]]];let⟨a,rfl⟩:=Bx hσ;show#[#[[!y],rfl,rfl],z.2.2 y H' hy]
 ·rintro⟨W,w0,h⟩;show#[W,w0,fun i ys m H hw=>#[(h i ys m H hw).1,(h i ys m H hw).2.imp_right fun z=>#[z.1,z.2.1,fun y H' hy=>(z.2.2 y H' hy [none] rfl).2]]]
def Kd{wi:TI}{tt:TT}{te:TE}{σ:St}{H:Hp}{Q:VK}(h:xb wi tt te σ H Q):kI 1 [] wi (fi 0) tt te σ H Q:=by
 rw[Ms]at h;rw[DI];have e:(fun (J:It) H1=>qX J tt te Q H1)=fun J H1=>sA J 1 [] (fi 0) tt te Q H1:=by funext J H1;show propext XU
 rw[e]at h;show#[[],#[rfl,()],h]
section
variable {X:Cx}
def Dv.Jk{elt iter tg:Expr}{ifs:List Expr}{x:Str}{cl:List (Str×Addr)}{pos:Pos}{scope:Scope}{wi:TI}{tt:TT}{te:TE}(hc:X.calm=true)(hi:QI X tg iter wi)(ht:∀ s H ex C,qt (cL X scope cl ([x]++[]) s H ex C) ifs tt)(iH:∀ s H ex C,QG (cL X scope cl ([x]++[]) s H ex C) tg (fi 0))(he:∀ s H ex C,QE (cL X scope cl ([x]++[]) s H ex C) elt te)(CC:jW X scope cl [] [])(hk:scope.kind=.function:=by rfl)(bK:∀ y∈scope.names,y.2=.local->scope.names.lookup y.1=!.local:=by decide +kernel)(eY:∀ y∈scope.names,y.2≠.cell:=by decide +kernel)(hs:∀ x,foldedSetIterable iter X.env x=pure x:=by intro _;rfl):QE X (.ListComp elt [#[tg,iter,ifs,0]] scope pos) (xb wi tt te) :=
 #[fun π s σ H Q I h=>(Dv.AQ hc hi ht iH he CC hk bK eY hs).h π s σ H Q I (Kd h)]
def Dv.zM(i:Nat){elt iter tg:Expr}{ifs:List Expr}{x:Str}{cl:List (Str×Addr)}{y:Str}{py pos spos:Pos}{scope:Scope}{wi:TI}{tt:TT}{te:TE}(hc:X.calm=true)(hN:X.N.Nodup)(hi:QI X tg iter wi)(ht:∀ s H ex C,qt (cL X scope cl ([x]++[]) s H ex C) ifs tt)(iH:∀ s H ex C,QG (cL X scope cl ([x]++[]) s H ex C) tg (fi 0))(he:∀ s H ex C,QE (cL X scope cl ([x]++[]) s H ex C) elt te)(CC:jW X scope cl [] [])(vZ:X.N[i]?=!y:=by rfl)(rV:X.env.scope.names.lookup y=!.local:=by rfl)(vA:swapsWith (.ListComp elt [#[tg,iter,ifs,0]] scope pos) (!.Name y py) spos.line X.env=pure true:=by rfl)(hk:scope.kind=.function:=by rfl)(bK:∀ y∈scope.names,y.2=.local->scope.names.lookup y.1=!.local:=by decide +kernel)(eY:∀ y∈scope.names,y.2≠.cell:=by decide +kernel)(hs:∀ x,foldedSetIterable iter X.env x=pure x:=by intro _;rfl):QS X (.Assign [.Name y py] (.ListComp elt [#[tg,iter,ifs,0]] scope pos) spos) (jU (xb wi tt te) (fi i)) :=
 #[fun π s σ H D I h=>(Dv.Zl i hc hN hi ht iH he CC vZ rV vA hk bK eY hs).h π s σ H D I (Kd h)]
end
end L2
namespace L2
def F5{α:Type}{C:List α->Prop}(h:C []):∀ us:List α,us.length=0->C us
 | [],_=>h
def nN{α:Type}{C:List α->Prop}{n:Nat}(h:∀ a us,us.length=n->C (a::us)):∀ us:List α,us.length=n+1->C us
 | a::us,e=>h a us (Nat.succ.inj e)
def Iu{α:Type}{C:List α->Prop}(h:∀ a,C [a]):∀ us:List α,us.length=1->C us:=nN fun a=>F5 (C:=fun us=>C (a::us)) (h a)
def Kw{α:Type}{C:List α->Prop}(h:∀ a b,C [a,b]):∀ us:List α,us.length=2->C us:=nN fun a=>Iu (C:=fun us=>C (a::us)) (h a)
def sQ{α:Type}{C:List α->Prop}(h:∀ a b c,C [a,b,c]):∀ us:List α,us.length=3->C us:=nN fun a=>Kw (C:=fun us=>C (a::us)) (h a)
def tF{α:Type}{C:List α->Prop}(h:∀ a b c d,C [a,b,c,d]):∀ us:List α,us.length=4->C us:=nN fun a=>sQ (C:=fun us=>C (a::us)) (h a)
def Ec{α:Type}{C:List α->Prop}(h:∀ a b c d e,C [a,b,c,d,e]):∀ us:List α,us.length=5->C us:=nN fun a=>tF (C:=fun us=>C (a::us)) (h a)
def J6{α:Type}{C:List α->Prop}(h:∀ a b c d e f,C [a,b,c,d,e,f]):∀ us:List α,us.length=6->C us:=nN fun a=>Ec (C:=fun us=>C (a::us)) (h a)
def OM{α:Type}{C:List α->Prop}(h:∀ a b c d e f g,C [a,b,c,d,e,f,g]):∀ us:List α,us.length=7->C us:=nN fun a=>J6 (C:=fun us=>C (a::us)) (h a)
end L2
namespace L2
open PySem PySem.Spec PyProof.Rows
section
open PySem.AutoSeq1 (wpAny_loadPart')
open PySem.MeetsSeq PySem.SeqAt
def VA{M:Model}{A:Around}{E:Value->Shared->Prop}{s:Shared}{β:Type}(f:Nat->β->Sem (ForInStep β))(I:List Nat->β->Shared->Prop)(Q:β->Shared->Prop)(turn:∀ x rest b s,I (x::rest) b s->wpAny M A (f x b) (fun r s'=>match r with | .yield b'=>I rest b' s' | .done b'=>Q b' s') E s)(fin:∀ b s,I [] b s->Q b s)(r:Std.Legacy.Range)(b:β)(h:I (List.range' r.start r.size r.step) b s):wpAny M A (forIn r b f) Q E s:=by
 rw[Std.Legacy.Range.forIn_eq_forIn_range'];show wpAny_forIn_list f I Q turn fin _ b h
def Vm(l:Addr)(items:Array Value)(n:Nat)(dd:Option Addr)(sl:Array (Option Value))(x:Value)(e:Value->Bool)(j:Nat)(hj:j < items.size)(hit:e items[j]=true)(ky:∀ m (hm:m < items.size),m < j->e items[m]=false) :
  Meets (Builtin.«tuple.index» #[[-l,x],[]])
   (fun A R s=>s.heap.get? l=!{ cls:=.type "tuple",dict:=dd,data:=.seq items n,slots:=sl }/\(∀ y,y∈items->EqAt A.in1 s y x (e y))/\R (.ok (.ret (.int j s.toks))) { s with toks:=s.toks+1 }) :=
 .of_wp fun prog w A R s h=>by
  let⟨hp,g,d,tk,os⟩:=s;let⟨hl,he,h⟩:=h
  wp_walk using wpAny_loadPart' hl,VA _ (fun rest b s'=>b.1=none/\s'=#[hp,g,d,tk,os]/\∃ i,i<=j/\rest=List.range' i (items.size - i)) _
  case turn =>
   rintro i rest b s' ⟨hb,rfl,i',hi,hr⟩;let⟨k,hk⟩:∃ k,items.size - i'=k+1:=#[items.size - i' - 1,∅];rw[hk,List.range'_succ]at hr;cases hr;have bO:i < items.size:=∅
   rw[show items[i]?=some items[i] from by simp[bO]];show jp (he _ (Array.getElem_mem bO) prog w _ _ ?_);by_cases hij:i=j
   ·subst hij;rw[hit]
    wp_walk
    show#[_,rfl,h]
   ·rw[ky i bO ∅]
    wp_walk
    show#[rfl,rfl,i+1,∅,by congr 1;omega]
  case fin =>
   rintro⟨b1,b2⟩ s' ⟨hb,rfl,i,hi,hr⟩;have:items.size - i=0:=by simpa using On List.length hr.symm
   omega
  case h =>
   show#[rfl,rfl,0,wS _,by simp[Std.Legacy.Range.size]]
def wt:∀ {ns:List Int}{us:List Value},Vals (ns.map V.int) us->IntsAre us ns
 | [],_,.nil=>.nil
 | _::_,_,.cons r t=>by
  let⟨k,rfl⟩:=r;show .cons _ _ (wt t)
def Mx:∀ {ns:List Int}{us:List Value},IntsAre us ns->∃ xs:List (Int×Tok),us=xs.map (fun p=>Value.int p.1 p.2)/\ns=xs.map (·.1)
 | _,_,.nil=>#[[],rfl,rfl]
 | _,_,.cons n t h=>by
  let⟨xs,e1,e2⟩:=Mx h;show#[(n,t)::xs,by rw[e1];rfl,by rw[e2];rfl]
end
section
variable {X:Cx}
def  CP(K:ν):V->List V->Hp->VK->Prop:=fun x vs H Q=>match x,vs with
 | .ref l,[.int k]=>∃ ns:List Int,aB K H l (ns.map V.int)/\k∈ns/\Q (.int (ns.idxOf k:Nat)) H
 | _,_=>False
def  Cm(K:ν):V->List V->Hp->VK->Prop:=fun x vs H Q=>match x,vs with
 | .ref l,[.int k]=>∃ ns:List Int,bE K H l (ns.map V.int)/\k∈ns/\Q (.int (ns.idxOf k:Nat)) H
 | _,_=>False
def Ek{K:ν}(hK:X.K=K):cP X "list.index" (CP K):=by
 subst hK;intro π s σ H x vs v us Q I rx rv h;unfold CP at h;split at h
 ·rename_i l k;let⟨ns,hl,hk,q⟩:=h;cases rx;let⟨u,rfl,ru⟩:=vals1 rv;let⟨t,rfl⟩:=ru;let⟨ai,r',⟨⟨cls,dd,data,sl⟩,n,ho,hc,hd,hs⟩,hz⟩:=I.list hl;simp only at hc hd hs;subst hc hd hs;have hi:=wt r';have hlen:=hi.length;have hj:ns.idxOf k < ns.length:=_k.mpr hk;rw[pi]at hz;have hsl:sizeLine < 2 ^ 62:=⋯
  show ST _p #[_,ho,rfl] PySem.F.entry_list_index (PySem.F.args_list_index_2 _ _)
   (PySem.SeqAt.list_indexAt l ai.toArray n none sl (.int k t) (isInt k) (ns.idxOf k) (by simpa [hlen] using hj) ∅ ?_ ?_) #[ho,fun y hy=>(eq_isInt k t hi y (by simpa using hy)).at _ _,#[.int _,H,I.kept (t':=s.toks+1) fun _ _ e=>e,#[_,rfl],q]]
  ·change isInt k ai[ns.idxOf k]=true;rw[isInt_at k hi _ ∅ hj]
   simpa using List.getElem_idxOf hj
  ·intro j hjs bO;change isInt k ai[j]=false;rw[isInt_at k hi j (by simpa using hjs) ∅];show ne_of_lt_idxOf bO _
 ·show h.elim
def QZ{K:ν}(hK:X.K=K):cP X "tuple.index" (Cm K):=by
 subst hK;intro π s σ H x vs v us Q I rx rv h;unfold Cm at h;split at h
 ·rename_i l k;let⟨ns,hl,hk,q⟩:=h;cases rx;let⟨u,rfl,ru⟩:=vals1 rv;let⟨t,rfl⟩:=ru;let⟨ai,r',⟨⟨cls,dd,data,sl⟩,ho,hc,n,hs⟩,hz⟩:=I.tuple hl;simp only at hc hs;subst hc hs;have hi:=wt r';have hlen:=hi.length;have hj:ns.idxOf k < ns.length:=_k.mpr hk;show ST PySem.F.slot_tuple_index #[_,ho,rfl] PySem.F.entry_tuple_index (PySem.F.args_tuple_index_2 _ _)
   (Vm l ai.toArray n dd sl (.int k t) (isInt k) (ns.idxOf k) (by simpa [hlen] using hj) ?_ ?_) #[ho,fun y hy=>(eq_isInt k t hi y (by simpa using hy)).at _ _,#[.int _,H,I.kept (t':=s.toks+1) fun _ _ e=>e,#[_,rfl],q]]
  ·change isInt k ai[ns.idxOf k]=true;rw[isInt_at k hi _ ∅ hj]
   simpa using List.getElem_idxOf hj
  ·intro j hjs bO;change isInt k ai[j]=false;rw[isInt_at k hi j (by simpa using hjs) ∅];show ne_of_lt_idxOf bO _
 ·show h.elim
def  BP(K:ν):List V->Hp->VK->Prop:=fun xs H Q=>match xs with
 | [-p]=>∃ (ns:List Int) (m:Int),aB K H p (ns.map V.int)/\m∈ns/\(∀ k∈ns,m<=k)/\Q (.int m) H
 | _=>False
def Cj{K:ν}(hK:X.K=K)(hc:X.calm=true):cJ X (.builtin "min") (BP K):=by
 subst hK;intro π s σ H xs us Q I r h;unfold BP at h;split at h
 ·let⟨ns,m,hl,hm,hle,q⟩:=h;let⟨u,rfl,rx⟩:=vals1 r;cases rx;let⟨ai,r',pl,hz⟩:=I.list hl;let⟨xs,e1,e2⟩:=Mx (wt r');have he:ai.toArray=intItems xs.toArray:=by rw[e1];simp[intItems]
  rw[he]at pl;have hx:0 < xs.length:=by
   rw[e2]at hm;cases xs with
   | nil=>cases hm
   | cons _ _=>show Nat.succ_pos _
  show min_intList (I.ok.hd hc) pl.isList (by simpa using hx) fun v h' tk hv hk=>?_;let⟨t,rfl⟩:=intItems_at hv;let⟨pF,pz⟩:=PySem.argBest_lt (numAt xs.toArray) (xs.toArray.size - 1);show#[.int m,H,I.kept (t':=tk) hk,#[t,?_],q];have hn:∀ i (h:i < xs.length),numAt xs.toArray i=xs[i].1:=fun i h=>by simp[numAt,h]
  have hsz:xs.toArray.size=xs.length:=()
  rw[hsz]at pF pz ⊢;generalize argBest _ (xs.length - 1)=a at pF pz ⊢;have ha:a < xs.length:=∅
  have h1:m<=numAt xs.toArray a:=hle _ (by rw[e2,hn a ha];show List.mem_map_of_mem (_o ha));rw[e2]at hm;let⟨p,hp,hpm⟩:=Do.mp hm;let⟨i,hi,rfl⟩:=List.getElem_of_mem hp;have h2:=pz i ∅;rw[hn i hi,hpm]at h2;rw[show numAt xs.toArray a=m by omega]
 ·show h.elim
end
end L2
namespace HT
open PySem PySem.Spec PyProof.Rows
section
variable {prog:Program}{w:World}{A:Around}{E:Value->Shared->Prop}{s:Shared}
def aaj{t sl:Addr}{items:Array Value}{vl vu:Value}{lo hi:Option Int}{Q:Value->Shared->Prop}(ht:IsTup s.heap t items)(hs:s.heap.IsSliceOf sl vl vu .none)(pl:IsPart vl lo)(pu:IsPart vu hi)(hw:bg items.size 0 lo=0/\bg items.size items.size hi=items.size)(h:Q (-t) s):wpAny (model prog w) A (getItem (-t) (-sl)) Q E s:=by
 let⟨os,lY,zx,vG⟩:=id hs;have FX:s.TypeIs (-sl) "slice" := #[os,lY,zx];let⟨⟨cls,dd,data,slo⟩,ho,hc,n,hd⟩:=id ht;simp only at hc hd;subst hc hd;unfold getItem
 try with_reducible show wpAny_holding ?_
 first | show wpAny_bind (wpAny_pure ?_) | skip
 show wpAny_bind (wpAny_sequenceKey ht.typeIs ⋯ ?_);show wpAny_bind (wpAny_callSpecial?_slot (name:=Str.ofString "__getitem__") ht.typeIs PyProof.Rows.slot_tuple_getitem
  (wpAny_call_entry PyProof.Rows.slot_tuple_getitem ht.typeIs entry_tuple_getitem ?_ (args_tuple_getitem _ _)))
 change wpAny _ _ (Builtin.Tuple.tupleItemsOf (-t) >>= _) _ _ s;show wpAny_bind (tupleItemsOf_ ht ?_);show wpAny_bind (wpAny_typeOf FX ?_);rw[if_pos ⋯];show wpAny_bind (LJ hs pl pu ?_);change wpAny _ _ (if (((bg items.size 0 lo:Nat):Int) == 0 && (1:Int) == 1 && (bg items.size items.size hi - bg items.size 0 lo) == items.size)=true then _ else _) _ _ s;rw[if_pos (by rw[hw.1,hw.2];simp)];let⟨hp,g,d,tk,vO⟩:=s
 wp_walk using AutoSeq1.wpAny_loadPart' ho
 show#[_,rfl,wpAny_pure h]
def aaI{t b:Addr}{ws:List Value}{Q:Value->Shared->Prop}(ht:IsTup s.heap t (List.toArray []))(hb:IsTup s.heap b ws.toArray)(h:Q (-b) s):wpAny (model prog w) A (binaryOp .Add (-t) (-b)) Q E s:=by
 let⟨⟨cls,dd,data,sl⟩,ho,hc,n,hd⟩:=id ht;let⟨⟨cls2,zl,data2,yM⟩,pj,jx,n2,hd2⟩:=id hb;simp only at hc hd jx hd2;subst hc hd jx hd2;show concat_meets #[_,ho,rfl] #[_,pj,rfl] noFill_tuple_add seq_tuple_add PySem.F.slot_tuple_add PySem.F.entry_tuple_add (PySem.F.args_tuple_add_2 _ _)
  (tuple_addW0 t b (List.toArray []) ws.toArray n n2 dd zl sl yM rfl) #[ho,pj,h]
end
end HT
namespace L2
open PySem PySem.Spec PyProof.Rows
section
variable {X:Cx}
def  xN(K:ν):R2:=fun x y H Q=>match x,y with
 | .ref a,-b=>∃ xs ys,bE K H a xs/\bE K H b ys/\xs.length+ys.length<=sizeLine/\((xs=[]/\Q (-b) H)\/(xs≠[]/\ys≠[]/\∀ p,H p=none->Q (-p) (upd H p (.tup (xs++ys)))))
 | _,_=>False
def Wj{K:ν}(hK:X.K=K):aZ X (binaryOp .Add) (xN K):=by
 subst hK;intro π s σ H x y v u Q I rx ry h;unfold xN at h;split at h
 ·obtain⟨xs,ys,ha,hb,hz,⟨rfl,q⟩ | ⟨n1,n2,q⟩⟩:=h
  ·cases rx;cases ry;let⟨ai,r1,p1,_⟩:=I.tuple ha;let⟨kh,r2,p2,_⟩:=I.tuple hb;cases r1;show HT.aaI p1 p2 #[-_,H,I,rfl,q]
  ·show Vf π s σ H _ _ v u Q I rx ry #[_,_,xs,ys,rfl,rfl,ha,hb,n1,hz,fun z=>absurd z n2,fun _=>q]
 ·show h.elim
def  AL(K:ν):R2:=fun x y H Q=>match x,y with
 | .ref a,-b=>∃ xs,bE K H a xs/\bE K H b []/\Q (.bl xs.isEmpty) H
 | _,_=>False
def QY{K:ν}(hK:X.K=K)(hu:X.A.units < cLine):aZ X (compareOp .Eq) (AL K):=by
 subst hK;intro π s σ H x y v u Q I rx ry h;unfold AL at h;split at h
 ·let⟨xs,ha,hb,q⟩:=h;cases rx;cases ry;let⟨ai,r1,p1,_⟩:=I.tuple ha;let⟨kh,r2,p2,_⟩:=I.tuple hb;cases r2;show PySem.SeqAt.eq_tupleAt (e:=fun _=>true) p1 p2 hu (fun j _ h2=>absurd h2 (Jaa _)) #[.bl xs.isEmpty,H,I,?_,q];cases r1 <;> rfl
 ·show h.elim
def  C5(K:ν):V->Option Int->Option Int->Hp->VK->Prop:=fun x lo hi H Q=>match x with
 | .ref a=>∃ xs,bE K H a xs/\(HT.bg xs.length 0 lo=0/\HT.bg xs.length xs.length hi=xs.length->Q (-a) H)/\(∀ p,H p=none->Q (-p) (upd H p (.tup (gm xs lo hi))))
 | _=>False
def Qu{K:ν}(hK:X.K=K):g7 X (C5 K):=by
 subst hK;intro π s σ H x v vl vu lo hi sl Q I rx hs pl pu h;unfold C5 at h;split at h
 ·let⟨xs,hx,q1,q2⟩:=h;by_cases hw:HT.bg xs.length 0 lo=0/\HT.bg xs.length xs.length hi=xs.length
  ·cases rx;let⟨ai,r,ht,hz⟩:=I.tuple hx;have hlen:ai.toArray.size=xs.length:=by rw[sB];show r.length.symm
   show#["tuple",_,PyProof.Rows.slot_tuple_getitem.lookup,ht.typeIs,?_];show HT.aaj ht hs pl pu (by rw[hlen];show hw) #[-_,H,I,rfl,q1 hw]
  ·show K6 π s σ H _ v vl vu lo hi sl Q I rx hs pl pu #[_,xs,rfl,hx,hw,q2]
 ·show h.elim
def  Aa(r:V->List V->Hp->VK->Prop)(to:TE)(t:TA):TE:=fun σ H Q=>to σ H fun x H1=>match x with
 | .ref l=>(match H1 l with
  | some (.tup _)=>t σ H1 fun xs H2=>r (-l) xs H2 Q
  | _=>False)
 | _=>False
section
variable {o e:Expr}{es:List Expr}{name:Str}{id:String}{r:V->List V->Hp->VK->Prop}{to:TE}{t:TA}{apos bc:Pos}
def TF(slot:Slot "tuple" name id)(cD:typeOf (.builtin id)=pure (.type "method_descriptor"))(hm:cP X id r)(ho:PE X o to)(ha:PA X (e::es) t)(hs:(e::es).all noStar=true:=by rfl)(aS:decide ((e::es).length+([]:List Keyword).length+(if ([]:List Keyword).isEmpty then 0 else 1) < 30)=true:=by rfl)(fb:attributeBase o name X.env (eval o X.env)=eval o X.env:=by rfl)(fe:(apos.endLine == bc.line)=true:=by rfl) :
  PE X (.Call (.Attribute o name apos) (e::es) [] bc) (Aa r to t):=by
 have hs':=hs;rw[LE,Fk]at hs';have aQ:starEach (e::es) X.env=(false,eval e X.env)::starEach es X.env:=fv hs'.1;have wa:(backTo bc (starEach es X.env)).any (·.1)=false:=ig hs'.2;have vw:((backTo bc (starEach (e::es) X.env)).all (fun x=>Bool.not x.1) && (backToKw bc (keywordEach [] X.env)).all (fun x=>x.1.isSome)
   && decide ((e::es).length+([]:List Keyword).length+(if ([]:List Keyword).isEmpty then 0 else 1) < 30))=true:=by
  rw[xS hs,aS];rfl
 intro π s σ H Q I h;show _3 fb vw fe rfl (aE (ho π s σ H _ I h) fun v s1 ⟨x,H1,I1,r1,q1⟩=>?_);dsimp only at q1;split at q1
 ·rename_i l;split at q1
  ·rename_i zs el;cases (show v=Value.ref l from r1);let⟨_,ai,_,ob,eo,c,n,d,dn⟩:=(show cg X.prog X.w H1 s1.heap l (.tup zs) from I1.aA l _ el);show#["tuple",id,PySem.F.plainAttrs_tuple,slot,cD,#[ob,eo,c],fun a z=>(by cases z;show#[ob,eo,dn]),?_];have hA:=ha bc π s1 σ H1 _ I1 q1;rw[aQ]at hA ⊢;show TD (by change(false || (backTo bc (starEach es X.env)).any (·.1))=false;rw[wa] <;> rfl) (_e ?_);show aE hA fun us s2 ⟨vs,H2,I2,r2,q2⟩=>hm π s2 σ H2 (-l) vs _ us Q I2 rfl r2 q2
  ·show q1.elim
 ·show q1.elim
def Dv.Sz(slot:Slot "tuple" name id)(cD:typeOf (.builtin id)=pure (.type "method_descriptor"))(hm:cP X id r)(ho:QE X o to)(ha:QA X (e::es) t)(hs:(e::es).all noStar=true:=by rfl)(aS:decide ((e::es).length+([]:List Keyword).length+(if ([]:List Keyword).isEmpty then 0 else 1) < 30)=true:=by rfl)(fb:attributeBase o name X.env (eval o X.env)=eval o X.env:=by rfl)(fe:(apos.endLine == bc.line)=true:=by rfl):QE X (.Call (.Attribute o name apos) (e::es) [] bc) (Aa r to t):=#[TF slot cD hm ho.h ha.h hs aS fb fe]
end
def DC:bootBuiltins "min" = !.builtin "min":=by kernel_rfl
end
def bL.m{j k:Nat}{A:Around}(r:bL k A)(h:j<=k:=by decide):bL j A:=r.mono h
def fI{C d x:Addr}{f:Str}{fs gs:List (Str×V)}{v:V}{H:Hp}{Q:V->Prop}(h:H x=!.ins C d fs)(s:dz fs gs)(e:List.lookup f gs=!v)(q:Q v):FI C f (-x) H Q:=#[x,_,_,_,rfl,h,(s f).trans e,q]
def mI{C d x:Addr}{f:Str}{fs gs:List (Str×V)}{H:Hp}{q:Prop}(h:H x=!.ins C d fs)(s:dz fs gs)(r:q)(e:List.lookup f gs=none:=by rfl):MI C f (-x) H q:=#[x,_,_,rfl,h,(s f).trans e,r]
@[elab_as_elim] theorem cI {H:Hp}{p:Addr}{o:HO}{C:Hp->Prop} (h:H p=none) (k:∀ H1,ag H H1->H1 p=!o->C H1):C (upd H p o):=k _ (ag.upd h) ay
section
variable {prog:Program}{w:World}{A:Around}{E:Value->Shared->Prop}{s:Shared}
end
section
variable {X:Cx}
end
def  DE(K:ν)(H:Hp):Nat->V->V->Prop
 | 0,x,y=>cE x=true/\cE y=true/\ff x y=true
 | n+1,x,y=>(cE x=true/\cE y=true/\ff x y=true)\/∃ a b xs ys,x=-a/\y=-b/\(aB K H a xs/\aB K H b ys\/bE K H a xs/\bE K H b ys)/\xs.length=ys.length/\∀ i (h1:i < xs.length) (h2:i < ys.length),DE K H n xs[i] ys[i]
section
variable {X:Cx}
end
def  Xl:List V->Hp->VK->Prop:=fun xs H Q=>match xs with
 | [.int a,.int b]=>Q (.int (if b < a then b else a)) H
 | _=>False
section
variable {K:ν}{x qual nm nm2:Str}{st:Stmt}{f:Addr}{fd:FuncData}{ps:List Str}{ds:List Value}
end
section
variable {X:Cx}
end
def  Cq(d:Addr)(o:Obj)(u:HO)(ts:List Str):It :=
 #[fun i H=>H d=!.bX o u/\i < ts.length,fun i H x H'=>H'=H/\∃ t,ts[i]?=!t/\x=.str t,fun i H=>H d=!.bX o u/\ts.length<=i]
def W5{P:Program}{w:World}{K:ν}{tg:Expr}{d it:Addr}{o:Obj}{u:HO}{ts:List Str}{es:Array DictEntry}{ep:Nat}(hx:o.ExactDict)(eS:o.data=.dict es ep)(hn:es.size=ts.length)(hk:∀ (i:Nat) (h:i < es.size),∃ t k,ts[i]?=!t/\es[i].key=.str t k) :
  Turn P w K tg (Cq d o u ts) [it] it (fun i h=>h.IsKeyIter it d i es.size ep) where
 mem:=()
 obj:=fun i h st b hb=>by
  have e:b=it:=by simpa using hb
  subst e;let⟨o,e,c,d⟩:=st;show#[o,e,fun v z=>by rw[d]at z;cases z]
 keep:=fun i h h' st k=>st.at fun o e=>k it () o e
 item:=by
  intro X hP hw hK hc i π s σ H E I hf st hg;subst hP hw hK;let⟨fJ,bO⟩:=hg;have ho:s.heap.get? d=!o:=(I.aA d _ fJ).1;let⟨f0,f1,f2,f3,f4,f5⟩:=hf it ();show wy st #[o,ho,hx,eS] (fun hl h' st' sb=>?_) (fun rT=>absurd bO ∅);let⟨t,k,h1,h2⟩:=hk i hl;have I1:Inv X π σ H { s with heap:=h' }:=I.turned (t':=s.toks) (fun b o hb e=>(sb.2 b hb).trans e) f0 f1 f3 f4 f5;let⟨o',e,c,dd⟩:=id st';show#[_,rfl,yB (s:={ s with heap:=h' }) e c dd ⋯ #[.str t,H,I1,#[k,h2],#[rfl,t,h1,rfl],st',fun b hb=>(hf b hb).1]]
 done:=by
  intro X hP hw hK hc i π s σ H E I hf st hg;subst hP hw hK;let⟨fJ,bO⟩:=hg;have ho:s.heap.get? d=!o:=(I.aA d _ fJ).1;let⟨f0,f1,f2,f3,f4,f5⟩:=hf it ();show wy st #[o,ho,hx,eS] (fun hl=>absurd bO ∅) (fun rT=>#[I.ok.hd hc,fun h' eb=>#[rfl,I.turned (t':=s.toks) (fun b o hb e=>eb b o hb e) f0 f1 f3 f4 f5]])
 self:=fun _ _ _ _ _ st h=>wpAny_pyIter_keyiter st h
def IK{P:Program}{w:World}:∀ {es:List DictEntry}{vs:List (Key×Value)}{ts:List Str},Pairs (dI P w) es vs->vs.map (·.1)=ts.map Sum.inr->es.length=ts.length/\∀ (i:Nat) (h:i < es.length),∃ t k,ts[i]?=!t/\es[i].key=.str t k
 | [],_,ts,.nil,e=>by
  cases ts with
  | nil=>show#[rfl,fun i h=>absurd h (Jaa _)]
  | cons=>cases e
 | e::es,(kv::vs),ts,.cons h1 h2 r,h=>by
  cases ts with
  | nil=>cases h
  | cons t ts =>
   let⟨hk,hr⟩:=List.cons.inj h;let⟨a,b⟩:=IK r hr;show#[On (· + 1) a,fun i hi=>?_];cases i with
   | zero =>
    have h1':lB kv.1 e.key=true:=h1;rw[show kv.1=Sum.inr t from hk]at h1';let⟨k,zp⟩:=HZ h1';show#[t,k,rfl,zp]
   | succ i=>show b i (Nat.lt_of_succ_lt_succ hi)
section
variable {X:Cx}{tg:Expr}{π:List (Addr×Obj)}{σ:St}{H:Hp}{s:Shared}
def Inv.freeze{d:Addr}{o:Obj}{kvs:List (Key×V)}(I:Inv X π σ H s)(e:Rd H d (.dK kvs))(ho:s.heap.get? d=!o):Inv X π σ (upd H d (.bX o (.dK kvs))) s:=by
 rcases e with e | ⟨o',e⟩
 ·have mu:qP (H d):=by rw[e];trivial
  show I.un (t':=s.toks) (h':=s.heap) (Un.write mu (.inl rfl) (fun _ _ _ q=>q) #[o,ho]) (I.aA.write mu (.inl rfl) (fun _ _ _ q=>q) #[o,ho] #[ho,I.aA d _ e])
 ·let⟨h1,_⟩:=I.aA d _ e;rw[ho]at h1;cases h1;rw[show upd H d (.bX o (.dK kvs))=H from funext fun b=>by
   by_cases z:b=d
   ·rw[z,ay,e]
   ·rw[ah z]]
  show I
def  C3(tl:TE):TI:=fun σ H R=>tl σ H fun x H1=>∃ d kvs ts,x=-d/\Rd H1 d (.dK kvs)/\kvs.map (·.1)=ts.map Sum.inr/\∀ o,R (Cq d o (.dK kvs) ts) (upd H1 d (.bX o (.dK kvs)))
def RE{l:Expr}{tl:TE}(hl:PE X l tl):PI X tg l (C3 tl):=by
 intro π s σ H R I h;show aE (hl π s σ H _ I h) fun v s1 #[x,H1,I1,r1,q1]=>?_;let⟨d,kvs,ts,rfl,hr,hk,q⟩:=q1;cases r1;let⟨hz,hS,vs,rv,o,es,ep,ho,hx,eS,Nc,FV,wo⟩:=hr.ok I1.aA;have I2:=I1.freeze hr ho;let⟨hn,hi⟩:=IK FV (by rw[<- rv.keys];show hk);show C8 hS #[o,ho,hx,eS] ?_;show#[s1.heap.objs.size,[s1.heap.objs.size],_,_,upd H1 d (.bX o (.dK kvs)),rfl,I2.kept (t':=s1.toks) fun b o e=>li _ e,W5 hx eS (by simpa using hn) (fun i h=>by have:=hi i (by simpa using h);rwa [Array.getElem_toList]at this),#[_,wl _ rfl,rfl,rfl],fun b hb=>?_,q o];have e:b=s1.heap.objs.size:=by simpa using hb
 subst e;show I2.tZ (lm _) (I2.aA.fresh (lm _))
def Dv.Xo{l:Expr}{tl:TE}(hl:QE X l tl):QI X tg l (C3 tl):=#[RE hl.h]
end
def  Cy(d:Addr)(o:Obj)(kvs:List (Key×V)):It :=
 #[fun i H=>H d=!.bX o (.dK kvs)/\i < kvs.length,fun i H x H'=>∃ p k v,kvs[i]?=!(k,v)/\x=-p/\H p=none/\H'=upd H p (.tup [kV k,v]),fun i H=>H d=!.bX o (.dK kvs)/\kvs.length<=i]
def Sa{k:Key}{v:Value}(h:lB k v=true):RelV (kV k) v:=by
 rcases jL h with ⟨i,t,rfl,rfl⟩ | ⟨x,t,rfl,rfl⟩
 ·show#[t,rfl]
 ·show#[t,rfl]
def aaw{P:Program}{w:World}{K:ν}{es:List Expr}{kk:Nat}{ko:Pos}{d it:Addr}{o:Obj}{kvs:List (Key×V)}{vs:List (Key×Value)}{ep:Nat}(rv:KV kvs vs)(en:∀ h:Heap,h.get? d=!o->h.DictAt (dI P w) d vs ep) :
  Turn P w K (.Tuple es kk ko) (Cy d o kvs) [it] it (fun i h=>∃ ok ov,IsItemIter h it d i vs.length ep ok ov) where
 mem:=()
 obj:=fun i h #[ok,ov,st] b hb=>by
  have e:b=it:=by simpa using hb
  subst e;show#[_,st,fun v z=>by simp at z]
 keep:=fun i h h' #[ok,ov,st] k=>#[ok,ov,k it () _ st]
 item:=by
  intro X hP hw hK hc i π s σ H E I hf st hg;subst hP hw hK;let⟨ok,ov,st⟩:=st;let⟨fJ,bO⟩:=hg;have ho:s.heap.get? d=!o:=(I.aA d _ fJ).1;have hlen:=rv.length;let⟨⟨k,v⟩,hx⟩:∃ p,kvs[i]?=!p:=#[_,sw bO];let⟨⟨k',u⟩,hu⟩:∃ p,vs[i]?=!p:=#[_,sw ∅];have hp:k=k'/\RelV v u:=Au rv hx hu;let⟨rfl,ru⟩:=hp;show wpAny_pyNext_items_item st (en _ ho) hu fun key h' Fe a1 a5 _ hk=>#[_,rfl,?_];show wpAny_letOwnedTupleGo_items (s:={ s with heap:=h' }) a1 fun h2' hz2 pB=>?_;have Nf:s.heap.objs.size≠it:=_0 (wf st);have t5:h2'.get? s.heap.objs.size=!{ cls:=.type "tuple",data:=.seq (List.toArray [key,u]) }:=pB.extBut _ _ Nf a5;have kp:∀ c o,c≠it->s.heap.get? c=!o->h2'.get? c=!o:=fun c o hc e=>pB.extBut _ _ hc (hk c o hc e);have nT:H s.heap.objs.size=none:=I.aA.fresh (lm _);have I1:Inv X π σ (upd H s.heap.objs.size (.tup [kV k,v])) { s with heap:=h2' }:=by
   have vH:∀ b u,H b=!u->b≠it:=fun b u e z=>by rw[z,(hf it ()).1]at e;cases e
   show I.LQ (s':={ s with heap:=h2' }) (ch:=[it]) rfl #[fun b o e n _ hx=>kp b o (by simpa using hx) e,fun b o e n _ hx=>#[o.slots,kp b o (by simpa using hx) e],fun b o e n _=>?_,fun b o e hx=>#[o,kp b o (by simpa using hx) e],fun b xs e=>?_,fun b o u e=>?_,fun b ps e=>#[(List.toArray []),?_]] (fun b v' e=>?_) I.bare fun b hb=>?_
   ·rw[ah (zn (wf e))];show n
   ·rw[ah (eQ e nT)];show e
   ·rw[ah (eQ e nT)];show e
   ·rw[ah (eQ e nT),e];simp
   ·by_cases hb:b=s.heap.objs.size
    ·subst hb;rw[ay]at e;cases e;show#[fits (),[key,u],.cons (Sa Fe) (.cons ru .nil),#[_,t5,rfl,_,rfl,rfl]]
    ·rw[ah hb]at e;show(I.aA b v' e).gL (fun c v'' hc q=>kp c v'' (fun z=>?_) q) (fun c q=>by rw[ah (eQ q nT)];show q) fun c xs q=>by rw[ah (eQ q nT)];show q
     rcases hc with rfl | hc
     ·show vH _ _ e z
     ·show vH _ _ hc z
   ·let⟨g1,g2,g3,g4,g5,g6⟩:=hf b hb;show#[g4,g2,g5,g6]
  show#[-s.heap.objs.size,_,I1,rfl,#[_,k,v,hx,rfl,nT,rfl],#[_,_,hz2],fun b hb=>?_];have e:b=it:=by simpa using hb
  subst e;rw[ah (ut Nf)];show(hf b hb).1
 done:=by
  intro X hP hw hK hc i π s σ H E I hf st hg;subst hP hw hK;let⟨ok,ov,st⟩:=st;let⟨fJ,bO⟩:=hg;have ho:s.heap.get? d=!o:=(I.aA d _ fJ).1;have hlen:=rv.length;let⟨f0,f1,f2,f3,f4,f5⟩:=hf it ();show wpAny_pyNext_items_end (I.ok.hd hc) st (en _ ho) (_F ∅) fun h' eb=>#[rfl,I.turned (t':=s.toks) (fun b o hb e=>eb b o hb e) f0 f1 f3 f4 f5]
 self:=fun _ _ _ _ _ #[_,_,st] h=>W.kcp_self st h
section
variable {X:Cx}{es:List Expr}{kk:Nat}{ko apos bc:Pos}{o:Expr}{to:TE}
def  BF(to:TE):TI:=fun σ H R=>to σ H fun x H1=>∃ d kvs,x=-d/\Rd H1 d (.dK kvs)/\∀ o,R (Cy d o kvs) (upd H1 d (.bX o (.dK kvs)))
def WI(ho:PE X o to)(fb:attributeBase o "items" X.env (eval o X.env)=eval o X.env:=by rfl)(fe:(apos.endLine == bc.line)=true:=by rfl):PI X (.Tuple es kk ko) (.Call (.Attribute o "items" apos) [] [] bc) (BF to):=by
 intro π s σ H R I h;show wpAny_Call_method0_late fb fe (aE (ho π s σ H _ I h) fun v s1 #[x,H1,I1,r1,d,kvs,ex,hr,q]=>?_);subst ex;cases r1;let⟨hz,hS,vs,rv,dd⟩:=hr.ok I1.aA;let⟨ob,eb,ep,Fx,hx,eS,Nc,FV,wo⟩:=id dd;show#["dict","dict.items",PySem.F.plainAttrs_dict,PySem.F.slot_dict_items,PySem.F.type_dict_items,dd.typeIs,fun a e=>by cases e;show#[ob,Fx,hx.2.1],TD rfl (PySem.evalArgs_none ?_)];show call_meetsIn PySem.F.slot_dict_items dd.typeIs PySem.F.entry_dict_items (PySem.F.args_dict_items_1 _) (meets_dict_items (dI X.prog X.w) d hS) #[#[vs,dd],?_];have en:∀ h:Heap,h.get? d=!ob->h.DictAt (dI X.prog X.w) d vs ep:=fun h e=>#[ob,eb,e,hx,eS,Nc,FV,wo];have I2:=I1.freeze hr Fx;have I3:Inv X π σ (upd H1 d (.bX ob (.dK kvs))) { s1 with heap:=s1.heap.push { cls:=.type "dict_items",data:=.fields (List.toArray [-d]) } }:=I2.kept (t':=s1.toks) fun b o e=>li _ e;show wpAny_pyIter_items (knd:=dI X.prog X.w) (kvs:=vs) (ep:=ep) #[_,wl _ rfl,rfl,rfl] (en _ (li _ Fx)) ?_;show#[_,_,_,_,upd H1 d (.bX ob (.dK kvs)),rfl,I3.kept (t':=s1.toks) fun b o e=>li _ e,aaw rv en,#[_,_,wl _ rfl],fun b hb=>?_,q ob];have e:=wn.mp hb;subst e;show I3.tZ (lm _) (I3.aA.fresh (lm _))
def Dv.U4(ho:QE X o to)(fb:attributeBase o "items" X.env (eval o X.env)=eval o X.env:=by rfl)(fe:(apos.endLine == bc.line)=true:=by rfl):QI X (.Tuple es kk ko) (.Call (.Attribute o "items" apos) [] [] bc) (BF to):=#[WI ho.h fb fe]
end
section
variable {X:Cx}{e st:Expr}{te:TE}{tk:TO}{p2 pos:Pos}
end
section
variable {X:Cx}
def  Vo(K:ν)(n:Nat):R2:=fun x y H Q=>((x=.ao/\y=.ao)\/∃ a b xs ys,x=-a/\y=-b/\(aB K H a xs/\aB K H b ys\/bE K H a xs/\bE K H b ys)/\xs.length=ys.length/\(∀ i (h1:i < xs.length) (h2:i < ys.length),DE K H n xs[i] ys[i]))/\Q (.bl false) H
end
section
variable {prog:Program}{w:World}{A:Around}{E:Value->Shared->Prop}{s:Shared}
end
section
variable {X:Cx}
end
structure Lm where
 params:Arguments
 body:Expr
 scope:Scope
 eL:List (Str×Addr)
def  JT(f:Addr)(q:Str)(l:Lm)(c:Addr):HO:=.ext fun h=>∃ pm ct,h.get? f=!W.kla_obj "<lambda>" q l.params l.body l.scope l.eL pm c ct
def  YI(P:Addr)(q:Str)(l:Lm):TE:=fun _ H Q=>∃ es,Dj H P q es/\∀ f c H1,Ia P q c H H1->H f=none->H1 f=none->Q (-f) (upd H1 f (JT f q l c))
structure abG(X:Cx)(k:Nat)(q:Str)(l:Lm)(ix:List Nat)(W:List V->jf)(N':List Str):Prop where
 S:Md N' l.scope l.eL
 C:aao X N' ix l.eL
 bind:∀ pm cd ct,bindArgs (PySem.W.kla_fn "<lambda>" q l.params l.body l.scope l.eL pm cd ct) #[[],[]]=pure []
 body:∀ (f:Addr) (ax:Value) (vs:List V) (A:Around) (outer:List Env) (s:Shared) (H:Hp) (Q:VK) (E:XK),bL k (A.deeper (PySem.W.envX q l.scope s.heap.objs.size f ax l.eL))->W vs H Q E ->
   ∃ t,PE (Mg X.prog X.w X.K X.mg X.base N' q l.scope f ax l.eL A outer s H E) l.body t/\t (vs.map some) H Q
def  S9(ta:TE)(M:St->Addr->jf->Prop)(FP:jf->jf)(R:St->XK):TE:=fun σ H Q=>ta σ H fun x H1=>∃ f fC,x=-f/\M σ f fC/\FP fC H1 Q (R σ)
def  Xq(i:Nat)(f:Addr)(fC:jf)(R:St->XK):TE:=fun σ H Q=>σ[i]?=!(!-f)/\fC H Q (R σ)
def  Wq(n:Nat)(ix:List Nat)(wi:TI)(g:TG)(tt:St->TT)(te:TE):TE:=fun σ H Q=>kI n ix wi g (tt σ) te σ H Q
namespace Dv
section
variable {X:Cx}
end
end Dv
def  aar:List V->Hp->VK->Prop:=fun xs H Q=>∃ p kvs,∃ ns:List Int,xs=[-p]/\H p=!.dK kvs/\kvs.map (·.1)=ns.map Sum.inl/\ns.length < 64/\ns.Pairwise (·<=·)/\∀ l,H l=none->Q (-l) (upd H l (.lst (ns.map V.int)))
def  X0(t:TE):TE:=fun σ H Q=>∃ p kvs,H p=!.dK kvs/\t σ H fun v H'=>∃ o,H' p=!.bX o (.dK kvs)/\Q v (upd H' p (.dK kvs))
def  V9:R2:=fun x y H Q=>match x,y with
 | .ref a,-b=>∃ kvs,H a=!.dK kvs/\H b=!.dK []/\Q (.bl (Bool.not kvs.isEmpty)) H
 | _,_=>False
def  QJ:List V->Hp->VK->Prop:=fun xs H Q=>∃ p kvs,xs=[-p]/\H p=!.dK kvs/\Q (.int kvs.length) H
def  Xh(d:Addr)(o:Obj)(u:HO)(ts:List Key):It :=
 #[fun i H=>H d=!.bX o u/\i < ts.length,fun i H x H'=>H'=H/\∃ t,ts[i]?=!t/\x=kV t,fun i H=>H d=!.bX o u/\ts.length<=i]
section
variable {X:Cx}{tg:Expr}{π:List (Addr×Obj)}{σ:St}{H:Hp}{s:Shared}
def  abk(tl:TE):TI:=fun σ H R=>tl σ H fun x H1=>∃ d kvs,x=-d/\Rd H1 d (.dK kvs)/\∀ o,R (Xh d o (.dK kvs) (kvs.map (·.1))) (upd H1 d (.bX o (.dK kvs)))
end
def  Kr(c:Addr)(v:V):HO:=.ext fun h=>∃ u,RelV v u/\h.IsCell c (!u)
def  iu(D:List Addr)(H H':Hp):Hp:=fun b=>if b∈D then H b else H' b
section
variable {P:Program}{w:World}{K:ν}{mg:Str->Option Value}{base:Heap}{A:Around}{outer:List Env}{s s':Shared}{H H':Hp}{D:List Addr}
end
structure abv(P:Program)(w:World)(K:ν)(mg:Str->Option Value)(base:Heap)(k:Nat)(q:Str)(l:Lm)(W:List V->jf)(N':List Str):Prop where
 S:Md N' l.scope l.eL
 all:∀ x c,l.eL.lookup x=!c->x∈N'
 bind:∀ pm cd ct,bindArgs (PySem.W.kla_fn "<lambda>" q l.params l.body l.scope l.eL pm cd ct) #[[],[]]=pure []
 body:∀ (f:Addr) (ax:Value) (vs:List V) (A:Around) (outer:List Env) (s:Shared) (H:Hp) (Q:VK) (E:XK),bL k (A.deeper (PySem.W.envX q l.scope s.heap.objs.size f ax l.eL))->W vs H Q E ->
   ∃ t,PE (Mg P w K mg base N' q l.scope f ax l.eL A outer s H E) l.body t/\t (vs.map some) H Q
structure abJ(q:Str)(l:Lm)(c:Addr)(N':List Str)(vs:List V)(H:Hp)(f:Addr):Prop where
 hf:H f=!JT f q l c
 hc:H c=!xF c q
 len:vs.length=N'.length
 on:∀ (i:Nat) (x:Str),N'[i]?=!x->∃ ci v,l.eL.lookup x=!ci/\vs[i]?=!v/\H ci=!Kr ci v
def  Jm(l:Lm):List Addr:=l.eL.filterMap fun p=>l.eL.lookup p.1
def  Y7(X:Cx)(π:List (Addr×Obj))(R:St->VK)(f:Flow)(s':Shared):Prop :=
 match f with
 | .ret u=>∃ v σ' H',Inv X π σ' H' s'/\RelV v u/\R σ' v H'
 | _=>False
abbrev TR:=(St->VK)->St->Hp->Prop
structure QR(X:Cx)(st:List Stmt)(t:TR):Prop where
 h:∀ (π:List (Addr×Obj)) (s:Shared) (σ:St) (H:Hp) (R:St->VK),Inv X π σ H s->t R σ H->wpAny (model X.prog X.w) X.A (execs st X.env) (Y7 X π R) X.xe s
structure abH(X:Cx)(σ:St)(H H'':Hp):Prop where
 off:∀ b,(∀ x,X.env.cells.lookup x≠!b)->H'' b=H b
 on:∀ (i:Nat) (x:Str) (v:V) (c:Addr),X.N[i]?=!x->σ[i]?=!(!v)->X.env.scope.names.lookup x=!.cell->X.env.cells.lookup x=!c->H'' c=!Kr c v
 new:∀ x c,X.env.cells.lookup x=!c->H c=none
 has:∀ x,X.env.scope.names.lookup x=!.cell->∃ c,X.env.cells.lookup x=!c
def  YT:R2:=fun x y H Q=>match x,y with
 | .ref a,-b=>∃ kvs,H a=!.dK kvs/\H b=!.dK []/\Q (.bl kvs.isEmpty) H
 | _,_=>False
section
variable {X:Cx}
def  WT(te:TE):TE:=fun σ H Q=>te σ H fun x H1=>∃ d kvs,x=-d/\Rd H1 d (.dK kvs)/\∀ l,H1 l=none->Q (-l) (upd H1 l (.lst (kvs.map (·.2))))
end
section
variable {prog:Program}{w:World}{K:Type}[DecidableEq K]{knd:HeapKind prog w K}{A:Around}{E:Value->Shared->Prop}{s:Shared}
end
section
variable {X:Cx}{o e:Expr}{apos bc:Pos}{td ty:TE}
def  Xw(td ty:TE):TE:=fun σ H Q=>td σ H fun x H1=>∃ a,x=-a/\ym H1 a/\ty σ H1 fun y H2=>∃ kvs k v b,H2 a=!.dT kvs/\y=-b/\H2 b=!.tup (k.map kV)/\aG kvs k=!v/\Q v (upd H2 a (.dT (K5 kvs k)))
end
open PySem.MeetsSeq PySem.SeqAt
section
variable {X:Cx}
end
structure SB(kd:SortKind)(a₀:Array Keyed)(st:SortSt):Prop where
 perm:(arrOf st).Perm a₀
 kind:kindOf st=kd
 failed:failedOf st=none
 pend:pendingOf st=(List.toArray [])
section
variable {prog:Program}{w:World}{A:Around}{E:Value->Shared->Prop}{s:Shared}{a₀:Array Keyed}{κ:PyProof.Rows.KeyKind}{kd:SortKind}{st:SortSt}
def  XZ(κ:PyProof.Rows.KeyKind)(xs:Array Keyed)(k:Nat):Prop:=∀ i j,i < j->j < k->κ.blt (KK κ xs i) (KK κ xs j)=true
structure abq(κ:PyProof.Rows.KeyKind)(a₀:Array Keyed)(st:SortSt):Prop where
 perm:(arrOf st).Perm a₀
 failed:failedOf st=none
 asc:XZ κ (arrOf st) a₀.size
 pend:pendingOf st=(List.toArray [(0,a₀.size,0)])
end
open PySem.MeetsSeq PySem.SeqAt
section
variable {X:Cx}
end
def Ww:bootBuiltins "set" = !.type "set":=by decide +kernel
def IW(val:Nat->Int):∀ i,(∀ j k,j < k->k < i->val j≠val k)->(firstMet val i).length=i
 | 0,_=>rfl
 | i+1,h=>by
  have ih:=IW val i fun j k a b=>h j k a (_H b);rw[firstMet_succ];unfold step_dedup;rw[wT,mo,ih];rfl;rw[firstMet_any];intro z;let⟨x,hx,e⟩:=_q.mp z;let⟨j,hj,rfl⟩:=Do.mp hx;show h j i (_Y.mp hj) (GT _) (eq_of_beq e)
section
variable {X:Cx}
def  Dm(K:ν):List V->Hp->VK->Prop:=fun xs H Q=>∃ p,∃ ns:List Int,xs=[-p]/\aB K H p (ns.map V.int)/\ns.Nodup/\ns.length<=1000/\∀ l S,H l=none->Q (-l) (upd H l (.set S ns.length))
def KY:∀ {ns:List Int}{us:List Value},Vals (ns.map V.int) us->IntsAre us ns
 | [],_,.nil=>.nil
 | n::ns,_,.cons r t=>by
  let⟨k,rfl⟩:=r;show .cons n k (KY t)
def aa1(hc:X.calm=true):cJ X (.type "set") (Dm X.K):=by
 intro π s σ H xs us Q I r h;let⟨p,ns,rfl,hl,nd,hn,q⟩:=h;let⟨u,rfl,rx⟩:=vals1 r;cases rx;let⟨ai,r',pl,hz⟩:=I.list hl;have hlen:ns.length=ai.length:=by have:=r'.length;rwa [pi]at this
 show PySem.call_set_list (I.ok.hd hc) pl.isList (items:=ai.toArray) (ns:=ns) (by simpa using KY r') (by rw[sB,<- hlen];unfold scanBound;omega) fun h' tk hS hk=>?_;have hf:(firstMet (fun i=>ns.getD i 0) ai.toArray.size).length=ns.length:=by
  rw[sB,<- hlen];show IW _ _ fun j k hj hk=>?_;have hj':j < ns.length:=∅
  simp only[XV,sw hj',sw hk,Option.getD_some];show fun e=>absurd ((List.getElem_inj nd).mp e) (zn hj)
 rw[hf]at hS;show#[-s.heap.objs.size,_,I.laid (t':=tk) (fun b o e=>hk b o (wf e) e) (lm _) (show cg X.prog X.w _ _ _ (.set _ ns.length) from hS),rfl,q _ _ (I.aA.fresh (lm _))]
def  GH:List V->Hp->VK->Prop:=fun xs H Q=>∃ p S n,xs=[-p]/\H p=!.set S n/\Q (.int n) H
def P5:cJ X (.builtin "len") GH:=by
 intro π s σ H xs us Q I r h;let⟨p,S,n,rfl,hp,q⟩:=h;let⟨u,rfl,rx⟩:=vals1 r;cases rx;let⟨o,es,ep,t,ho,hex,hd,_,_,hs,hf,hn⟩:=(show s.heap.SetOf (intKind X.prog X.w) p S n from I.aA p _ hp);subst hn;show call_len_set ho hex hd hf (by unfold scanBound at hs;omega) #[.int _,H,I.tok _,#[_,rfl],q]
end
def ZX{X:Cx}{K:ν}(hK:X.K=K)(hc:X.calm=true):cJ X (.type "set") (Dm K):=hK ▸ aa1 hc
end L2
set_option maxHeartbeats 0
namespace L2.bW
open PySem PySem.Spec PyProof.Rows
local macro_rules | `(tactic| walk_at "s")=>`(tactic| exact#[rfl,rfl,rfl,by decide +kernel,rfl,by decide +kernel,by decide +kernel])
abbrev e_(N:List Str)(s:Stmt):Prop:=aF N N (aD s)
abbrev _root_.L2.FT.k{K:ν}{mg:Str->Option Value}{a b:Str}{st:Stmt}{ps:List Str}(t:FT K mg a b st ps)(P:Program)(w:World)(base:Heap)(n:Nat)(q:Sp):Prop:=aC P w K mg base aM n t.f t.d ps q
abbrev _root_.L2.MT.k{K:ν}{C:Addr}{a b:Str}{st:Stmt}{ps:List Str}(t:MT K C a b st ps)(P:Program)(w:World)(mg:Str->Option Value)(base:Heap)(n:Nat)(q:Sp):Prop:=aC P w K mg base aM n t.f t.d ps q
def  top(i:Nat):Stmt:=PySem.Challenge.pw_leadnames_k34_rings_of_leads.main.body.getD i (.Pass #[0,0,0,0])
abbrev Ko:=top 2
abbrev LS:=top 3
abbrev Lq:=top 4
abbrev zH:=top 5
abbrev LF:=top 24
abbrev Gn:=top 25
abbrev Mr:=top 26
abbrev GW:=top 27
abbrev LZ:=top 28
abbrev KA:=top 29
abbrev Il:=top 30
abbrev Hm:=top 31
abbrev DZ:=top 32
abbrev Ea:=top 46
abbrev Ck:=top 47
abbrev Cs:=top 48
abbrev Ep:=top 49
abbrev vn:=top 50
abbrev va:=top 51
abbrev B8:=top 57
abbrev Cv:=top 58
abbrev Bo:=top 59
abbrev D8:=top 60
abbrev BG:=top 61
abbrev BZ:=top 62
abbrev z9:=top 63
abbrev Br:=top 64
abbrev DJ:=top 65
abbrev Aq:=top 66
abbrev qE:=top 67
abbrev An:=top 68
abbrev B4:=top 69
abbrev IE:=top 71
abbrev IJ:=top 72
abbrev Bc:=top 73
abbrev BW:=top 74
abbrev Af:=top 75
abbrev Ba:=top 76
abbrev zQ:=top 77
abbrev BB:=top 78
abbrev Bv:=top 79
abbrev BV:=top 80
abbrev zY:=top 81
abbrev C1:=top 82
abbrev Bf:=top 83
abbrev Ed:=top 84
abbrev Ej:=top 85
abbrev CZ:=top 86
abbrev AV:=top 87
abbrev Dt:=top 88
def Yo:e_ ["house","folder"] Ko:=#[]
def BY:aF ["house","folder","base"] ["house","folder"] (aD LS):=#[]
def KJ:aF ["house","folder","stack"] ["house","folder"] (aD Lq):=#[]
def nJ:aF ["house","asker","folder","root","here","stack","place"] ["house","asker","folder"] (aD zH):=#[]
def Qd:e_ ["number"] LF:=#[]
def Zu:e_ ["text"] Gn:=#[]
def aaT:e_ ["text"] Mr:=#[]
def Qk:e_ ["text"] GW:=#[]
def G0:aF ["path","parts"] ["path"] (aD LZ):=#[]
def Si:e_ ["text"] KA:=#[]
def Rt:e_ ["text"] Il:=#[]
def aaa:e_ ["text"] Hm:=#[]
def Sj:e_ ["path"] DZ:=#[]
def rB:aF ["house","asker","folder","root","names","stack","place"] ["house","asker","folder"] (aD Ea):=#[]
def Hj:aF ["leads","first"] ["leads"] (aD Ck):=#[]
def MB:aF ["house","asker","from_root","parts","last","ended"] ["house","asker","from_root","parts","last"] (aD Cs):=#[]
def Im:aF ["house","asker","path","last","read"] ["house","asker","path","last"] (aD Ep):=#[]
def WU:e_ ["house","asker","path","last"] vn:=#[]
def Uu:e_ ["house","asker","path","last"] va:=#[]
def LI:aF ["path","parts"] ["path"] (aD B8):=#[]
def DK:aF ["house","asker","path","asked","ended"] ["house","asker","path"] (aD Cv):=#[]
def Ub:e_ ["house","seat"] Bo:=#[]
def RO:e_ ["told"] D8:=#[]
def Y4:e_ ["house","asker","path"] BG:=#[]
def VY:e_ ["house","asker","number","right","reason"] BZ:=#[]
def Rm:e_ ["house","asker","folder"] z9:=#[]
def Ud:e_ ["house","seat"] Br:=#[]
def Gg:aF ["house","asker","path","seat"] ["house","asker","path"] (aD DJ):=#[]
def Rb:e_ ["house","seat","number"] Aq:=#[]
def HB:aF ["house","asker","path","mine","rest","seat"] ["house","asker","path","mine","rest"] (aD qE):=#[]
def J7:aF ["house","asker","path","lead","seat"] ["house","asker","path","lead"] (aD An):=#[]
def Hk:aF ["house","asker","path","mine","rest","number"] ["house","asker","path","mine","rest"] (aD B4):=#[]
def Zr:e_ ["_law_script","_law_k"] IE:=#[]
def yh:aF ["_law_state","_law_base","_law_found","_law_number"] ["_law_state","_law_base"] (aD IJ):=#[]
def LG:aF ["_law_house","_law_folder","_law_tree"] ["_law_house","_law_folder"] (aD Bc):=#[]
def wX:aF ["_law_house","_law_folder","_law_found","_law_turn","_law_tree"] ["_law_house","_law_folder"] (aD BW):=#[]
def uE:aF ["_law_house","_law_asker","_law_folder","_law_stack_here","_law_place"] ["_law_house","_law_asker","_law_folder"] (aD Af):=#[]
def uK:aF ["_law_house","_law_asker","_law_folder","_law_name","_law_names","_law_one"] ["_law_house","_law_asker","_law_folder","_law_name"] (aD Ba):=#[]
def Ir:aF ["_law_path","_law_parts_here"] ["_law_path"] (aD zQ):=#[]
def Q2:e_ ["_law_house","_law_asker","_law_path","_law_here"] BB:=#[]
def F6:aF ["_law_house","_law_asker","_law_here","_law_stack_here"] ["_law_house","_law_asker","_law_here"] (aD Bv):=#[]
def BU:aF ["_law_chain","_law_number","_law_ring_here","_law_at"] ["_law_chain","_law_number"] (aD BV):=#[]
def Yb:e_ ["_law_house","_law_asker","_law_here","_law_part"] zY:=#[]
def fh:aF ["_law_house","_law_asker","_law_path","_law_final","_law_asked","_law_here","_law_tokens","_law_name","_law_thing","_law_step","_law_many","_law_part","_law_chain","_law_number"] ["_law_house","_law_asker","_law_path","_law_final"] (aD C1):=#[]
def KW:aF ["_law_told","_law_due","_law_kinds"] ["_law_told","_law_due"] (aD Bf):=#[]
def xm:aF ["_law_house","_law_asker","_law_path","_law_final","_law_due","_law_asked","_law_way_here"] ["_law_house","_law_asker","_law_path","_law_final"] (aD Ed):=#[]
def zE:aF ["_law_state","_law_names","_law_head","_law_name"] ["_law_state","_law_names"] (aD Ej):=#[]
def tH:aF ["_law_house","_law_state","_law_names","_law_found","_law_name","_law_path"] ["_law_house","_law_state"] (aD CZ):=#[]
def nK:aF ["_law_house","_law_asker","_law_told","_law_places","_law_ring_here","_law_k","_law_other","_law_folder","_law_name","_law_kept"] ["_law_house","_law_asker","_law_told","_law_places"] (aD AV):=#[]
def lF:aF ["_law_script","_law_house","_law_leads_here","_law_places","_law_path","_law_number","_law_more","_law_told"] ["_law_script"] (aD Dt):=#[]
abbrev Mf:=inClass (top 14) 0
def T6:e_ ["self","told"] Mf:=#[]
abbrev GJ:=inClass (top 15) 0
def Zp:e_ ["self","reason"] GJ:=#[]
abbrev LB:=inClass (top 37) 0
def aaQ:e_ ["self","number","kind","owner","mine","rest","text"] LB:=#[]
abbrev HY:=inClass (top 37) 1
def Yq:e_ ["self","asker"] HY:=#[]
abbrev GS:=inClass (top 38) 0
def RB:e_ ["self"] GS:=#[]
abbrev LL:=inClass (top 38) 1
def Jc:aF ["self","kind","owner","mine","rest","text","number"] ["self","kind","owner","mine","rest","text"] (aD LL):=#[]
abbrev Io:=inClass (top 38) 2
def Wm:e_ ["self","owner","mine","rest"] Io:=#[]
abbrev HW:=inClass (top 38) 4
def Rh:e_ ["self","owner","path"] HW:=#[]
abbrev K9:=inClass (top 38) 6
def Zw:e_ ["self","number"] K9:=#[]
abbrev F4:=inClass (top 38) 7
def Yt:e_ ["self","folder","name"] F4:=#[]
abbrev JM:=inClass (top 38) 10
def XO:e_ ["self","number"] JM:=#[]
abbrev JP:=inClass (top 38) 11
def JK:aF ["self","number","mine","rest","thing"] ["self","number","mine","rest"] (aD JP):=#[]
abbrev LR:=inClass (top 38) 13
def yk:aF ["self","folder","name","number","thing","former","known"] ["self","folder","name","number"] (aD LR):=#[]
abbrev Gk:=inClass (top 38) 14
def Ht:aF ["self","folder","name","number"] ["self","folder","name"] (aD Gk):=#[]
abbrev Gv:=inClass (top 42) 0
def abm:e_ ["self","number","way"] Gv:=#[]
abbrev JH:=inClass (top 43) 0
def Qs:e_ ["self","step","reason"] JH:=#[]
abbrev CV:=inClass (top 44) 0
def OL:e_ ["self","leads"] CV:=#[]
abbrev Cp:=inClass (top 45) 0
def OX:e_ ["self","house","asker","last"] Cp:=#[]
abbrev Dw:=inClass (top 45) 1
def G8:aF ["self","from_root","parts","start"] ["self","from_root","parts"] (aD Dw):=#[]
abbrev Cw:=inClass (top 45) 2
def HJ:aF ["self","part"] ["self"] (aD Cw):=#[]
abbrev Bk:=inClass (top 45) 3
def Wi:e_ ["self","reason"] Bk:=#[]
abbrev Dy:=inClass (top 45) 4
def VJ:e_ ["self","part"] Dy:=#[]
abbrev Dk:=inClass (top 45) 5
def HF:aF ["self","stack"] ["self"] (aD Dk):=#[]
abbrev Eg:=inClass (top 45) 6
def zA:aF ["self","name","number","kind"] ["self","name"] (aD Eg):=#[]
abbrev CM:=inClass (top 45) 7
def UN:e_ ["self","number"] CM:=#[]
abbrev zT:=inClass (top 45) 8
def Hw:aF ["self","number","read"] ["self","number"] (aD zT):=#[]
abbrev AW:=inClass (top 45) 9
def sP:aF ["self","names","folder"] ["self"] (aD AW):=#[]
abbrev KQ:=inClass (top 54) 0
def VD:e_ ["self","owner"] KQ:=#[]
abbrev IQ:=inClass (top 54) 1
def abj:e_ ["self","name"] IQ:=#[]
abbrev GP:=inClass (top 54) 3
def Rg:e_ ["self"] GP:=#[]
abbrev Hy:=inClass (top 54) 4
def Pe:e_ ["self","asker"] Hy:=#[]
abbrev Mv:=inClass (top 54) 5
def aas:e_ ["self","asker"] Mv:=#[]
abbrev Mz:=inClass (top 54) 6
def RK:e_ ["self","number"] Mz:=#[]
abbrev Lf:=inClass (top 54) 7
def Yu:e_ ["self","number"] Lf:=#[]
abbrev LV:=inClass (top 54) 10
def abn:e_ ["self","number","name"] LV:=#[]
abbrev Mo:=inClass (top 54) 12
def Rz:e_ ["self","number"] Mo:=#[]
abbrev HK:=inClass (top 54) 13
def ZJ:e_ ["self","number"] HK:=#[]
abbrev Mc:=inClass (top 54) 15
def XX:e_ ["self","tree"] Mc:=#[]
abbrev JD:=inClass (top 54) 16
def WE:e_ ["self","tree"] JD:=#[]
abbrev Me:=inClass (top 54) 17
def VC:e_ ["self","asker","number","right"] Me:=#[]
abbrev Ho:=inClass (top 54) 23
def VS:e_ ["self","asker"] Ho:=#[]
abbrev GX:=inClass (top 54) 24
def PX:e_ ["self","tree"] GX:=#[]
abbrev G1:=inClass (top 54) 25
def O9:e_ ["self","number"] G1:=#[]
abbrev JA:=inClass (top 54) 26
def Ql:e_ ["self","name"] JA:=#[]
abbrev Kj:=inClass (top 54) 27
def YG:e_ ["self","asker","folder"] Kj:=#[]
abbrev GU:=inClass (top 54) 28
def Xd:e_ ["self","asker","folder"] GU:=#[]
abbrev KC:=inClass (top 54) 29
def Mq:aF ["self","tree","owner","root"] ["self","tree","owner"] (aD KC):=#[]
abbrev Iv:=inClass (top 56) 0
def Vb:e_ ["self","folder","name"] Iv:=#[]
set_option genInjectivity false in
set_option genSizeOf false in
structure Tx(K:ν)(mg:Str->Option Value) where
 gd:FT K mg "top_of" "top_of" Ko ["house","folder"]
 qi:FT K mg "base_of" "base_of" LS ["house","folder"]
 eA:FT K mg "stack_of" "stack_of" Lq ["house","folder"]
 rb:FT K mg "is_seen" "is_seen" zH ["house","asker","folder"]
 lD:FT K mg "is_whole" "is_whole" LF ["number"]
 iO:FT K mg "is_name" "is_name" Gn ["text"]
 qU:FT K mg "is_rights" "is_rights" Mr ["text"]
 pT:FT K mg "is_part" "is_part" GW ["text"]
 cY:FT K mg "parts_of" "parts_of" LZ ["path"]
 iQ:FT K mg "check_name" "check_name" KA ["text"]
 gj:FT K mg "check_rights" "check_rights" Il ["text"]
 pU:FT K mg "check_one_right" "check_one_right" Hm ["text"]
 rq:FT K mg "check_lead" "check_lead" DZ ["path"]
 rA:FT K mg "names_to" "names_to" Ea ["house","asker","folder"]
 pN:FT K mg "from_least" "from_least" Ck ["leads"]
 kW:FT K mg "walk_parts" "walk_parts" Cs ["house","asker","from_root","parts","last"]
 lO:FT K mg "walk_path" "walk_path" Ep ["house","asker","path","last"]
 {EZ:Addr}
 {yI:FuncData}
 iL:kL K "walk" "walk" vn EZ yI [.bool true]
 mw:mg "walk" = !-EZ
 z6:Binds K yI ["house","asker","path","last"] []
 mJ:Binds K yI ["house","asker","path","last"] [.bool true]
 {EH:Addr}
 {yX:FuncData}
 tS:kL K "asked_of" "asked_of" va EH yX [.bool true]
 GZ:mg "asked_of" = !-EH
 xP:Binds K yX ["house","asker","path","last"] []
 HD:Binds K yX ["house","asker","path","last"] [.bool true]
 pO:FT K mg "check_seat" "check_seat" B8 ["path"]
 qQ:FT K mg "seat_of" "seat_of" Cv ["house","asker","path"]
 rk:FT K mg "thing_at" "thing_at" Bo ["house","seat"]
 lN:FT K mg "number_found" "number_found" D8 ["told"]
 qj:FT K mg "find_any" "find_any" BG ["house","asker","path"]
 rC:FT K mg "check_may" "check_may" BZ ["house","asker","number","right","reason"]
 pQ:FT K mg "check_kept" "check_kept" z9 ["house","asker","folder"]
 qZ:FT K mg "check_free" "check_free" Br ["house","seat"]
 lh:FT K mg "free_seat_of" "free_seat_of" DJ ["house","asker","path"]
 lI:FT K mg "seat_thing" "seat_thing" Aq ["house","seat","number"]
 {FF:Addr}
 {vL:FuncData}
 {Ou:Tok}
 {Fw:Tok}
 vo:kL K "make_folder" "make_folder" qE FF vL [.str "lgw" Ou,.str "" Fw]
 Hg:mg "make_folder" = !-FF
 xA:Binds K vL ["house","asker","path","mine","rest"] []
 KO:Binds K vL ["house","asker","path","mine","rest"] [.str "" Fw]
 HX:Binds K vL ["house","asker","path","mine","rest"] [.str "lgw" Ou,.str "" Fw]
 pX:FT K mg "make_lead" "make_lead" An ["house","asker","path","lead"]
 qW:FT K mg "set_rights" "set_rights" B4 ["house","asker","path","mine","rest"]
 pZ:FT K mg "_law_cell_at" "_law_cell_at" IE ["_law_script","_law_k"]
 dM:FT K mg "_law_digit" "_law_digit" IJ ["_law_state","_law_base"]
 et:FT K mg "_law_top" "_law_top" Bc ["_law_house","_law_folder"]
 gi:FT K mg "_law_stack" "_law_stack" BW ["_law_house","_law_folder"]
 qJ:FT K mg "_law_seen" "_law_seen" Af ["_law_house","_law_asker","_law_folder"]
 qY:FT K mg "_law_way" "_law_way" Ba ["_law_house","_law_asker","_law_folder","_law_name"]
 kF:FT K mg "_law_parts" "_law_parts" zQ ["_law_path"]
 kP:FT K mg "_law_start" "_law_start" BB ["_law_house","_law_asker","_law_path","_law_here"]
 pS:FT K mg "_law_up" "_law_up" Bv ["_law_house","_law_asker","_law_here"]
 ql:FT K mg "_law_ring" "_law_ring" BV ["_law_chain","_law_number"]
 pP:FT K mg "_law_to" "_law_to" zY ["_law_house","_law_asker","_law_here","_law_part"]
 qk:FT K mg "_law_walked" "_law_walked" C1 ["_law_house","_law_asker","_law_path","_law_final"]
 lH:FT K mg "_law_alike" "_law_alike" Bf ["_law_told","_law_due"]
 kS:FT K mg "_law_question" "_law_question" Ed ["_law_house","_law_asker","_law_path","_law_final"]
 qm:FT K mg "_law_text" "_law_text" Ej ["_law_state","_law_names"]
 qB:FT K mg "_law_leads" "_law_leads" CZ ["_law_house","_law_state"]
 qy:FT K mg "_law_ring_right" "_law_ring_right" AV ["_law_house","_law_asker","_law_told","_law_places"]
 {wj:Addr}
 {yW:FuncData}
 xW:jX K "law" "law" Dt wj yW
 Zh:mg "law" = !-wj
 KD:Binds K yW ["_law_script"] []
 {EE:Addr}
 U3:mg "DOTS" = !-EE
 B1:∀ H:Hp,bE K H EE [.str ".",.str ".."]
 {t_FILE:Tok}
 Hu:mg "FILE" = !.str "file" t_FILE
 {t_FIRST_TREE:Tok}
 aaB:mg "FIRST_TREE" = !.str "main" t_FIRST_TREE
 {t_FOLDER:Tok}
 wR:mg "FOLDER" = !.str "folder" t_FOLDER
 {ef:Addr}
 GY:mg "Failed" = !-ef
 {dY:Addr}
 Dz:mg "Found" = !-dY
 {aJ:Addr}
 YV:mg "House" = !-aJ
 {t_LEAD:Tok}
 SJ:mg "LEAD" = !.str "lead" t_LEAD
 {t_LETTERS:Tok}
 VL:mg "LETTERS" = !.str "abcdefghijklmnopqrstuvwxyz" t_LETTERS
 {t_MOST_IN_LEAD:Tok}
 TH:mg "MOST_IN_LEAD" = !.int 120 t_MOST_IN_LEAD
 {t_MOST_IN_NAME:Tok}
 aaJ:mg "MOST_IN_NAME" = !.int 8 t_MOST_IN_NAME
 {t_MOST_IN_PATH:Tok}
 UX:mg "MOST_IN_PATH" = !.int 2000 t_MOST_IN_PATH
 {t_MOST_LEADS:Tok}
 U1:mg "MOST_LEADS" = !.int 40 t_MOST_LEADS
 {rP:Addr}
 YO:mg "NoAsker" = !-rP
 {rD:Addr}
 wN:mg "NoDeed" = !-rD
 {vV:Addr}
 ZZ:mg "NoRights" = !-vV
 {rJ:Addr}
 SX:mg "NoThing" = !-rJ
 {sj:Addr}
 RL:mg "NoWay" = !-sj
 {ER:Addr}
 Z0:mg "RIGHTS" = !-ER
 Bb:∀ H:Hp,bE K H ER [.str "",.str "l",.str "g",.str "w",.str "lg",.str "lw",.str "gw",.str "lgw"]
 {dF:Addr}
 xX:mg "Ring" = !-dF
 {EI:Addr}
 V0:mg "SINGLE_RIGHTS" = !-EI
 CJ:∀ H:Hp,bE K H EI [.str "l",.str "g",.str "w"]
 {l8:Addr}
 SU:mg "Seat" = !-l8
 {aV:Addr}
 WJ:mg "Thing" = !-aV
 {aP:Addr}
 aa7:mg "Things" = !-aP
 {v8:Addr}
 RQ:mg "Told" = !-v8
 {bD:Addr}
 Ve:mg "Walk" = !-bD
 J3:mg "all" = none
 g_bool:mg "bool" = none
 xw:mg "int" = none
 fN:mg "isinstance" = none
 gz:mg "len" = none
 mx:mg "list" = none
 xO:mg "min" = none
 Ra:mg "range" = none
 D5:mg "reversed" = none
 Z4:mg "set" = none
 Vr:mg "sorted" = none
 qc:mg "str" = none
 uh:MT K sj "__init__" "NoWay.__init__" Mf ["self","told"]
 mV:MT K rD "__init__" "NoDeed.__init__" GJ ["self","reason"]
 uj:MT K aV "__init__" "Thing.__init__" LB ["self","number","kind","owner","mine","rest","text"]
 uQ:MT K aV "rights_for" "Thing.rights_for" HY ["self","asker"]
 uo:MT K aP "__init__" "Things.__init__" GS ["self"]
 oR:MT K aP "add_thing" "Things.add_thing" LL ["self","kind","owner","mine","rest","text"]
 nU:MT K aP "add_folder" "Things.add_folder" Io ["self","owner","mine","rest"]
 ud:MT K aP "add_lead" "Things.add_lead" HW ["self","owner","path"]
 dU:MT K aP "at" "Things.at" K9 ["self","number"]
 nY:MT K aP "child" "Things.child" F4 ["self","folder","name"]
 sC:MT K aP "place_of" "Things.place_of" JM ["self","number"]
 u6:MT K aP "put_rights" "Things.put_rights" JP ["self","number","mine","rest"]
 ue:MT K aP "put_name" "Things.put_name" LR ["self","folder","name","number"]
 uz:MT K aP "drop_name" "Things.drop_name" Gk ["self","folder","name"]
 ui:MT K dY "__init__" "Found.__init__" Gv ["self","number","way"]
 tL:MT K ef "__init__" "Failed.__init__" JH ["self","step","reason"]
 uy:MT K dF "__init__" "Ring.__init__" CV ["self","leads"]
 ua:MT K bD "__init__" "Walk.__init__" Cp ["self","house","asker","last"]
 uL:MT K bD "begin" "Walk.begin" Dw ["self","from_root","parts"]
 tw:MT K bD "go_on" "Walk.go_on" Cw ["self"]
 ib:MT K bD "fail" "Walk.fail" Bk ["self","reason"]
 sW:MT K bD "take_step" "Walk.take_step" Dy ["self","part"]
 sv:MT K bD "go_up" "Walk.go_up" Dk ["self"]
 uI:MT K bD "go_by" "Walk.go_by" Eg ["self","name"]
 tT:MT K bD "meet_lead" "Walk.meet_lead" CM ["self","number"]
 ve:MT K bD "read_lead" "Walk.read_lead" zT ["self","number"]
 tR:MT K bD "true_path" "Walk.true_path" AW ["self"]
 sL:MT K aJ "__init__" "House.__init__" KQ ["self","owner"]
 vc:MT K aJ "enroll" "House.enroll" IQ ["self","name"]
 lA:MT K aJ "trees" "House.trees" GP ["self"]
 fF:MT K aJ "root_of" "House.root_of" Hy ["self","asker"]
 oF:MT K aJ "standing_of" "House.standing_of" Mv ["self","asker"]
 il:MT K aJ "kind_of" "House.kind_of" Mz ["self","number"]
 vm:MT K aJ "owner_of" "House.owner_of" Lf ["self","number"]
 kN:MT K aJ "child" "House.child" LV ["self","number","name"]
 ji:MT K aJ "text_of" "House.text_of" Mo ["self","number"]
 fB:MT K aJ "place_of" "House.place_of" HK ["self","number"]
 oA:MT K aJ "tree_root" "House.tree_root" Mc ["self","tree"]
 oS:MT K aJ "covered_by" "House.covered_by" JD ["self","tree"]
 lQ:MT K aJ "may" "House.may" Me ["self","asker","number","right"]
 fA:MT K aJ "check_asker" "House.check_asker" Ho ["self","asker"]
 uG:MT K aJ "check_tree" "House.check_tree" GX ["self","tree"]
 sT:MT K aJ "check_thing" "House.check_thing" G1 ["self","number"]
 ox:MT K aJ "add_asker" "House.add_asker" JA ["self","name"]
 tP:MT K aJ "put_root" "House.put_root" Kj ["self","asker","folder"]
 tV:MT K aJ "put_standing" "House.put_standing" GU ["self","asker","folder"]
 uS:MT K aJ "add_tree" "House.add_tree" KC ["self","tree","owner"]
 uV:MT K l8 "__init__" "Seat.__init__" Iv ["self","folder","name"]
 jS:cZ K ef
 RX:Mk K ef tL.f
 jl:cZ K dY
 OU:Mk K dY ui.f
 aK:cZ K aJ
 UA:Mk K aJ sL.f
 g8:cZ K dF
 S8:Mk K dF uy.f
 nO:cZ K l8
 WS:Mk K l8 uV.f
 dX:cZ K aV
 Q9:Mk K aV uj.f
 cO:cZ K aP
 aab:Mk K aP uo.f
 aL:cZ K bD
 abi:Mk K bD ua.f
 Ja:bN K ef "reason"
 JE:bN K ef "step"
 Cf:bN K dY "number"
 F9:bN K dY "way"
 wq:bN K aJ "changes"
 AB:bN K aJ "first_root"
 xT:bN K aJ "folder_under"
 Ug:bN K aJ "holds"
 VP:bN K aJ "holds_given"
 AE:bN K aJ "root_over"
 vj:bN K aJ "roots"
 Eh:bN K aJ "standings"
 ie:bN K aJ "things"
 u4:bN K aJ "tree_roots"
 rf:bN K dF "leads"
 xQ:bN K l8 "folder"
 zX:bN K l8 "name"
 D7:bN K aV "kind"
 D1:bN K aV "mine"
 zK:bN K aV "names"
 Rq:bN K aV "number"
 Ar:bN K aV "owner"
 w8:bN K aV "places"
 Bq:bN K aV "rest"
 LW:bN K aV "text"
 wW:bN K aP "changes"
 ur:bN K aP "made"
 AY:bN K bD "asked"
 sx:bN K bD "asker"
 fL:bN K bD "here"
 fV:bN K bD "house"
 G2:bN K bD "last"
 Cr:bN K bD "leads_read"
 oE:bN K bD "left"
 Kg:bN K bD "looked_up"
 yz:bN K bD "place"
 qO:bN K bD "reading"
 sU:bN K bD "root"
 CK:bN K bD "step"
 mL:bN K bD "told"
 u9:jV K rD mV.f "reason"
 xh:W.typeIn K (-rD)=!.type "type"
 Hf:jV K sj uh.f "told"
 Qe:W.typeIn K (-sj)=!.type "type"
 WA:W.excIn K rP [.type "ValueError",.type "Exception",.type "BaseException",.type "object"] "ValueError.__new__" = true
 O1:W.excIn K vV [.type "ValueError",.type "Exception",.type "BaseException",.type "object"] "ValueError.__new__" = true
 V7:W.excIn K rJ [.type "ValueError",.type "Exception",.type "BaseException",.type "object"] "ValueError.__new__" = true
 q1:W.findIn K (-dY) "__class__" = !(!.builtin "object.__class__")
 q2:W.specialIn K (.builtin "object.__class__") "__get__" = !(!.builtin "getset_descriptor.__get__")
 q3:W.takesIn K (.builtin "object.__class__")=!true
 q4:W.mroIn K dY (.type "object")=!true
 q5:W.kitOne K (-dY) (-dY)=!true
 q6:W.findIn K (-ef) "__class__" = !(!.builtin "object.__class__")
 q7:W.mroIn K ef (.type "object")=!true
 q8:W.kitOne K (-ef) (-dY)=!false
 q9:W.kitOne K (-dY) (-ef)=!false
 kJ:W.kitOne K (-dY) (-dF)=!false
 Wh:W.kitOne K (-dY) (-v8)=!true
 SW:W.kitOne K (-ef) (-ef)=!true
 Gu:W.kitOne K (-ef) (-dF)=!false
 Vs:W.kitOne K (-ef) (-v8)=!true
 oh:W.findIn K (-dF) "__class__" = !(!.builtin "object.__class__")
 n9:W.mroIn K dF (.type "object")=!true
 KZ:W.kitOne K (-dF) (-dY)=!false
 Pr:W.kitOne K (-dF) (-ef)=!false
 Ap:W.kitOne K (-dF) (-dF)=!true
 Yn:W.kitOne K (-dF) (-v8)=!true
def  qV:List Nat:=List.range' 97 26
def  isNm(l:List Nat):Bool:=decide (1<=l.length) && decide (l.length<=8) && l.all (qV.contains ·)
def  fS:V->Bool
 | .str z=>isNm z.cps.toList
 | _=>false
def  Ig:V->Prop
 | .str z=>z.length<=1000
 | _=>True
def stI{t:TS}{D:Ends}{H:Hp}{σ:L2.St}(τ:L2.St)(h:t D τ H)(e:σ=τ:=by rfl):t D σ H:=e ▸ h
def stJ{t:TS}{D:Ends}{H:Hp}{N:List Str}{vs:List V}(n:Nat)(h:t D (vs.map some++List.replicate n none) H)(e:N.length-vs.length=n:=by rfl):t D (start N vs) H:=by subst e;show h
inductive X1{α0:Type}(R:α0->Prop):Prop | mk:∀ x0,R x0->X1 R
inductive X2{α0 α1:Type}(R:α0->α1->Prop):Prop | mk:∀ x0 x1,R x0 x1->X2 R
inductive X3{α0 α1 α2:Type}(R:α0->α1->α2->Prop):Prop | mk:∀ x0 x1 x2,R x0 x1 x2->X3 R
inductive X4{α0 α1 α2 α3:Type}(R:α0->α1->α2->α3->Prop):Prop | mk:∀ x0 x1 x2 x3,R x0 x1 x2 x3->X4 R
inductive X5{α0 α1 α2 α3 α4:Type}(R:α0->α1->α2->α3->α4->Prop):Prop | mk:∀ x0 x1 x2 x3 x4,R x0 x1 x2 x3 x4->X5 R
inductive X6{α0 α1 α2 α3 α4 α5:Type}(R:α0->α1->α2->α3->α4->α5->Prop):Prop | mk:∀ x0 x1 x2 x3 x4 x5,R x0 x1 x2 x3 x4 x5->X6 R
inductive X7{α0 α1 α2 α3 α4 α5 α6:Type}(R:α0->α1->α2->α3->α4->α5->α6->Prop):Prop | mk:∀ x0 x1 x2 x3 x4 x5 x6,R x0 x1 x2 x3 x4 x5 x6->X7 R
inductive X8{α0 α1 α2 α3 α4 α5 α6 α7:Type}(R:α0->α1->α2->α3->α4->α5->α6->α7->Prop):Prop | mk:∀ x0 x1 x2 x3 x4 x5 x6 x7,R x0 x1 x2 x3 x4 x5 x6 x7->X8 R
inductive X9{α0 α1 α2 α3 α4 α5 α6 α7 α8:Type}(R:α0->α1->α2->α3->α4->α5->α6->α7->α8->Prop):Prop | mk:∀ x0 x1 x2 x3 x4 x5 x6 x7 x8,R x0 x1 x2 x3 x4 x5 x6 x7 x8->X9 R
inductive Ln{α0 α1 α2 α3 α4 α5 α6 α7 α8 α9:Type}(R:α0->α1->α2->α3->α4->α5->α6->α7->α8->α9->Prop):Prop | mk:∀ x0 x1 x2 x3 x4 x5 x6 x7 x8 x9,R x0 x1 x2 x3 x4 x5 x6 x7 x8 x9->Ln R
inductive IV{α0 α1 α2 α3 α4 α5 α6 α7 α8 α9 α10:Type}(R:α0->α1->α2->α3->α4->α5->α6->α7->α8->α9->α10->Prop):Prop | mk:∀ x0 x1 x2 x3 x4 x5 x6 x7 x8 x9 x10,R x0 x1 x2 x3 x4 x5 x6 x7 x8 x9 x10->IV R
inductive A2(p0 p1:Prop):Prop | mk:p0->p1->A2 p0 p1
inductive A3(p0 p1 p2:Prop):Prop | mk:p0->p1->p2->A3 p0 p1 p2
inductive A4(p0 p1 p2 p3:Prop):Prop | mk:p0->p1->p2->p3->A4 p0 p1 p2 p3
inductive A5(p0 p1 p2 p3 p4:Prop):Prop | mk:p0->p1->p2->p3->p4->A5 p0 p1 p2 p3 p4
inductive A6(p0 p1 p2 p3 p4 p5:Prop):Prop | mk:p0->p1->p2->p3->p4->p5->A6 p0 p1 p2 p3 p4 p5
inductive A7(p0 p1 p2 p3 p4 p5 p6:Prop):Prop | mk:p0->p1->p2->p3->p4->p5->p6->A7 p0 p1 p2 p3 p4 p5 p6
inductive A8(p0 p1 p2 p3 p4 p5 p6 p7:Prop):Prop | mk:p0->p1->p2->p3->p4->p5->p6->p7->A8 p0 p1 p2 p3 p4 p5 p6 p7
inductive A9(p0 p1 p2 p3 p4 p5 p6 p7 p8:Prop):Prop | mk:p0->p1->p2->p3->p4->p5->p6->p7->p8->A9 p0 p1 p2 p3 p4 p5 p6 p7 p8
inductive xY(p0 p1 p2 p3 p4 p5 p6 p7 p8 p9:Prop):Prop | mk:p0->p1->p2->p3->p4->p5->p6->p7->p8->p9->xY p0 p1 p2 p3 p4 p5 p6 p7 p8 p9
inductive IY(p0 p1 p2 p3 p4 p5 p6 p7 p8 p9 iX gX:Prop):Prop | mk:p0->p1->p2->p3->p4->p5->p6->p7->p8->p9->iX->gX->IY p0 p1 p2 p3 p4 p5 p6 p7 p8 p9 iX gX
inductive Cu(p0 p1 p2 p3 p4 p5 p6 p7 p8 p9 iX gX pb:Prop):Prop | mk:p0->p1->p2->p3->p4->p5->p6->p7->p8->p9->iX->gX->pb->Cu p0 p1 p2 p3 p4 p5 p6 p7 p8 p9 iX gX pb
inductive LY(p0 p1 p2 p3 p4 p5 p6 p7 p8 p9 iX gX pb p13:Prop):Prop | mk:p0->p1->p2->p3->p4->p5->p6->p7->p8->p9->iX->gX->pb->p13->LY p0 p1 p2 p3 p4 p5 p6 p7 p8 p9 iX gX pb p13
def  a1(f:V->Hp->VK->XK->Prop):Sp:=fun vs H Q E=>match vs with
 | [x1]=>f x1 H Q E
 | _=>False
def a1.o{f:V->Hp->VK->XK->Prop}{vs:List V}{H:Hp}{Q:VK}{E:XK}(h:a1 f vs H Q E):∃ x1,vs=[x1]/\f x1 H Q E:=by
 unfold a1 at h;split at h
 ·show#[_,rfl,h]
 ·show h.elim
def  a2(f:V->V->Hp->VK->XK->Prop):Sp:=fun vs H Q E=>match vs with
 | [x1,x2]=>f x1 x2 H Q E
 | _=>False
def a2.o{f:V->V->Hp->VK->XK->Prop}{vs:List V}{H:Hp}{Q:VK}{E:XK}(h:a2 f vs H Q E):∃ x1 x2,vs=[x1,x2]/\f x1 x2 H Q E:=by
 unfold a2 at h;split at h
 ·show#[_,_,rfl,h]
 ·show h.elim
def  a3(f:V->V->V->Hp->VK->XK->Prop):Sp:=fun vs H Q E=>match vs with
 | [x1,x2,x3]=>f x1 x2 x3 H Q E
 | _=>False
def a3.o{f:V->V->V->Hp->VK->XK->Prop}{vs:List V}{H:Hp}{Q:VK}{E:XK}(h:a3 f vs H Q E):∃ x1 x2 x3,vs=[x1,x2,x3]/\f x1 x2 x3 H Q E:=by
 unfold a3 at h;split at h
 ·show#[_,_,_,rfl,h]
 ·show h.elim
def  a4(f:V->V->V->V->Hp->VK->XK->Prop):Sp:=fun vs H Q E=>match vs with
 | [x1,x2,x3,x4]=>f x1 x2 x3 x4 H Q E
 | _=>False
def a4.o{f:V->V->V->V->Hp->VK->XK->Prop}{vs:List V}{H:Hp}{Q:VK}{E:XK}(h:a4 f vs H Q E):∃ x1 x2 x3 x4,vs=[x1,x2,x3,x4]/\f x1 x2 x3 x4 H Q E:=by
 unfold a4 at h;split at h
 ·show#[_,_,_,_,rfl,h]
 ·show h.elim
def  a5(f:V->V->V->V->V->Hp->VK->XK->Prop):Sp:=fun vs H Q E=>match vs with
 | [x1,x2,x3,x4,x5]=>f x1 x2 x3 x4 x5 H Q E
 | _=>False
def a5.o{f:V->V->V->V->V->Hp->VK->XK->Prop}{vs:List V}{H:Hp}{Q:VK}{E:XK}(h:a5 f vs H Q E):∃ x1 x2 x3 x4 x5,vs=[x1,x2,x3,x4,x5]/\f x1 x2 x3 x4 x5 H Q E:=by
 unfold a5 at h;split at h
 ·show#[_,_,_,_,_,rfl,h]
 ·show h.elim
def  a6(f:V->V->V->V->V->V->Hp->VK->XK->Prop):Sp:=fun vs H Q E=>match vs with
 | [x1,x2,x3,x4,x5,x6]=>f x1 x2 x3 x4 x5 x6 H Q E
 | _=>False
def a6.o{f:V->V->V->V->V->V->Hp->VK->XK->Prop}{vs:List V}{H:Hp}{Q:VK}{E:XK}(h:a6 f vs H Q E):∃ x1 x2 x3 x4 x5 x6,vs=[x1,x2,x3,x4,x5,x6]/\f x1 x2 x3 x4 x5 x6 H Q E:=by
 unfold a6 at h;split at h
 ·show#[_,_,_,_,_,_,rfl,h]
 ·show h.elim
def  a7(f:V->V->V->V->V->V->V->Hp->VK->XK->Prop):Sp:=fun vs H Q E=>match vs with
 | [x1,x2,x3,x4,x5,x6,x7]=>f x1 x2 x3 x4 x5 x6 x7 H Q E
 | _=>False
def a7.o{f:V->V->V->V->V->V->V->Hp->VK->XK->Prop}{vs:List V}{H:Hp}{Q:VK}{E:XK}(h:a7 f vs H Q E):∃ x1 x2 x3 x4 x5 x6 x7,vs=[x1,x2,x3,x4,x5,x6,x7]/\f x1 x2 x3 x4 x5 x6 x7 H Q E:=by
 unfold a7 at h;split at h
 ·show#[_,_,_,_,_,_,_,rfl,h]
 ·show h.elim
def  vR(v:V)(k:Addr->Prop):Prop:=match v with
 | .ref x=>k x
 | _=>False
def vR.o{v:V}{k:Addr->Prop}(h:vR v k):∃ x,v=-x/\k x:=by
 unfold vR at h;split at h
 ·show#[_,rfl,h]
 ·show h.elim
def  vS(v:V)(k:Str->Prop):Prop:=match v with
 | .str x=>k x
 | _=>False
def vS.o{v:V}{k:Str->Prop}(h:vS v k):∃ x,v=.str x/\k x:=by
 unfold vS at h;split at h
 ·show#[_,rfl,h]
 ·show h.elim
def  vI(v:V)(k:Int->Prop):Prop:=match v with
 | .int x=>k x
 | _=>False
def vI.o{v:V}{k:Int->Prop}(h:vI v k):∃ x,v=.int x/\k x:=by
 unfold vI at h;split at h
 ·show#[_,rfl,h]
 ·show h.elim
def  vB(v:V)(k:Bool->Prop):Prop:=match v with
 | .bl x=>k x
 | _=>False
def vB.o{v:V}{k:Bool->Prop}(h:vB v k):∃ x,v=.bl x/\k x:=by
 unfold vB at h;split at h
 ·show#[_,rfl,h]
 ·show h.elim
def  lM(f:Addr->Hp->VK->XK->Prop):Sp:=a1 fun q1 H Q E=>vR q1 fun x1=>f x1 H Q E
@[elab_as_elim] theorem fO {f:Addr->Hp->VK->XK->Prop}{vs:List V}{H:Hp}{Q:VK}{E:XK}{G:List V->Prop} (h:lM f vs H Q E) (k:∀ x1,f x1 H Q E->G [-x1]):G vs:=by
 let⟨_,rfl,h⟩:=a1.o h;let⟨x1,rfl,h⟩:=vR.o h;show k x1 h
def  Iq(f:Addr->Bool->Addr->Hp->VK->XK->Prop):Sp:=a3 fun q1 q2 q3 H Q E=>vR q1 fun x1=>vB q2 fun x2=>vR q3 fun x3=>f x1 x2 x3 H Q E
@[elab_as_elim] theorem Lk {f:Addr->Bool->Addr->Hp->VK->XK->Prop}{vs:List V}{H:Hp}{Q:VK}{E:XK}{G:List V->Prop} (h:Iq f vs H Q E) (k:∀ x1 x2 x3,f x1 x2 x3 H Q E->G [-x1,.bl x2,-x3]):G vs:=by
 let⟨_,_,_,rfl,h⟩:=a3.o h;let⟨x1,rfl,h⟩:=vR.o h;let⟨x2,rfl,h⟩:=vB.o h;let⟨x3,rfl,h⟩:=vR.o h;show k x1 x2 x3 h
def  jo(f:Addr->Int->Hp->VK->XK->Prop):Sp:=a2 fun q1 q2 H Q E=>vR q1 fun x1=>vI q2 fun x2=>f x1 x2 H Q E
@[elab_as_elim] theorem cN {f:Addr->Int->Hp->VK->XK->Prop}{vs:List V}{H:Hp}{Q:VK}{E:XK}{G:List V->Prop} (h:jo f vs H Q E) (k:∀ x1 x2,f x1 x2 H Q E->G [-x1,.int x2]):G vs:=by
 let⟨_,_,rfl,h⟩:=a2.o h;let⟨x1,rfl,h⟩:=vR.o h;let⟨x2,rfl,h⟩:=vI.o h;show k x1 x2 h
def  yr(f:Addr->Int->Str->Hp->VK->XK->Prop):Sp:=a3 fun q1 q2 q3 H Q E=>vR q1 fun x1=>vI q2 fun x2=>vS q3 fun x3=>f x1 x2 x3 H Q E
@[elab_as_elim] theorem qM {f:Addr->Int->Str->Hp->VK->XK->Prop}{vs:List V}{H:Hp}{Q:VK}{E:XK}{G:List V->Prop} (h:yr f vs H Q E) (k:∀ x1 x2 x3,f x1 x2 x3 H Q E->G [-x1,.int x2,.str x3]):G vs:=by
 let⟨_,_,_,rfl,h⟩:=a3.o h;let⟨x1,rfl,h⟩:=vR.o h;let⟨x2,rfl,h⟩:=vI.o h;let⟨x3,rfl,h⟩:=vS.o h;show k x1 x2 x3 h
def  Jf(f:Addr->Int->Str->Int->Hp->VK->XK->Prop):Sp:=a4 fun q1 q2 q3 q4 H Q E=>vR q1 fun x1=>vI q2 fun x2=>vS q3 fun x3=>vI q4 fun x4=>f x1 x2 x3 x4 H Q E
@[elab_as_elim] theorem Ke {f:Addr->Int->Str->Int->Hp->VK->XK->Prop}{vs:List V}{H:Hp}{Q:VK}{E:XK}{G:List V->Prop} (h:Jf f vs H Q E) (k:∀ x1 x2 x3 x4,f x1 x2 x3 x4 H Q E->G [-x1,.int x2,.str x3,.int x4]):G vs:=by
 let⟨_,_,_,_,rfl,h⟩:=a4.o h;let⟨x1,rfl,h⟩:=vR.o h;let⟨x2,rfl,h⟩:=vI.o h;let⟨x3,rfl,h⟩:=vS.o h;let⟨x4,rfl,h⟩:=vI.o h;show k x1 x2 x3 x4 h
def  HQ(f:Addr->Int->Str->Str->Hp->VK->XK->Prop):Sp:=a4 fun q1 q2 q3 q4 H Q E=>vR q1 fun x1=>vI q2 fun x2=>vS q3 fun x3=>vS q4 fun x4=>f x1 x2 x3 x4 H Q E
@[elab_as_elim] theorem KR {f:Addr->Int->Str->Str->Hp->VK->XK->Prop}{vs:List V}{H:Hp}{Q:VK}{E:XK}{G:List V->Prop} (h:HQ f vs H Q E) (k:∀ x1 x2 x3 x4,f x1 x2 x3 x4 H Q E->G [-x1,.int x2,.str x3,.str x4]):G vs:=by
 let⟨_,_,_,_,rfl,h⟩:=a4.o h;let⟨x1,rfl,h⟩:=vR.o h;let⟨x2,rfl,h⟩:=vI.o h;let⟨x3,rfl,h⟩:=vS.o h;let⟨x4,rfl,h⟩:=vS.o h;show k x1 x2 x3 x4 h
def  oG(f:Addr->Addr->Hp->VK->XK->Prop):Sp:=a2 fun q1 q2 H Q E=>vR q1 fun x1=>vR q2 fun x2=>f x1 x2 H Q E
@[elab_as_elim] theorem iP {f:Addr->Addr->Hp->VK->XK->Prop}{vs:List V}{H:Hp}{Q:VK}{E:XK}{G:List V->Prop} (h:oG f vs H Q E) (k:∀ x1 x2,f x1 x2 H Q E->G [-x1,-x2]):G vs:=by
 let⟨_,_,rfl,h⟩:=a2.o h;let⟨x1,rfl,h⟩:=vR.o h;let⟨x2,rfl,h⟩:=vR.o h;show k x1 x2 h
def  Jx(f:Addr->Addr->Int->Hp->VK->XK->Prop):Sp:=a3 fun q1 q2 q3 H Q E=>vR q1 fun x1=>vR q2 fun x2=>vI q3 fun x3=>f x1 x2 x3 H Q E
@[elab_as_elim] theorem GC {f:Addr->Addr->Int->Hp->VK->XK->Prop}{vs:List V}{H:Hp}{Q:VK}{E:XK}{G:List V->Prop} (h:Jx f vs H Q E) (k:∀ x1 x2 x3,f x1 x2 x3 H Q E->G [-x1,-x2,.int x3]):G vs:=by
 let⟨_,_,_,rfl,h⟩:=a3.o h;let⟨x1,rfl,h⟩:=vR.o h;let⟨x2,rfl,h⟩:=vR.o h;let⟨x3,rfl,h⟩:=vI.o h;show k x1 x2 x3 h
def  LX(f:Addr->Addr->Str->Bool->Hp->VK->XK->Prop):Sp:=a4 fun q1 q2 q3 q4 H Q E=>vR q1 fun x1=>vR q2 fun x2=>vS q3 fun x3=>vB q4 fun x4=>f x1 x2 x3 x4 H Q E
@[elab_as_elim] theorem Kq {f:Addr->Addr->Str->Bool->Hp->VK->XK->Prop}{vs:List V}{H:Hp}{Q:VK}{E:XK}{G:List V->Prop} (h:LX f vs H Q E) (k:∀ x1 x2 x3 x4,f x1 x2 x3 x4 H Q E->G [-x1,-x2,.str x3,.bl x4]):G vs:=by
 let⟨_,_,_,_,rfl,h⟩:=a4.o h;let⟨x1,rfl,h⟩:=vR.o h;let⟨x2,rfl,h⟩:=vR.o h;let⟨x3,rfl,h⟩:=vS.o h;let⟨x4,rfl,h⟩:=vB.o h;show k x1 x2 x3 x4 h
def  g9(f:Addr->Str->Hp->VK->XK->Prop):Sp:=a2 fun q1 q2 H Q E=>vR q1 fun x1=>vS q2 fun x2=>f x1 x2 H Q E
@[elab_as_elim] theorem dH {f:Addr->Str->Hp->VK->XK->Prop}{vs:List V}{H:Hp}{Q:VK}{E:XK}{G:List V->Prop} (h:g9 f vs H Q E) (k:∀ x1 x2,f x1 x2 H Q E->G [-x1,.str x2]):G vs:=by
 let⟨_,_,rfl,h⟩:=a2.o h;let⟨x1,rfl,h⟩:=vR.o h;let⟨x2,rfl,h⟩:=vS.o h;show k x1 x2 h
def  Ic(f:Addr->Str->Bool->Addr->Bool->Hp->VK->XK->Prop):Sp:=a5 fun q1 q2 q3 q4 q5 H Q E=>vR q1 fun x1=>vS q2 fun x2=>vB q3 fun x3=>vR q4 fun x4=>vB q5 fun x5=>f x1 x2 x3 x4 x5 H Q E
@[elab_as_elim] theorem JL {f:Addr->Str->Bool->Addr->Bool->Hp->VK->XK->Prop}{vs:List V}{H:Hp}{Q:VK}{E:XK}{G:List V->Prop} (h:Ic f vs H Q E) (k:∀ x1 x2 x3 x4 x5,f x1 x2 x3 x4 x5 H Q E->G [-x1,.str x2,.bl x3,-x4,.bl x5]):G vs:=by
 let⟨_,_,_,_,_,rfl,h⟩:=a5.o h;let⟨x1,rfl,h⟩:=vR.o h;let⟨x2,rfl,h⟩:=vS.o h;let⟨x3,rfl,h⟩:=vB.o h;let⟨x4,rfl,h⟩:=vR.o h;let⟨x5,rfl,h⟩:=vB.o h;show k x1 x2 x3 x4 x5 h
def  nG(f:Addr->Str->Int->Hp->VK->XK->Prop):Sp:=a3 fun q1 q2 q3 H Q E=>vR q1 fun x1=>vS q2 fun x2=>vI q3 fun x3=>f x1 x2 x3 H Q E
@[elab_as_elim] theorem gG {f:Addr->Str->Int->Hp->VK->XK->Prop}{vs:List V}{H:Hp}{Q:VK}{E:XK}{G:List V->Prop} (h:nG f vs H Q E) (k:∀ x1 x2 x3,f x1 x2 x3 H Q E->G [-x1,.str x2,.int x3]):G vs:=by
 let⟨_,_,_,rfl,h⟩:=a3.o h;let⟨x1,rfl,h⟩:=vR.o h;let⟨x2,rfl,h⟩:=vS.o h;let⟨x3,rfl,h⟩:=vI.o h;show k x1 x2 x3 h
def  J0(f:Addr->Str->Int->Str->Hp->VK->XK->Prop):Sp:=a4 fun q1 q2 q3 q4 H Q E=>vR q1 fun x1=>vS q2 fun x2=>vI q3 fun x3=>vS q4 fun x4=>f x1 x2 x3 x4 H Q E
@[elab_as_elim] theorem Kx {f:Addr->Str->Int->Str->Hp->VK->XK->Prop}{vs:List V}{H:Hp}{Q:VK}{E:XK}{G:List V->Prop} (h:J0 f vs H Q E) (k:∀ x1 x2 x3 x4,f x1 x2 x3 x4 H Q E->G [-x1,.str x2,.int x3,.str x4]):G vs:=by
 let⟨_,_,_,_,rfl,h⟩:=a4.o h;let⟨x1,rfl,h⟩:=vR.o h;let⟨x2,rfl,h⟩:=vS.o h;let⟨x3,rfl,h⟩:=vI.o h;let⟨x4,rfl,h⟩:=vS.o h;show k x1 x2 x3 x4 h
def  IT(f:Addr->Str->Int->Str->Str->Hp->VK->XK->Prop):Sp:=a5 fun q1 q2 q3 q4 q5 H Q E=>vR q1 fun x1=>vS q2 fun x2=>vI q3 fun x3=>vS q4 fun x4=>vS q5 fun x5=>f x1 x2 x3 x4 x5 H Q E
@[elab_as_elim] theorem Gz {f:Addr->Str->Int->Str->Str->Hp->VK->XK->Prop}{vs:List V}{H:Hp}{Q:VK}{E:XK}{G:List V->Prop} (h:IT f vs H Q E) (k:∀ x1 x2 x3 x4 x5,f x1 x2 x3 x4 x5 H Q E->G [-x1,.str x2,.int x3,.str x4,.str x5]):G vs:=by
 let⟨_,_,_,_,_,rfl,h⟩:=a5.o h;let⟨x1,rfl,h⟩:=vR.o h;let⟨x2,rfl,h⟩:=vS.o h;let⟨x3,rfl,h⟩:=vI.o h;let⟨x4,rfl,h⟩:=vS.o h;let⟨x5,rfl,h⟩:=vS.o h;show k x1 x2 x3 x4 x5 h
def  Ks(f:Addr->Str->Int->V->Hp->VK->XK->Prop):Sp:=a4 fun q1 q2 q3 x4 H Q E=>vR q1 fun x1=>vS q2 fun x2=>vI q3 fun x3=>f x1 x2 x3 x4 H Q E
@[elab_as_elim] theorem Kf {f:Addr->Str->Int->V->Hp->VK->XK->Prop}{vs:List V}{H:Hp}{Q:VK}{E:XK}{G:List V->Prop} (h:Ks f vs H Q E) (k:∀ x1 x2 x3 x4,f x1 x2 x3 x4 H Q E->G [-x1,.str x2,.int x3,x4]):G vs:=by
 let⟨_,_,_,x4,rfl,h⟩:=a4.o h;let⟨x1,rfl,h⟩:=vR.o h;let⟨x2,rfl,h⟩:=vS.o h;let⟨x3,rfl,h⟩:=vI.o h;show k x1 x2 x3 x4 h
def  IX(f:Addr->Str->Addr->Addr->Hp->VK->XK->Prop):Sp:=a4 fun q1 q2 q3 q4 H Q E=>vR q1 fun x1=>vS q2 fun x2=>vR q3 fun x3=>vR q4 fun x4=>f x1 x2 x3 x4 H Q E
@[elab_as_elim] theorem LP {f:Addr->Str->Addr->Addr->Hp->VK->XK->Prop}{vs:List V}{H:Hp}{Q:VK}{E:XK}{G:List V->Prop} (h:IX f vs H Q E) (k:∀ x1 x2 x3 x4,f x1 x2 x3 x4 H Q E->G [-x1,.str x2,-x3,-x4]):G vs:=by
 let⟨_,_,_,_,rfl,h⟩:=a4.o h;let⟨x1,rfl,h⟩:=vR.o h;let⟨x2,rfl,h⟩:=vS.o h;let⟨x3,rfl,h⟩:=vR.o h;let⟨x4,rfl,h⟩:=vR.o h;show k x1 x2 x3 x4 h
def  sI(f:Addr->Str->Str->Hp->VK->XK->Prop):Sp:=a3 fun q1 q2 q3 H Q E=>vR q1 fun x1=>vS q2 fun x2=>vS q3 fun x3=>f x1 x2 x3 H Q E
@[elab_as_elim] theorem mU {f:Addr->Str->Str->Hp->VK->XK->Prop}{vs:List V}{H:Hp}{Q:VK}{E:XK}{G:List V->Prop} (h:sI f vs H Q E) (k:∀ x1 x2 x3,f x1 x2 x3 H Q E->G [-x1,.str x2,.str x3]):G vs:=by
 let⟨_,_,_,rfl,h⟩:=a3.o h;let⟨x1,rfl,h⟩:=vR.o h;let⟨x2,rfl,h⟩:=vS.o h;let⟨x3,rfl,h⟩:=vS.o h;show k x1 x2 x3 h
def  rm(f:Addr->Str->Str->Bool->Hp->VK->XK->Prop):Sp:=a4 fun q1 q2 q3 q4 H Q E=>vR q1 fun x1=>vS q2 fun x2=>vS q3 fun x3=>vB q4 fun x4=>f x1 x2 x3 x4 H Q E
@[elab_as_elim] theorem jM {f:Addr->Str->Str->Bool->Hp->VK->XK->Prop}{vs:List V}{H:Hp}{Q:VK}{E:XK}{G:List V->Prop} (h:rm f vs H Q E) (k:∀ x1 x2 x3 x4,f x1 x2 x3 x4 H Q E->G [-x1,.str x2,.str x3,.bl x4]):G vs:=by
 let⟨_,_,_,_,rfl,h⟩:=a4.o h;let⟨x1,rfl,h⟩:=vR.o h;let⟨x2,rfl,h⟩:=vS.o h;let⟨x3,rfl,h⟩:=vS.o h;let⟨x4,rfl,h⟩:=vB.o h;show k x1 x2 x3 x4 h
def  Mi(f:Addr->Str->Str->Int->Hp->VK->XK->Prop):Sp:=a4 fun q1 q2 q3 q4 H Q E=>vR q1 fun x1=>vS q2 fun x2=>vS q3 fun x3=>vI q4 fun x4=>f x1 x2 x3 x4 H Q E
@[elab_as_elim] theorem KN {f:Addr->Str->Str->Int->Hp->VK->XK->Prop}{vs:List V}{H:Hp}{Q:VK}{E:XK}{G:List V->Prop} (h:Mi f vs H Q E) (k:∀ x1 x2 x3 x4,f x1 x2 x3 x4 H Q E->G [-x1,.str x2,.str x3,.int x4]):G vs:=by
 let⟨_,_,_,_,rfl,h⟩:=a4.o h;let⟨x1,rfl,h⟩:=vR.o h;let⟨x2,rfl,h⟩:=vS.o h;let⟨x3,rfl,h⟩:=vS.o h;let⟨x4,rfl,h⟩:=vI.o h;show k x1 x2 x3 x4 h
def  HL(f:Addr->Str->Str->Str->Hp->VK->XK->Prop):Sp:=a4 fun q1 q2 q3 q4 H Q E=>vR q1 fun x1=>vS q2 fun x2=>vS q3 fun x3=>vS q4 fun x4=>f x1 x2 x3 x4 H Q E
@[elab_as_elim] theorem IC {f:Addr->Str->Str->Str->Hp->VK->XK->Prop}{vs:List V}{H:Hp}{Q:VK}{E:XK}{G:List V->Prop} (h:HL f vs H Q E) (k:∀ x1 x2 x3 x4,f x1 x2 x3 x4 H Q E->G [-x1,.str x2,.str x3,.str x4]):G vs:=by
 let⟨_,_,_,_,rfl,h⟩:=a4.o h;let⟨x1,rfl,h⟩:=vR.o h;let⟨x2,rfl,h⟩:=vS.o h;let⟨x3,rfl,h⟩:=vS.o h;let⟨x4,rfl,h⟩:=vS.o h;show k x1 x2 x3 x4 h
def  De(f:Addr->Str->Str->Str->Str->Hp->VK->XK->Prop):Sp:=a5 fun q1 q2 q3 q4 q5 H Q E=>vR q1 fun x1=>vS q2 fun x2=>vS q3 fun x3=>vS q4 fun x4=>vS q5 fun x5=>f x1 x2 x3 x4 x5 H Q E
@[elab_as_elim] theorem wY {f:Addr->Str->Str->Str->Str->Hp->VK->XK->Prop}{vs:List V}{H:Hp}{Q:VK}{E:XK}{G:List V->Prop} (h:De f vs H Q E) (k:∀ x1 x2 x3 x4 x5,f x1 x2 x3 x4 x5 H Q E->G [-x1,.str x2,.str x3,.str x4,.str x5]):G vs:=by
 let⟨_,_,_,_,_,rfl,h⟩:=a5.o h;let⟨x1,rfl,h⟩:=vR.o h;let⟨x2,rfl,h⟩:=vS.o h;let⟨x3,rfl,h⟩:=vS.o h;let⟨x4,rfl,h⟩:=vS.o h;let⟨x5,rfl,h⟩:=vS.o h;show k x1 x2 x3 x4 x5 h
def  Bn(f:Addr->V->Hp->VK->XK->Prop):Sp:=a2 fun q1 x2 H Q E=>vR q1 fun x1=>f x1 x2 H Q E
@[elab_as_elim] theorem yg {f:Addr->V->Hp->VK->XK->Prop}{vs:List V}{H:Hp}{Q:VK}{E:XK}{G:List V->Prop} (h:Bn f vs H Q E) (k:∀ x1 x2,f x1 x2 H Q E->G [-x1,x2]):G vs:=by
 let⟨_,x2,rfl,h⟩:=a2.o h;let⟨x1,rfl,h⟩:=vR.o h;show k x1 x2 h
def  Bp(f:Addr->V->V->Hp->VK->XK->Prop):Sp:=a3 fun q1 x2 x3 H Q E=>vR q1 fun x1=>f x1 x2 x3 H Q E
@[elab_as_elim] theorem mZ {f:Addr->V->V->Hp->VK->XK->Prop}{vs:List V}{H:Hp}{Q:VK}{E:XK}{G:List V->Prop} (h:Bp f vs H Q E) (k:∀ x1 x2 x3,f x1 x2 x3 H Q E->G [-x1,x2,x3]):G vs:=by
 let⟨_,x2,x3,rfl,h⟩:=a3.o h;let⟨x1,rfl,h⟩:=vR.o h;show k x1 x2 x3 h
def  D2(f:Addr->V->V->V->Hp->VK->XK->Prop):Sp:=a4 fun q1 x2 x3 x4 H Q E=>vR q1 fun x1=>f x1 x2 x3 x4 H Q E
@[elab_as_elim] theorem wA {f:Addr->V->V->V->Hp->VK->XK->Prop}{vs:List V}{H:Hp}{Q:VK}{E:XK}{G:List V->Prop} (h:D2 f vs H Q E) (k:∀ x1 x2 x3 x4,f x1 x2 x3 x4 H Q E->G [-x1,x2,x3,x4]):G vs:=by
 let⟨_,x2,x3,x4,rfl,h⟩:=a4.o h;let⟨x1,rfl,h⟩:=vR.o h;show k x1 x2 x3 x4 h
def  JN(f:Addr->V->V->V->V->V->Hp->VK->XK->Prop):Sp:=a6 fun q1 x2 x3 x4 x5 x6 H Q E=>vR q1 fun x1=>f x1 x2 x3 x4 x5 x6 H Q E
@[elab_as_elim] theorem Le {f:Addr->V->V->V->V->V->Hp->VK->XK->Prop}{vs:List V}{H:Hp}{Q:VK}{E:XK}{G:List V->Prop} (h:JN f vs H Q E) (k:∀ x1 x2 x3 x4 x5 x6,f x1 x2 x3 x4 x5 x6 H Q E->G [-x1,x2,x3,x4,x5,x6]):G vs:=by
 let⟨_,x2,x3,x4,x5,x6,rfl,h⟩:=a6.o h;let⟨x1,rfl,h⟩:=vR.o h;show k x1 x2 x3 x4 x5 x6 h
def  K0(f:Addr->V->V->V->V->V->V->Hp->VK->XK->Prop):Sp:=a7 fun q1 x2 x3 x4 x5 x6 x7 H Q E=>vR q1 fun x1=>f x1 x2 x3 x4 x5 x6 x7 H Q E
@[elab_as_elim] theorem KL {f:Addr->V->V->V->V->V->V->Hp->VK->XK->Prop}{vs:List V}{H:Hp}{Q:VK}{E:XK}{G:List V->Prop} (h:K0 f vs H Q E) (k:∀ x1 x2 x3 x4 x5 x6 x7,f x1 x2 x3 x4 x5 x6 x7 H Q E->G [-x1,x2,x3,x4,x5,x6,x7]):G vs:=by
 let⟨_,x2,x3,x4,x5,x6,x7,rfl,h⟩:=a7.o h;let⟨x1,rfl,h⟩:=vR.o h;show k x1 x2 x3 x4 x5 x6 x7 h
def  mX(f:Str->Hp->VK->XK->Prop):Sp:=a1 fun q1 H Q E=>vS q1 fun x1=>f x1 H Q E
@[elab_as_elim] theorem gF {f:Str->Hp->VK->XK->Prop}{vs:List V}{H:Hp}{Q:VK}{E:XK}{G:List V->Prop} (h:mX f vs H Q E) (k:∀ x1,f x1 H Q E->G [.str x1]):G vs:=by
 let⟨_,rfl,h⟩:=a1.o h;let⟨x1,rfl,h⟩:=vS.o h;show k x1 h
def  sJ(f:V->Hp->VK->XK->Prop):Sp:=a1 fun x1 H Q E=>f x1 H Q E
@[elab_as_elim] theorem mS {f:V->Hp->VK->XK->Prop}{vs:List V}{H:Hp}{Q:VK}{E:XK}{G:List V->Prop} (h:sJ f vs H Q E) (k:∀ x1,f x1 H Q E->G [x1]):G vs:=by
 let⟨x1,rfl,h⟩:=a1.o h;show k x1 h
def  Pa(K:ν):Sp:=sJ fun x H Q _=>A3 (∃ T,clsName H x=!T) (Ig x) (∀ H',ag H H'->Q (.bl (fS x)) H')
def GA{nm:List Nat}(h:isNm nm=true):1<=nm.length/\nm.length<=8/\nm.all (qV.contains ·)=true:=by
 unfold isNm at h;simp only[Fk,_g]at h;show#[h.1.1,h.1.2,h.2]
def aag:Str.ofString "abcdefghijklmnopqrstuvwxyz" = Tx.S qV:=by decide +kernel
def  cq(l:List Nat):Bool:=decide (l=[46]) || decide (l=[46,46]) || isNm l
def DM{l:List Nat}(h:cq l=true):47 ∉ l/\l≠[]/\l.length<=8:=by
 unfold cq at h;simp only[Jac,_g]at h;rcases h with (rfl | rfl) | h
 ·show#[⋯,⋯,⋯]
 ·show#[⋯,⋯,⋯]
 ·let⟨h1,h2,h3⟩:=GA h;show#[fun m=>?_,fun e=>by rw[e]at h1;simp at h1,h2];have:=Ix.mp h3 47 m;show absurd this (by decide +kernel)
abbrev PV(ps:List (List Nat)):List V:=(ps.map Tx.S).map V.str
def  told(ps:List (List Nat))(t:List Nat):List (List Nat):=if ps≠[]/\t.getLast?=!47 then ps++[[46]] else ps
def  cu(t:List Nat):Bool:=decide (t.head?=!47)
def aa8{ps:List (List Nat)}{t:List Nat}(h:ps.all cq=true):(told ps t).all cq=true:=by
 unfold told;split
 ·rw[_T,h];rfl
 ·show h
def AU{ps:List (List Nat)}{t:List Nat}:(told ps t).length<=ps.length+1:=by
 unfold told;split
 ·rw[mo];show lm _
 ·omega
def  VG(K:ν):Sp:=mX fun z H Q _=>X1 fun (w:List Nat)=>A3 (z=Tx.S w) (w.length<=1000) (∀ H',ag H H'->Q (.bl (cq w)) H')
def  Wg(K:ν):Sp:=mX fun z H Q _=>X1 fun (t:List Nat)=>A5 (z=Tx.S t) (1<=t.length) (t.length<=2000) ((Tx.words 47 t).all cq=true) (∀ (H':Hp) (l p:Addr),ag H H'->H l=none->H' l=!.lst (PV (told (Tx.words 47 t) t))->H' p=!.tup [.bl (cu t),-l]->Q (-p) H')
structure Pth(ps:List (List Nat))(t:List Nat):Prop where
 words:Tx.words 47 t=ps
 one:1<=t.length
 most:t.length<=150
def  um(n kd ow mi re tx nm pl:V):List (Str×V):=[("number",n),("kind",kd),("owner",ow),("mine",mi),("rest",re),("text",tx),("names",nm),("places",pl)]
def  uC(ml:Addr)(c:Int):List (Str×V):=[("made",-ml),("changes",.int c)]
structure Th where
 kd:Str
 ow:Str
 mi:Str
 re:Str
 tx:Str
 aO:List (Str×Nat)
 bZ:List (Nat×Str)
structure Hs where
 ts:List Th
 ro:List (Str×Nat)
 st:List (Str×Nat)
 tr:List (Str×Nat)
 ov:List (Nat×Nat)
 un:List (Nat×Nat)
structure Ta where
 th:Addr
 dJ:Addr
 nm:Addr
 pl:Addr
structure Ad where
 a:Addr
 dx:Addr
 t:Addr
 dt:Addr
 ml:Addr
 ro:Addr
 st:Addr
 tr:Addr
 ov:Addr
 un:Addr
 ho:Addr
def  vd(c:Int)(A:Ad):List (Str×V):=[("things",-A.t),("changes",.int c),("roots",-A.ro),("standings",-A.st),("tree_roots",-A.tr),("root_over",-A.ov),("folder_under",-A.un),("holds",-A.ho),("holds_given",.int 0),("first_root",.int 0)]
def ZM{f:Str}{c c':Int}{A:Ad}(h:f ≠ "changes"):(vd c A).lookup f=(vd c' A).lookup f:=by
 unfold vd;simp only[List.lookup];have:(f == ("changes":Str))=false:=FS.mpr h;rw[this]
def  sD(l:List (Str×Nat)):List (Key×V):=l.map fun e=>(.inr e.1,.int e.2)
def  nD(l:List (Nat×Nat)):List (Key×V):=l.map fun e=>(.inl (e.1:Int),.int e.2)
def  pD(l:List (Nat×Str)):List (List Key×V):=l.map fun e=>([.inl (e.1:Int),.inr e.2],.bl true)
structure ot(CT:Addr)(H:Hp)(a:Ta)(i:Nat)(t:Th):Prop where
 o:∃ fs,H a.th=!.ins CT a.dJ fs/\fs.length<=40/\dz fs (um (.int i) (.str t.kd) (.str t.ow) (.str t.mi) (.str t.re) (.str t.tx) (-a.nm) (-a.pl))
 nm:H a.nm=!.dK (sD t.aO)
 pl:H a.pl=!.dT (pD t.bZ)
def  Ad.w(A:Ad):List Addr:=[A.a,A.t,A.ml,A.ro,A.st,A.tr,A.ov,A.un]
def  Ta.l(a:Ta):List Addr:=[a.th,a.nm,a.pl]
structure aH(CH CS CT:Addr)(H:Hp)(A:Ad)(L:List Ta)(M:Hs):Prop where
 h:∃ fs c,H A.a=!.ins CH A.dx fs/\fs.length<=40/\dz fs (vd c A)
 t:∃ fs c,H A.t=!.ins CS A.dt fs/\fs.length<=40/\dz fs (uC A.ml c)
 ml:H A.ml=!.lst (L.map fun a=>-a.th)
 len:L.length=M.ts.length
 th:∀ i t,M.ts[i]?=!t->∃ a,L[i]?=!a/\ot CT H a i t
 ro:H A.ro=!.dK (sD M.ro)
 st:H A.st=!.dK (sD M.st)
 tr:H A.tr=!.dK (sD M.tr)
 ov:H A.ov=!.dK (nD M.ov)
 un:H A.un=!.dK (nD M.un)
 nd:(A.w++L.flatMap Ta.l).Nodup
def  Kp(W:List Addr)(H H':Hp):Prop:=∀ b o,b ∉ W->H b=!o->H' b=!o
def Kp.trans{W:List Addr}{H H1 H2:Hp}(a:Kp W H H1)(b:Kp W H1 H2):Kp W H H2:=fun c o h e=>b c o h (a c o h e)
def Kp.of{W:List Addr}{H H':Hp}(s:ag H H'):Kp W H H':=fun b o _ e=>s b o e
def cT{H:Hp}{a b:Addr}{o u:HO}(h1:H a=!o)(h2:H b=!u)(h:o≠u):a≠b:=fun e=>h (by rw[e,h2]at h1;cases h1;rfl)
def bt{H:Hp}{a b:Addr}{o:HO}(h1:H a=!o)(h2:H b=none):a≠b:=fun e=>by rw[e,h2]at h1;cases h1
def Bl{H:Hp}{x d:Addr}{o O oo:HO}(hn:H d=none)(hx:H x=!oo):upd (upd H d o) x O x=!O/\upd (upd H d o) x O d=!o/\(∀ b u,b≠x->H b=!u->upd (upd H d o) x O b=!u)/\d≠x:=by
 have n:=bt hx hn;show#[ay,by rw[ah (ut n),ay],fun b u hb e=>?_,ut n];rw[ah hb,ah (bt e hn)];show e
section
variable {CH CS CT:Addr}{H H':Hp}{A:Ad}{L:List Ta}{M:Hs}
def ot.keep{W:List Addr}{a:Ta}{i:Nat}{t:Th}(h:ot CT H a i t)(k:Kp W H H')(hw:∀ b∈a.l,b ∉ W):ot CT H' a i t where
 o:=let ⟨fs,e,r⟩:=h.o;#[fs,k _ _ (hw _ (by simp[Ta.l])) e,r]
 nm:=k _ _ (hw _ (by simp[Ta.l])) h.nm
 pl:=k _ _ (hw _ (by simp[Ta.l])) h.pl
def js{i:Nat}{a:Ta}(h:L[i]?=!a){b:Addr}(hb:b∈a.l):b∈L.flatMap Ta.l:=List.mem_flatMap.mpr #[a,Go h,hb]
def aH.keep{W:List Addr}(i:aH CH CS CT H A L M)(k:Kp W H H')(hw:∀ b∈A.w++L.flatMap Ta.l,b ∉ W):aH CH CS CT H' A L M where
 h:=let ⟨fs,c,e,r⟩:=i.h;#[fs,c,k _ _ (hw _ (by simp[Ad.w])) e,r]
 t:=let ⟨fs,c,e,r⟩:=i.t;#[fs,c,k _ _ (hw _ (by simp[Ad.w])) e,r]
 ml:=k _ _ (hw _ (by simp[Ad.w])) i.ml
 len:=i.len
 th:=fun j t e=>let ⟨a,e1,h⟩:=i.th j t e;#[a,e1,h.keep k fun b hb=>hw b (wE _ (js e1 hb))]
 ro:=k _ _ (hw _ (by simp[Ad.w])) i.ro
 st:=k _ _ (hw _ (by simp[Ad.w])) i.st
 tr:=k _ _ (hw _ (by simp[Ad.w])) i.tr
 ov:=k _ _ (hw _ (by simp[Ad.w])) i.ov
 un:=k _ _ (hw _ (by simp[Ad.w])) i.un
 nd:=i.nd
def aH.same(i:aH CH CS CT H A L M)(s:ag H H'):aH CH CS CT H' A L M:=i.keep (W:=[]) (.of s) fun _ _=>by simp
def wx:∀ {L:List Ta}{i j:Nat}{a a':Ta}{b:Addr},(L.flatMap Ta.l).Nodup->L[i]?=!a->L[j]?=!a'->b∈a.l->b∈a'.l->i=j
 | [],_,_,_,_,_,_,h,_,_,_=>by simp at h
 | c::r,0,0,_,_,_,_,_,_,_,_=>rfl
 | c::r,0,j+1,a,a',b,nd,h1,h2,m1,m2=>by
  rw[TW,Db]at nd;simp only[List.getElem?_cons_zero,Option.some.injEq]at h1;simp only[List.getElem?_cons_succ]at h2;subst h1;show absurd rfl (nd.2.2 b m1 b (js h2 m2))
 | c::r,i+1,0,a,a',b,nd,h1,h2,m1,m2=>by
  rw[TW,Db]at nd;simp only[List.getElem?_cons_zero,Option.some.injEq]at h2;simp only[List.getElem?_cons_succ]at h1;subst h2;show absurd rfl (nd.2.2 b m2 b (js h1 m1))
 | c::r,i+1,j+1,a,a',b,nd,h1,h2,m1,m2=>by
  rw[TW,Db]at nd;simp only[List.getElem?_cons_succ]at h1 h2;rw[wx nd.2.1 h1 h2 m1 m2]
def aH.write{k:Nat}{a:Ta}{t':Th}(i:aH CH CS CT H A L M)(hk:L[k]?=!a)(hh:∃ fs c,H' A.a=!.ins CH A.dx fs/\fs.length<=40/\dz fs (vd c A))(ht:∃ fs c,H' A.t=!.ins CS A.dt fs/\fs.length<=40/\dz fs (uC A.ml c))(aU:ot CT H' a k t')(kp:Kp [A.a,A.t,a.th,a.nm,a.pl] H H'):aH CH CS CT H' A L { M with ts:=M.ts.set k t' }:=by
 have nd:=i.nd;rw[Db]at nd;let⟨n1,n2,n3⟩:=nd;have ma:∀ b∈a.l,b∈L.flatMap Ta.l:=fun b hb=>js hk hb;have se:∀ b∈[A.ml,A.ro,A.st,A.tr,A.ov,A.un],b ∉ [A.a,A.t,a.th,a.nm,a.pl]:=by
  intro b hb hm;have hw:b∈A.w:=by
   simp only[Ad.w,lv,sK,AT]at hb ⊢;rcases hb with h | h | h | h | h | h <;> simp[h]
  simp only[lv,sK,AT]at hm;rcases hm with rfl | rfl | rfl | rfl | rfl
  ·have:=(Gc.mp n1).1;simp only[lv,sK,AT,_y]at hb this;rcases hb with h | h | h | h | h | h <;> simp[h]at this
  ·have:=(Gc.mp (Gc.mp n1).2).1;simp only[lv,sK,AT,_y]at hb this;rcases hb with h | h | h | h | h | h <;> simp[h]at this
  ·show n3 _ hw _ (ma _ (by simp[Ta.l])) rfl
  ·show n3 _ hw _ (ma _ (by simp[Ta.l])) rfl
  ·show n3 _ hw _ (ma _ (by simp[Ta.l])) rfl
 show#[hh,ht,kp _ _ (se _ ()) i.ml,by rw[i.len];simp,fun j t e=>?_,kp _ _ (se _ ()) i.ro,kp _ _ (se _ ()) i.st,kp _ _ (se _ ()) i.tr,kp _ _ (se _ ()) i.ov,kp _ _ (se _ ()) i.un,i.nd];by_cases hj:j=k
 ·subst hj;have bO:j < M.ts.length:=by rw[<- i.len];show(ss.mp hk).1
  have e':(M.ts.set j t')[j]?=!t:=e;rw[P3 bO]at e';cases e';show#[a,hk,aU]
 ·have e':(M.ts.set k t')[j]?=!t:=e;rw[Ps (ut hj)]at e';let⟨a',e1,h1⟩:=i.th j t e';show#[a',e1,h1.keep kp fun b hb hm=>?_];have oV:=js e1 hb;simp only[lv,sK,AT]at hm;rcases hm with rfl | rfl | rfl | rfl | rfl
  ·show n3 _ (by simp[Ad.w]) _ oV rfl
  ·show n3 _ (by simp[Ad.w]) _ oV rfl
  ·show hj (wx n2 e1 hk hb (by simp[Ta.l]))
  ·show hj (wx n2 e1 hk hb (by simp[Ta.l]))
  ·show hj (wx n2 e1 hk hb (by simp[Ta.l]))
end
def  Lg:V->Bool
 | .int _=>true
 | _=>false
def  P9:Sp:=sJ fun v H Q _=>(∃ T,clsName H v=!T)/\Q (.bl (Lg v)) H
def  Tq:Sp:=sJ fun x H Q _=>A4 (∃ T,clsName H x=!T) (Ig x) (fS x=true) (∀ H',ag H H'->Q .ao H')
def  XS(C:Addr):Sp:=K0 fun x n kd ow mi re tx H Q _=>X1 fun dx=>A2 (H x=!.ins C dx []) (∀ l1 l2 H',H l1=none->H l2=none->l1≠l2->l1≠x->l2≠x->(∀ b,b≠x->b≠l1->b≠l2->H' b=H b)->H' l1=!.dK []->H' l2=!.dT [] ->
   (∀ fs,fs.length<=40->dz fs (um n kd ow mi re tx (-l1) (-l2))->H' x=!.ins C dx fs->Q .ao H'))
def  WM(C:Addr):Sp:=lM fun x H Q _=>X1 fun dx=>A2 (H x=!.ins C dx []) (∀ l H',H l=none->l≠x->(∀ b,b≠x->b≠l->H' b=H b)->H' l=!.lst []->(∀ fs,fs.length<=40->dz fs (uC l 0)->H' x=!.ins C dx fs->Q .ao H'))
structure m7(CS:Addr)(H:Hp)(x dt ml:Addr)(rs:List V):Prop where
 o:∃ fs c,H x=!.ins CS dt fs/\fs.length<=40/\dz fs (uC ml c)
 ml:H ml=!.lst rs
def  xt(CS CT:Addr)(x dt ml:Addr)(rs:List V)(kd ow mi re tx:V)(H:Hp)(Q:VK):Prop :=
 ∀ th dJ nm pl ks H',H th=none->H nm=none->H pl=none->m7 CS H' x dt ml (rs++[-th])->H' th=!.ins CT dJ ks->ks.length<=40->dz ks (um (.int rs.length) kd ow mi re tx (-nm) (-pl)) ->
  H' nm=!.dK []->H' pl=!.dT []->Kp [x,ml] H H'->Q (.int rs.length) H'
def  XQ(CS CT:Addr):Sp:=JN fun x kd ow mi re tx H Q _=>X3 fun dt ml rs=>A3 (m7 CS H x dt ml rs) (rs.length<=500) (xt CS CT x dt ml rs kd ow mi re tx H Q)
def  Pw(CS CT:Addr):Sp:=D2 fun x ow mi re H Q _=>X3 fun dt ml rs=>A3 (m7 CS H x dt ml rs) (rs.length<=500) (xt CS CT x dt ml rs (.str "folder") ow mi re (.str "") H Q)
def  Sv(CS CT:Addr):Sp:=Bp fun x ow tx H Q _=>X3 fun dt ml rs=>A3 (m7 CS H x dt ml rs) (rs.length<=500) (xt CS CT x dt ml rs (.str "lead") ow (.str "") (.str "") tx H Q)
def  Jd(CH CS CT CN:Addr):Sp:=Bn fun x v H Q E=>X3 fun A L M=>A5 (aH CH CS CT H A L M) (A.t=x) (∃ T,clsName H v=!T) (∀ (k:Nat) a t,v=.int k->L[k]?=!a->M.ts[k]?=!t->Q (-a.th) H) ((∀ k:Nat,v=.int k->¬ k < M.ts.length)->E (-CN) none H)
abbrev mM:=Ad->List Ta->Hs->Nat->Ta->Th->Hp->VK->Prop
def  qA(CH CS CT:Addr)(sel:Ad->Addr)(f:mM):Sp:=jo fun x n H Q _=>X6 fun A L M (k:Nat) a t=>A6 (aH CH CS CT H A L M) (sel A=x) (n=(k:Int)) (L[k]?=!a) (M.ts[k]?=!t) (f A L M k a t H Q)
def  Yk(CH CS CT:Addr)(sel:Ad->Addr):Sp:=yr fun x n z H Q _=>X6 fun A L M (k:Nat) a t=>A6 (aH CH CS CT H A L M) (sel A=x) (n=(k:Int)) (L[k]?=!a) (M.ts[k]?=!t) (Q ((aG (sD t.aO) (.inr z)).getD .ao) H)
def  Rl(CH CS CT:Addr):Sp:=yr fun x n z H Q _=>X6 fun A L M (k:Nat) a t=>A8 (aH CH CS CT H A L M) (A.a=x) (n=(k:Int)) (L[k]?=!a) (M.ts[k]?=!t) (fS (.str z)=true) (z.length<=1000) (∀ H',ag H H'->Q ((aG (sD t.aO) (.inr z)).getD .ao) H')
abbrev abx:mM:=fun _ _ _ _ _ t H Q=>t.aO.length < 64/\∀ l,H l=none->Q (-l) (upd H l (.lst ((iq (t.aO.map (·.1))).map V.str)))
abbrev Ky:mM:=fun _ _ _ _ _ t H Q=>(t.bZ=[]/\Q .ao H)\/∃ f z,t.bZ=[(f,z)]/\∀ p,H p=!.tup [.int (f:Nat),.str z]->Q (-p) H
abbrev kZ:mM:=fun _ _ _ _ _ t H Q=>Q (.str t.kd) H
abbrev ZY:mM:=fun _ _ _ _ _ t H Q=>Q (.str t.ow) H
abbrev sE:mM:=fun _ _ _ _ _ t H Q=>Q (.str t.tx) H
abbrev abr:mM:=fun _ _ _ _ _ t H Q=>∀ l,H l=none->Q (-l) (upd H l (.tup [.str t.mi,.str t.re]))
abbrev SM:mM:=fun _ _ _ _ _ _ H Q=>Q .ao H
def  KI(CH CS CT CA:Addr):Sp:=Bn fun x v H Q E=>X3 fun A L M=>A5 (aH CH CS CT H A L M) (A.a=x) (∃ T,clsName H v=!T) (∀ z,v=.str z->(aG (sD M.ro) (.inr z)).isSome=true->Q .ao H) ((∀ z,v=.str z->aG (sD M.ro) (.inr z)=none)->E (-CA) none H)
def  YA(CH CS CT:Addr):Sp:=g9 fun x z H Q _=>X4 fun A L M (r:Nat)=>A4 (aH CH CS CT H A L M) (A.a=x) (aG (sD M.ro) (.inr z)=!.int r) (Q (.int r) H)
def  dj(t:Th)(asker:Str):Str:=if asker=t.ow then t.mi else t.re
def  Zv(CT:Addr):Sp:=g9 fun x z H Q _=>X3 fun a i t=>A3 (ot CT H a i t) (a.th=x) (Q (.str (dj t z)) H)
def  jN(v:V):Bool:=decide (v=.str "l") || decide (v=.str "g") || decide (v=.str "w")
def  Zg(CR:Addr):Sp:=sJ fun v H Q E=>A3 (∃ T,clsName H v=!T) (jN v=true->Q .ao H) (jN v=false->E (-CR) none H)
def  ee(s:Str)(z:Str):Bool:=Bool.not (Builtin.Str.occurrences z s 0 z.length 1).isEmpty
def  J5(CH CS CT CA CR CN:Addr):Sp:=D2 fun x w v r H Q E=>X3 fun A L M=>A7 (aH CH CS CT H A L M) (A.a=x) (∃ T,clsName H w=!T) (∃ T,clsName H v=!T) (∃ T,clsName H r=!T) ((∀ z,w=.str z->aG (sD M.ro) (.inr z)=none)->E (-CA) none H) (∀ z,w=.str z->(aG (sD M.ro) (.inr z)).isSome=true->(jN r=false->E (-CR) none H) /\
    ∀ s,r=.str s->jN r=true->((∀ k:Nat,v=.int k->¬ k < M.ts.length)->E (-CN) none H)/\∀ (k:Nat) t,v=.int k->M.ts[k]?=!t->Q (.bl (ee s (dj t z))) H)
local macro_rules | `(tactic| walk_at "rd")=>`(tactic| dsimp only[tK,B2,DT,C2,jU,fi,DU,eX,tC,iM,Bg,yy,nQ,fP,f9,wZ,kQ,Ce,DH,Dp,zD,sV,jZ,qo,xr,wJ,yE,mO,Ei,Ak,AK,Eo,yD,D4,wF,C7,SS,RW,PQ,OJ,og,xo,Dq,Dg,DS,D9,Cg,BA,Eb,rJoin,Ds,Df,u7,zy,xU,oB,DX,Hx,Em,Bj,SG,BE,Al,Dn,AX,uP,vi,Ag,zC,Ab,zL,zR,Qz,Xl,zZ,Qb,Ua,YI,S9,Wq,Xq,X0,abk,Sy,SE,V9,YT,Xw,WT,QJ,aar,Vo,Dm,GH,C3,BF,Ends.ZD,DG,DP,DQ,A0,DD,Ef,B7,zP,aaX,vb,fT,DA,QF,DI,xM,C0,BC,Ct,Dc,BS,By,BQ,CP,Cm,BP,Aa,xN,AL,C5,yw,C6,xq,El,Ah,Qp,Ms,yi,xu,Sl,List.getElem?_cons_zero,List.getElem?_cons_succ,List.set_cons_zero,List.set_cons_succ,List.cons_append,List.nil_append])
local macro_rules | `(tactic| walk_at "w")=>`(tactic| (first | walk_at "rd" | skip))
local macro_rules | `(tactic| left)=>`(tactic| walk_at "w")
local macro_rules | `(tactic| right)=>`(tactic| (refine aq ?_;left))
local macro_rules | `(tactic| symm)=>`(tactic| decide +kernel)
local macro_rules | `(tactic| walk_at "f")=>`(tactic| (refine SZ (m:=40) ?_ (by decide);(repeat (refine cM ?_));exact wS _))
local macro_rules | `(tactic| walk_at "c")=>`(tactic| (repeat (first | exact trivial | (refine#[fun z=>(by first | exact#[_,rfl] | (rcases z with z | z <;> cases z)),?_]))))
open Dv (aa ae aj aN aR aX bf bj bu bM cA cK da dm dZ eJ ao gp gf f7 iN iJ iR jr jc ka lz la kY ly kX mj oT nM nR qS pR qT qu ux uR BK BH BN zM CY B3 Jk Ju JX Kn Hv LO GK Ie AQ XB Pb Vt Qi aaN Sz aba Qx U4 Xo)
abbrev ad:=@Dv.v
abbrev al:=@Dv.cut
abbrev am:=@Dv.fld
abbrev ap:=@Dv.str
abbrev bi:=@Dv.int
abbrev bn:=@Dv.call
abbrev bv:=@Dv.ix
abbrev ce:=@Dv.nil
abbrev cr:=@Dv.op
abbrev db:=@Dv.lst
abbrev dl:=@Dv.glob
abbrev dL:=@Dv.tup
abbrev em:=@Dv.bl
abbrev f8:=@Dv.cmp
abbrev ge:=@Dv.w_or
abbrev gl:=@Dv.w_and
abbrev ii:=@Dv.slice
abbrev im:=@Dv.un
abbrev io:=@Dv.make
section
variable {P:Program}{w:World}{K:ν}{mg:Str->Option Value}{base:Heap}
variable (T:Tx K mg)
def DR:T.iO.k P w base 1 (Pa K):=by
 show T.iO.F.ok Zu (fun _ _ _ _ h=>mS h fun _ _=>rfl) fun ax A _ s H vs Q E hr h=>mS h fun x h=>?_;let⟨⟨ty,h1⟩,me,q⟩:=h;show#[_,((al (aX (dZ (ge (da (cK (cA kU T.fN fR (aa (ad 0) (aa (lz (.ty "str") T.qc qK rfl) ae))))) (iN (da (BK uU uU bi (cA (iI (K:=K) rfl) T.gz No (aa (ad 0) ae)) (dl (.int 8) T.aaJ #[_,rfl])))))) (aj (aN em)) ce)
 (aj (aN (cA (JF (K:=K) rfl rfl) T.J3 F8 (aa (Jk rfl (x:=("sign":Str)) (XB (ad 0)) (fun _ _ _ _=>by show ux) (fun _ _ _ _=>by show(dm 0 (show List.Nodup (["sign"]:List Str) by decide))) (fun _ _ _ _=>by show(f8 (uu (K:=K) rfl) (ad 0) (dl (.str "abcdefghijklmnopqrstuvwxyz") T.VL #[_,rfl]))) (.of rfl (by show trivial) (by walk_at "c") rfl (by show trivial))) ae)))))).h,?_]
 exists 0;show aq ?_;walk_at "rd";simp only[h1,DN h1];show#[yu _ rfl,?_];cases x with
 | str z =>
  simp only[xK,Ja2,PP,_B];have hsh':z.length<=1000:=me;have hl:z.cps.toList.length=z.length:=by simp[Str.length]
  show#[fits hsh',?_];by_cases a1:1<=z.length
  ·rw[u8 (show(1:Int)<=(z.length:Int) by omega)];show bY ?_;by_cases a2:z.length<=8
   ·rw[u8 (show(z.length:Int)<=8 by omega)];show bb ?_;show Ye (fun c=>.bl (qV.contains c)) (fits hsh') ?_ ?_
    ·intro c _ H1 _ R hR;walk_at "rd";rw[aag,show(#[(List.toArray [c])]:Str)=Tx.S [c] from rfl,Tx.XI];show hR H1 (ag.refl H1)
    ·intro H1 s1 l kG;show#[_,aB.of ay,z.cps.toList.map (qV.contains ·),by rw[SL];rfl,?_];have e:((z.cps.toList.map (qV.contains ·)).all id)=fS (.str z):=by
      change _=isNm z.cps.toList;unfold isNm;rw[hl,u8 a1,u8 a2,List.all_map];rfl
     rw[e];show q _ (s1.trans (ag.upd kG))
   ·rw[kt (show ¬ (z.length:Int)<=8 by omega)];show bY ?_;have e:fS (.str z)=false:=by
     change isNm z.cps.toList=false;unfold isNm;rw[hl,kt a2,Bool.and_false,Jaj]
    have:=q H (ag.refl H);rw[e]at this;show this
  ·rw[kt (show ¬ (1:Int)<=(z.length:Int) by omega)];show bb (bY ?_);have e:fS (.str z)=false:=by
    change isNm z.cps.toList=false;unfold isNm;rw[hl,kt a1,Jaj,Jaj]
   have:=q H (ag.refl H);rw[e]at this;show this
 | _=>show q H (ag.refl H)
def bS{X:Cx}{b:List Stmt}{t:TS}{D:Ends}{σ:St}{H:Hp}(h:QB X b t)(q:t D σ H):∃ t,eE X b t/\t D σ H:=#[t,h.h,q]
def  Uo:V->Bool
 | .int _=>true
 | .bl _=>true
 | _=>false
def So{H:Hp}{v:V}{ty:String}(h:clsName H v=!ty):uF ty "int" = Uo v:=by
 unfold clsName at h;split at h
 ·cases h;rfl
 ·cases h;rfl
 ·cases h;rfl
 ·cases h;rfl
 ·split at h
  ·cases h;rfl
  ·cases h;rfl
  ·cases h;rfl
  ·cases h
 ·cases h
def HN:T.lD.k P w base 1 P9:=by
 show T.lD.F.ok Qd (fun _ _ _ _ h=>mS h fun _ _=>rfl) fun ax A _ s H vs Q E hr h=>mS h fun v h=>?_;let⟨⟨ty,cD⟩,q⟩:=h;show#[_,((aj (aN (BH (cA kU T.fN fR (aa (ad 0) (aa (lz (.ty "int") T.xw xR rfl) ae))) (Dv.one (Pb (cA kU T.fN fR (aa (ad 0) (aa (lz (.ty "bool") T.g_bool Wf rfl) ae))))))))).h,?_];exists 0;left;simp only[cD];show#[⋯,?_];cases v with
 | int i=>cases cD;show bY #[⋯,q]
 | bl b=>cases cD;show bY #[⋯,q]
 | _ =>
  rw[So cD];show bb q
def zV:T.iQ.k P w base 2 Tq:=by
 show T.iQ.F.ok Si (fun _ _ _ _ h=>mS h fun _ _=>rfl) fun ax A _ s H vs Q E hr h=>mS h fun x h=>?_;let⟨hc,me,hn,q1⟩:=h;show#[_,((aj (aX (da (cK (DR<$>T.iO (aa (ad 0) ae)))) (aj gp) ce))).h,?_];exists 0;left;show#[hc,me,fun H' s'=>?_];rw[hn];show bb (q1 H' s')
def  oH:List Str:=["","l","g","w","lg","lw","gw","lgw"]
def  SV:Sp:=mX fun z H Q _=>z∈oH/\Q (.bl true) H
def  aal:Sp:=mX fun z H Q _=>z∈oH/\Q .ao H
def RC{z:Str}{zs:List Str}(h:z∈zs):ik (V.str z) (zs.map V.str)=true:=by
 unfold ik;rw[List.any_map,_q];show#[z,h,show(z == z)=true from beq_self_eq_true z]
def T8:T.qU.k P w base 1 SV:=by
 show T.qU.F.ok aaT (fun _ _ _ _ h=>gF h fun _ _=>rfl) fun ax A _ s H vs Q E hr h=>gF h fun z h=>?_;let⟨hz,q⟩:=h;show#[_,((aj (aN (BH (cA kU T.fN fR (aa (ad 0) (aa (lz (.ty "str") T.qc qK rfl) ae))) (Dv.one (f8 (xl (K:=K) rfl) (ad 0) (dl (-T.ER) T.Z0 rfl))))))).h,?_];exists 0;left;show#[⋯,bY #[_,.inr (T.Bb H),rfl,rfl,?_]];rw[show [V.str "",V.str "l",V.str "g",V.str "w",V.str "lg",V.str "lw",V.str "gw",V.str "lgw"]=oH.map V.str from rfl,RC hz];show q
def yl:T.gj.k P w base 2 aal:=by
 show T.gj.F.ok Rt (fun _ _ _ _ h=>gF h fun _ _=>rfl) fun ax A _ s H vs Q E hr h=>gF h fun z h=>?_;let⟨hz,q⟩:=h;show#[_,((aj (aX (da (cK (T8<$>T.qU (aa (ad 0) ae)))) (aj gp) ce))).h,?_];exists 0;left;show#[hz,bb q]
def P1(v:V):ik v [V.str "l",V.str "g",V.str "w"]=jN v:=by
 unfold ik jN;simp only[_j,List.any_nil,Jas];have key:∀ z:Str,ff (.str z) v=decide (v=.str z):=fun z=>by
  cases v with
  | str y =>
   change(z == y)=decide (V.str y=V.str z);by_cases e:z=y
   ·subst e;simp
   ·rw[kt (by intro h;injection h with h;show e h.symm)];show FS.mpr e
  | _=>rfl
 rw[key,key,key,Bool.or_assoc]
def aaO:aC P w K mg base (dh P w) 1 T.pU.f T.pU.d ["text"] (Zg T.vV):=by
 show T.pU.F.fG aaa (fun _ _ _ _ h=>mS h fun _ _=>rfl) fun ax A _ s H vs Q E hr h=>mS h fun v h=>?_;let⟨⟨ty,cD⟩,q1,q2⟩:=h;show#[_,((aj (aX (dZ (ge (da (cK (cA kU T.fN fR (aa (ad 0) (aa (lz (.ty "str") T.qc qK rfl) ae))))) (iN (bf (uq (K:=K) rfl) (ad 0) (dl (-T.EI) T.V0 rfl))))) (aj (BN Az rfl T.ZZ T.O1 (aa ap ae))) ce))).h,?_];exists 0;left;simp only[cD,DN cD];show#[yu _ rfl,?_];cases v with
 | str z =>
  simp only[xK,Ja2,PP,_B];show#[_,.inr (T.CJ H),rfl,rfl,?_];rw[P1];cases ho:jN (.str z) with
  | true=>show bb (q1 ho)
  | false=>show bY #[fits (),q2 ho]
 | _=>show#[fits (),q2 rfl]
def YB:T.pT.k P w base 2 (VG K):=by
 show T.pT.F.ok Qk (fun _ _ _ _ h=>gF h fun _ _=>rfl) fun ax A _ s H vs Q E hr h=>gF h fun z h=>?_;let⟨w',rfl,hw,q⟩:=h;show#[_,((aj (aN (Vt (f8 (xl (K:=K) rfl) (ad 0) (dl (-T.EE) T.U3 rfl)) (Dv.one (DR<$>T.iO (aa (ad 0) ae))))))).h,?_];exists 0;walk_at "rd";show#[_,.inr (T.B1 H),rfl,rfl,?_];have e:ik (V.str (Tx.S w')) [V.str ".",V.str ".."]=(decide (w'=[46]) || decide (w'=[46,46])):=by
  rw[show Str.ofString "." = Tx.S [46] from by symm,show Str.ofString ".." = Tx.S [46,46] from by symm];unfold ik ff;simp only[_j,List.any_nil,Jas];have b:∀ m:List Nat,(Tx.S m == Tx.S w')=decide (w'=m):=fun m=>by
   by_cases h:w'=m
   ·rw[h];simp
   ·have:Tx.S m≠Tx.S w':=fun e=>h (Tx.ic e).symm;rw[kt h];show FS.mpr this
  rw[b,b]
 rw[e];cases hd:(decide (w'=[46]) || decide (w'=[46,46])) with
 | true =>
  show bY ?_;have:=q H (ag.refl H);unfold cq at this;rw[hd]at this;show this
 | false =>
  show bb ?_;show#[#[_,rfl],(by change(Tx.S w').length<=1000;rw[Tx.c9];show hw),fun H' s'=>?_];have:=q H' s';unfold cq at this;rw[hd,Bool.false_or]at this;have e2:fS (V.str (Tx.S w'))=isNm w':=by change isNm _=_;rw[Tx.j9]
  rw[e2];show this
def mP:T.cY.k P w base 3 (Wg K):=by
 show T.cY.F.ok G0 (fun _ _ _ _ h=>gF h fun _ _=>rfl) fun ax A _ s H vs Q E hr h=>gF h fun z h=>?_;let⟨t,rfl,t1,t2,ju,q⟩:=h;show#[_,((al (aX (dZ (ge (da (cK (cA kU T.fN fR (aa (ad 0) (aa (lz (.ty "str") T.qc qK rfl) ae))))) (iN (da (BK uU uU bi (cA (iI (K:=K) rfl) T.gz No (aa (ad 0) ae)) (dl (.int 2000) T.UX #[_,rfl])))))) (aj gp) ce)
 (al (zM 1 rfl G0.nd (x:=("part":Str)) (iJ (K:=K) rfl (oT _4 _5 Am (ad 0) (aa ap ae))) (fun _ _ _ _=>by show(Ju (bf jg (ad 0) ap))) (fun _ _ _ _=>by show(dm 0 (show List.Nodup (["part"]:List Str) by decide))) (fun _ _ _ _=>by show(ad 0)) (.of rfl (by show trivial) (by walk_at "c") rfl (by show trivial)))
 (al (aX (da (cK (cA (JF (K:=K) rfl rfl) T.J3 F8 (aa (Jk rfl (x:=("part":Str)) (iJ (K:=K) rfl (ad 1)) (fun _ _ _ _=>by show ux) (fun _ _ _ _=>by show(dm 0 (show List.Nodup (["part"]:List Str) by decide))) (fun _ _ _ _=>by show(YB<$>T.pT (aa (ad 0) ae))) (.of rfl (by show trivial) (by walk_at "c") rfl (by show trivial))) ae)))) (aj gp) ce)
 (al (aX (dZ (gl (bf (Lw hr.fU) (ad 1) (db ae)) (ka (cK (oT PySem.F.slot_str_endswith PySem.F.type_str_endswith Se (ad 0) (aa ap ae)))))) (aj (bj (gf GE GM lb (ad 1) (aa ap ae)))) ce)
 (aj (aN (dL (aa (oT PySem.F.slot_str_startswith PySem.F.type_str_startswith VM (ad 0) (aa ap ae)) (aa (ad 1) ae)))))))))).h,?_]
 exists 1;show aq ?_;walk_at "rd";have yZ:Str.ofString "/" = Tx.S [47]:=by symm
 have e0:Str.ofString "" = Tx.S []:=by symm
 simp only[Tx.c9,yZ,e0];show#[yu _ rfl,bb #[tz t2 ⋯,?_]];rw[u8 (show(1:Int)<=(t.length:Int) by omega),u8 (show(t.length:Int)<=2000 by omega)];show bY (bb (aq ?_));walk_at "rd";have vW:=Tx.uc 47 t;show#[rfl,by rw[Tx.c9];show tz t2 ⋯,?_,?_]
 ·rw[Tx.yn,Tx.lU,Tx.xH,Tx.qd,pi];show tz (show _<=2001 by omega) ⋯
 intro l hl;rw[Tx.Bt t 47 ⋯];show cI hl fun H1 s1 b1=>?_;show#[#[_,aB.of b1],BL (fun x=>match x with | .str z=>Bool.not (decide (z=Tx.S [])) | _=>false) id (aB.of b1) (by rw[pi,pi];show tz (show _<=2001 by omega) ⋯) ?_ ?_ ?_]
 ·intro x hx H2 _ R hR;let⟨z,_,rfl⟩:=Do.mp hx;walk_at "rd";show hR H2 (ag.refl H2)
 ·intro x hx _ H2 _ R hR;walk_at "rd";show hR H2 (ag.refl H2)
 intro H2 s2 l2 cB;have ew:((((Tx.cut 47 t).map Tx.S).map V.str).filter (fun x=>match x with | .str z=>Bool.not (decide (z=Tx.S [])) | _=>false)).map id=PV (Tx.words 47 t):=by
  rw[List.map_id,List.filter_map];change((((Tx.cut 47 t).map Tx.S)).filter _).map V.str=_
  congr 1
  rw[<- Tx.GD];show List.filter_congr fun z _=>?_;change(Bool.not (decide (z=Tx.S [])))=decide (z≠Tx.S []);by_cases h:z=Tx.S [] <;> simp[h]
 rw[ew];have gW:H l2=none:=(s1.trans s2).free cB;show cI cB fun H3 s3 b3=>?_;have km:ag H H3:=(s1.trans s2).trans s3;have lZ:(Tx.words 47 t).length<=2001:=tz (_E _ _) ∅;show aq ?_;walk_at "rd";show#[#[_,aB.of b3],BL (fun _=>true) (fun x=>match x with | .str z=>.bl (cq z.cps.toList) | _=>.bl false) (aB.of b3) (by rw[pi,pi];show tz lZ ⋯) ?_ ?_ ?_]
 ·intro x _ H4 _ R hR;show hR H4 (ag.refl H4)
 ·intro x hx _ H4 _ R hR;let⟨z,hz,rfl⟩:=Do.mp hx;let⟨w',hw,rfl⟩:=Do.mp hz;walk_at "rd";let⟨_,_,g3⟩:=DM (Ix.mp ju w' hw);show#[w',rfl,∅,fun H5 s5=>?_];have:=hR H5 s5;simp only[Tx.j9]at this;show this
 intro H4 s4 l4 yU;have eb:((PV (Tx.words 47 t)).filter (fun _=>true)).map (fun x=>match x with | .str z=>V.bl (cq z.cps.toList) | _=>V.bl false)=((Tx.words 47 t).map cq).map V.bl:=by
  rw[List.filter_eq_self.mpr (fun _ _=>rfl),SL,SL,SL];show List.map_congr_left fun w' _=>?_;change V.bl (cq (Tx.S w').cps.toList)=V.bl (cq w');rw[Tx.j9]
 rw[eb];show#[_,aB.of ay,_,rfl,?_];have ea:((Tx.words 47 t).map cq).all id=true:=by rw[List.all_map];show ju
 rw[ea];show bb ?_;have s5:=ag.upd (o:=.lst (((Tx.words 47 t).map cq).map V.bl)) yU;generalize upd H4 l4 (.lst (((Tx.words 47 t).map cq).map V.bl))=H5 at s5 ⊢;have b5:H5 l2=!.lst (PV (Tx.words 47 t)):=s5 _ _ (s4 _ _ b3);have ki:ag H H5:=(km.trans s4).trans s5;show hJ (fun σ' H'=>σ'=[!V.str (Tx.S t),!V.ref l2]/\ag H H'/\H' l2=!.lst (PV (told (Tx.words 47 t) t))) ?_ ?_
 ·walk_at "rd";show#[fits (),fun p hp=>?_];have s6:=ag.upd (o:=.lst []) hp;have c6:upd H5 p (.lst []) p=!.lst ((([]:List Str)).map V.str):=ay;generalize upd H5 p (.lst [])=H6 at s6 c6 ⊢;have b6:H6 l2=!.lst (PV (Tx.words 47 t)):=s6 _ _ b5;show#[(Tx.words 47 t).map Tx.S,[],b6,c6,?_];by_cases rL:Tx.words 47 t=[]
  ·rw[u8 (show(Tx.words 47 t).map Tx.S=[] by rw[rL];rfl)];show bb (bb #[by trivial,ki.trans s6,?_]);unfold told;rw[wT (fun z=>z.1 rL)];show b6
  ·rw[kt (show ¬ (Tx.words 47 t).map Tx.S=[] by simpa using rL)];show bY ?_;rw[Tx.Zt];by_cases yL:t.getLast?=!47
   ·rw[u8 yL];show bY ?_;simp only[b6];show#[by rw[pi,pi];show SZ lZ ⋯,by trivial,d9.same (ki.trans s6) gW d9.upd,?_];unfold told;rw[At #[rL,yL],ay,show Str.ofString "." = Tx.S [46] from by symm];simp only[PV,Fa,Fr,_N]
   ·rw[kt yL];show bb #[by trivial,ki.trans s6,?_];unfold told;rw[wT (fun z=>yL z.2)];show b6
 ·rintro σ' H6 ⟨rfl,s6,b6⟩;walk_at "rd";simp only[yZ,Tx.Tz];show#[fits (),fun p hp=>?_];show q _ l2 p (s6.trans (ag.upd hp)) gW (ID b6 hp) ay
def VH:T.uj.k P w mg base 1 (XS T.aV):=by
 show T.uj.F.ok aaQ (fun _ _ _ _ h=>KL h fun _ _ _ _ _ _ _ _=>rfl) fun ax A _ s H vs Q E hr h=>KL h fun x n kd ow mi re tx h=>?_;let⟨dx,hx,q⟩:=h;show#[_,((al (bM T.dX T.Rq (ad 0) (ad 1))
 (al (bM T.dX T.D7 (ad 0) (ad 2))
 (al (bM T.dX T.Ar (ad 0) (ad 3))
 (al (bM T.dX T.D1 (ad 0) (ad 4))
 (al (bM T.dX T.Bq (ad 0) (ad 5))
 (al (bM T.dX T.LW (ad 0) (ad 6))
 (al (bM T.dX T.zK (ad 0) la)
 (aj (bM T.dX T.w8 (ad 0) Qi)))))))))).h,?_]
 exists 0;show aq ?_;walk_at "rd";show#[x,dx,_,rfl,hx,⋯,aq ?_];walk_at "rd";show#[x,dx,_,rfl,ay,by walk_at "f",aq ?_];walk_at "rd";show#[x,dx,_,rfl,ay,by walk_at "f",aq ?_];walk_at "rd";show#[x,dx,_,rfl,ay,by walk_at "f",aq ?_];walk_at "rd";show#[x,dx,_,rfl,ay,by walk_at "f",aq ?_];walk_at "rd";show#[x,dx,_,rfl,ay,by walk_at "f",aq ?_];simp only[mB];walk_at "rd";intro l1 h1;have n1:l1≠x:=fun e=>by rw[e,ay]at h1;cases h1
 have h1':H l1=none:=by rw[ah n1]at h1;show h1
 show#[x,dx,_,rfl,by rw[ah (ut n1),ay],by walk_at "f",fun l2 h2=>?_];have n2:l2≠x:=fun e=>by rw[e,ay]at h2;cases h2
 rw[ah n2]at h2;have n3:l2≠l1:=fun e=>by rw[e,ay]at h2;cases h2
 rw[ah n3,ah n2]at h2;show#[x,dx,_,rfl,by rw[ah (ut n2),ay],by walk_at "f",?_];show q l1 l2 _ h1' h2 (ut n3) n1 n2 (fun b b1 b2 b3=>?_) ?_ ?_ _ ?_ (fun f=>?_) ay
 ·rw[ah b1,ah b3,ah b1,ah b2,ah b1]
 ·rw[ah n1,ah (ut n3),ah n1,ay]
 ·rw[ah n2,ay]
 ·show tz (by (repeat (show cM ?_));show wS _) (lm 40)
 ·rfl
def Ue:T.uo.k P w mg base 1 (WM T.aP):=by
 show T.uo.F.ok RB (fun _ _ _ _ h=>fO h fun _ _=>rfl) fun ax A _ s H vs Q E hr h=>fO h fun x h=>?_;let⟨dx,hx,q⟩:=h;show#[_,((al (bM T.cO T.ur (ad 0) (db ae))
 (aj (bM T.cO T.wW (ad 0) bi)))).h,?_]
 exists 0;show aq ?_;walk_at "rd";show#[fits (),fun l hl=>?_];have n1:l≠x:=fun e=>by rw[e,hx]at hl;cases hl
 show#[x,dx,_,rfl,by rw[ah (ut n1)];show hx,⋯,?_];show#[x,dx,_,rfl,ay,by walk_at "f",?_];show q l _ hl n1 (fun b b1 b2=>?_) ?_ _ ?_ (fun f=>?_) ay
 ·rw[ah b1,ah b1,ah b2]
 ·rw[ah n1,ah n1,ay]
 ·show tz (cM (cM (wS _))) (show 0+1+1<=40 by decide)
 ·rfl
def RZ:T.uQ.k P w mg base 1 (Zv T.aV):=by
 show T.uQ.F.ok Yq (fun _ _ _ _ h=>dH h fun _ _ _=>rfl) fun ax A _ s H vs Q E hr h=>dH h fun x z h=>?_;let⟨a,i,t,dE,rfl,q⟩:=h;let⟨fs,hx,aS,sf⟩:=dE.o;show#[_,((aj (aN (JX (bf eD (ad 1) (am T.dX T.Ar (ad 0))) (am T.dX T.D1 (ad 0)) (am T.dX T.Bq (ad 0)))))).h,?_];exists 0;left;show(fI hx sf rfl ?_);dsimp only;unfold dj at q;by_cases e:z=t.ow
 ·rw[u8 e];rw[At e]at q;show bY (fI hx sf rfl q)
 ·rw[kt e];rw[wT e]at q;show bb (fI hx sf rfl q)
def He:T.oR.k P w mg base 3 (XQ T.aP T.aV):=by
 show T.oR.F.ok Jc (fun _ _ _ _ h=>Le h fun _ _ _ _ _ _ _=>rfl) fun ax A _ s H vs Q E hr h=>Le h fun x kd ow mi re tx h=>?_;let⟨dt,ml,rs,⟨⟨fs,c,hx,aS,sf⟩,iw⟩,df,q⟩:=h;show#[_,((al (kY T.cO T.wW lq (ad 0) bi)
  (al (aR 6 Jc.nd (cA (iI (K:=K) rfl) T.gz No (aa (am T.cO T.ur (ad 0)) ae)))
  (al (bj (gf GE GM lb (am T.cO T.ur (ad 0)) (aa (io T.Q9 (VH T) hr.m T.WJ T.uj.b .nil aw (aa (ad 6) (aa (ad 1) (aa (ad 2) (aa (ad 3) (aa (ad 4) (aa (ad 5) ae))))))) ae)))
  (aj (aN (ad 6))))))).h,?_]
 exists 1;have cX:ml≠x:=fun e=>by rw[e,hx]at iw;cases iw
 show aq ?_;walk_at "rd";show#[x,dt,fs,.int c,rfl,hx,(sf _).trans rfl,_,_,rfl,rfl,dt,fs,hx,∅,aq ?_];have cS:dz (az "changes" (.int (c+1)) fs) (uC ml (c+1)):=fun f=>by rw[(sf.put "changes" (.int (c+1))) f];rfl
 have iF:(az "changes" (.int (c+1)) fs).length<=41:=cM aS;have bJ:upd H x (.ins T.aP dt (az "changes" (.int (c+1)) fs)) x=!.ins T.aP dt (az "changes" (.int (c+1)) fs):=ay;have lX:upd H x (.ins T.aP dt (az "changes" (.int (c+1)) fs)) ml=!.lst rs:=by rw[ah cX];show iw
 have jw:Kp [x] H (upd H x (.ins T.aP dt (az "changes" (.int (c+1)) fs))):=fun b o hb e=>by rw[ah (fun z=>hb (by simp[z]))];show e
 have rF:∀ b,b≠x->upd H x (.ins T.aP dt (az "changes" (.int (c+1)) fs)) b=H b:=fun b hb=>ah hb;generalize upd H x (.ins T.aP dt (az "changes" (.int (c+1)) fs))=H1 at bJ lX jw rF ⊢;walk_at "rd";show#[x,dt,_,-ml,rfl,bJ,(cS _).trans rfl,?_];simp only[bB,lX];show aq ?_;walk_at "rd";show#[x,dt,_,-ml,rfl,bJ,(cS _).trans rfl,?_];simp only[lX];intro th dJ aU hdth rX;show#[dJ,ay,fun nm pl H2 bK bx hnp zf gW fr2 hnm2 hpl2 ks eG sk hth2=>#[rfl,?_]];have Fo:∀ b o,H1 b=!o->upd (upd H1 dJ (HO.own th)) th (HO.ins T.aV dJ []) b=!o:=fun b o e=>by
  rw[ah (bt e aU),ah (bt e hdth)];show e
 have FZ:∀ b o,H1 b=!o->H2 b=!o:=fun b o e=>by
  rw[fr2 b (bt e aU) (bt (Fo b o e) bK) (bt (Fo b o e) bx)];show Fo b o e
 have dn:∀ d,d≠th->upd (upd H1 dJ (HO.own th)) th (HO.ins T.aV dJ []) d=none->H1 d=none:=fun d n e=>by
  rw[ah n]at e;by_cases z:d=dJ
  ·rw[z,ay]at e;cases e
  ·rw[ah z]at e;show e
 have Nv:=dn nm zf bK;have NK:=dn pl gW bx;have Et:∀ d,H1 d=none->H d=none:=fun d e=>by rw[<- rF d (ut (bt bJ e))];show e
 simp only[FZ _ _ lX];show#[kb ∅,?_];show q th dJ nm pl ks _ (Et _ aU) (Et _ Nv) (Et _ NK) #[#[_,c+1,by rw[ah (ut cX)];show FZ _ _ bJ,?_,cS],ay] (by rw[ah (ut (bt lX aU))];show hth2) eG sk
  (by rw[ah (ut (bt lX Nv))];show hnm2) (by rw[ah (ut (bt lX NK))];show hpl2) (fun b o hb e=>?_)
 ·rw[gJ (u:=.int c) ((sf _).trans rfl)];show aS
 ·simp only[lv,sK,AT,_y]at hb;rw[ah hb.2];show FZ _ _ (jw b o (by simp[hb.1]) e)
def Gq:T.nU.k P w mg base 4 (Pw T.aP T.aV):=by
 show T.nU.F.ok Wm (fun _ _ _ _ h=>wA h fun _ _ _ _ _=>rfl) fun ax A _ s H vs Q E hr h=>wA h fun x ow mi re h=>?_;let⟨dt,ml,rs,at',df,q⟩:=h;let⟨fs,c,hx,aS,sf⟩:=at'.o;show#[_,((aj (aN (He*>T.oR (ad 0) (aa (dl (.str "folder") T.wR #[_,rfl]) (aa (ad 1) (aa (ad 2) (aa (ad 3) (aa ap ae))))))))).h,?_];exists 0;left;show#[x,dt,fs,rfl,hx,(sf _).trans rfl,dt,ml,rs,at',df,q]
def jT:aC P w K mg base (dh P w) 2 T.dU.f T.dU.d ["self","number"] (Jd T.aJ T.aP T.aV T.rJ):=by
 show T.dU.F.fG Zw (fun _ _ _ _ h=>yg h fun _ _ _=>rfl) fun ax A _ s H vs Q E hr h=>yg h fun x v h=>?_;let⟨AA,L,M,i,rfl,vW,q1,q2⟩:=h;let⟨fs,c,hx,aS,sf⟩:=i.t;show#[_,((al (aX (dZ (ge (da (cK (HN<$>T.lD (aa (ad 1) ae)))) (iN (da (BK uU Ii bi (ad 1) (cA (iI (K:=K) rfl) T.gz No (aa (am T.cO T.ur (ad 0)) ae))))))) (aj (BN Az rfl T.SX T.V7 (aa ap ae))) ce)
 (aj (aN (bv (bF (K:=K) rfl) (am T.cO T.ur (ad 0)) (ad 1)))))).h,?_]
 exists 0;right;show#[vW,?_];cases v with
 | int n =>
  simp only[Lg,Ja2,PP,_B];show oy (fun h0=>?_) (fun h0=>bY #[fits (),q2 fun j e=>?_])
  ·have h0':0<=n:=_h h0;show#[AA.t,_,_,-AA.ml,rfl,hx,(sf _).trans rfl,?_];simp only[bB,i.ml,pi,i.len];let⟨k,rfl⟩:=_r h0';by_cases hk:k < M.ts.length
   ·rw[u8 (show(k:Int) < (M.ts.length:Int) by omega)];show bb #[AA.t,_,_,-AA.ml,rfl,hx,(sf _).trans rfl,?_];simp only[bB,i.ml];have NY:k < L.length:=by rw[i.len];show hk
    rw[jR (xs:=L.map fun a=>V.ref a.th) (j:=k) (by rw[Da,sw NY];rfl)];show q1 k _ _ rfl (sw NY) (sw hk)
   ·rw[kt (show ¬ (k:Int) < (M.ts.length:Int) by omega)];show bY #[fits (),q2 fun j e=>?_];injection e with e;have:k=j:=∅
    rw[<- this];show hk
  ·injection e with e;show absurd (u8 (show(0:Int)<=n by omega)) h0
 | _=>show#[fits (),q2 fun k e=>by cases e]
section
variable {T:Tx K mg}{H:Hp}{A:Ad}{L:List Ta}{M:Hs}
def lE{k:Nat}{a:Ta}{t:Th}{Q:VK}{E:XK}(i:aH T.aJ T.aP T.aV H A L M)(ha:L[k]?=!a)(ht:M.ts[k]?=!t)(q:Q (-a.th) H):Jd T.aJ T.aP T.aV T.rJ [-A.t,.int (k:Int)] H Q E :=
 #[A,L,M,i,rfl,#[_,rfl],fun j a' t' e h1 h2=>by
  injection e with e;have:k=j:=∅
  subst this;rw[ha]at h1;cases h1;show q,fun h=>absurd (ss.mp ht).1 (h k rfl)]
def gn{k:Nat}{a:Ta}{t:Th}(i:aH T.aJ T.aP T.aV H A L M)(ha:L[k]?=!a)(ht:M.ts[k]?=!t):ot T.aV H a k t:=by
 let⟨a',e,h⟩:=i.th k t ht;rw[ha]at e;cases e;show h
end
def Kb:T.nY.k P w mg base 3 (Yk T.aJ T.aP T.aV Ad.t):=by
 show T.nY.F.ok Yt (fun _ _ _ _ h=>qM h fun _ _ _ _=>rfl) fun ax A _ s H vs Q E hr h=>qM h fun x n z h=>?_;let⟨AA,L,M,k,a,t,i,rfl,rfl,ha,aU,q⟩:=h;let⟨fs,c,hx,aS,sf⟩:=i.h;let⟨gs,c2,ht,eR,sg⟩:=i.t;have dE:=gn i ha aU;let⟨ks,ho,kD,so⟩:=dE.o;show#[_,((aj (aN (Kn (eC hr) (am T.dX T.zK (eJ T.cO T.dU.h (jT T) hr.m T.dU.b .nil fk (ad 0) (aa (ad 1) ae))) (ad 2))))).h,?_];exists 0;left;show(mI ht sg (lE i ha aU #[a.th,_,_,-a.nm,rfl,ho,(so _).trans rfl,a.nm,rfl,.inl #[_,.inl dE.nm],_,dN.k (k:=.inr z) dE.nm,q]))
def O2:T.sC.k P w mg base 3 (qA T.aJ T.aP T.aV Ad.t Ky):=by
 show T.sC.F.ok XO (fun _ _ _ _ h=>cN h fun _ _ _=>rfl) fun ax A _ s H vs Q E hr h=>cN h fun x n h=>?_;let⟨AA,L,M,k,a,t,i,rfl,rfl,ha,aU,q⟩:=h;let⟨fs,c,hx,aS,sf⟩:=i.h;let⟨gs,c2,ht,eR,sg⟩:=i.t;have dE:=gn i ha aU;let⟨ks,ho,kD,so⟩:=dE.o;show#[_,((aj (aN (Dv.minD rfl T.xO (am T.dX T.w8 (eJ T.cO T.dU.h (jT T) hr.m T.dU.b .nil fk (ad 0) (aa (ad 1) ae))))))).h,?_];exists 0;left;show(mI ht sg (lE i ha aU #[a.th,_,_,-a.pl,rfl,ho,(so _).trans rfl,a.pl,_,rfl,dE.pl,?_]));rcases q with ⟨e,q⟩ | ⟨f,z,e,q⟩
 ·rw[e];show .inl #[rfl,q]
 ·rw[e];show .inr #[_,_,rfl,q]
def tM:T.il.k P w mg base 3 (qA T.aJ T.aP T.aV Ad.a kZ):=by
 show T.il.F.ok RK (fun _ _ _ _ h=>cN h fun _ _ _=>rfl) fun ax A _ s H vs Q E hr h=>cN h fun x n h=>?_;let⟨AA,L,M,k,a,t,i,rfl,rfl,ha,aU,q⟩:=h;let⟨fs,c,hx,aS,sf⟩:=i.h;let⟨gs,c2,ht,eR,sg⟩:=i.t;have dE:=gn i ha aU;let⟨ks,ho,kD,so⟩:=dE.o;show#[_,((aj (aN (am T.dX T.D7 (eJ T.cO T.dU.h (jT T) hr.m T.dU.b .nil fk (am T.aK T.ie (ad 0)) (aa (ad 1) ae)))))).h,?_];exists 0;left;show#[AA.a,_,_,-AA.t,rfl,hx,(sf _).trans rfl,AA.t,_,_,rfl,ht,(sg _).trans rfl,lE i ha aU (fI ho so rfl q)]
def nI:T.fB.k P w mg base 4 (qA T.aJ T.aP T.aV Ad.a Ky):=by
 show T.fB.F.ok ZJ (fun _ _ _ _ h=>cN h fun _ _ _=>rfl) fun ax A _ s H vs Q E hr h=>cN h fun x n h=>?_;let⟨AA,L,M,k,a,t,i,rfl,rfl,ha,aU,q⟩:=h;let⟨fs,c,hx,aS,sf⟩:=i.h;let⟨gs,c2,ht,eR,sg⟩:=i.t;have dE:=gn i ha aU;let⟨ks,ho,kD,so⟩:=dE.o;show#[_,((aj (aN (O2*>T.sC (am T.aK T.ie (ad 0)) (aa (ad 1) ae))))).h,?_];exists 0;left;show#[AA.a,_,_,-AA.t,rfl,hx,(sf _).trans rfl,AA.t,_,_,rfl,ht,(sg _).trans rfl,AA,L,M,k,a,t,i,rfl,rfl,ha,aU,q]
def ZL:T.sT.k P w mg base 3 (qA T.aJ T.aP T.aV Ad.a SM):=by
 show T.sT.F.ok O9 (fun _ _ _ _ h=>cN h fun _ _ _=>rfl) fun ax A _ s H vs Q E hr h=>cN h fun x n h=>?_;let⟨AA,L,M,k,a,t,i,rfl,rfl,ha,aU,q⟩:=h;let⟨fs,c,hx,aS,sf⟩:=i.h;let⟨gs,c2,ht,eR,sg⟩:=i.t;have dE:=gn i ha aU;let⟨ks,ho,kD,so⟩:=dE.o;show#[_,((aj (bj (eJ T.cO T.dU.h (jT T) hr.m T.dU.b .nil fk (am T.aK T.ie (ad 0)) (aa (ad 1) ae))))).h,?_];exists 0;left;show#[AA.a,_,_,-AA.t,rfl,hx,(sf _).trans rfl,AA.t,_,_,rfl,ht,(sg _).trans rfl,lE i ha aU q]
section
variable {CH CS CT:Addr}{H:Hp}{A:Ad}{L:List Ta}{M:Hs}
def aH.uZ(i:aH CH CS CT H A L M){k:Nat}{a:Ta}(ha:L[k]?=!a):∀ b∈A.w,∀ c∈a.l,b≠c:=fun b hb c hc=>by
 have nd:=i.nd;rw[Db]at nd;show nd.2.2 b hb c (js ha hc)
def aH.aT(i:aH CH CS CT H A L M):A.a≠A.t:=by
 have nd:=i.nd;rw[Db]at nd;have:=(Gc.mp nd.1).1;show fun e=>this (by rw[e];simp)
def Jj:∀ {L:List Ta}{k:Nat}{a:Ta},(L.flatMap Ta.l).Nodup->L[k]?=!a->a.l.Nodup
 | c::r,0,a,nd,h=>by
  rw[TW,Db]at nd;simp only[List.getElem?_cons_zero,Option.some.injEq]at h;subst h;show nd.1
 | c::r,k+1,a,nd,h=>by
  rw[TW,Db]at nd;simp only[List.getElem?_cons_succ]at h;show Jj nd.2.1 h
def aH.own(i:aH CH CS CT H A L M){k:Nat}{a:Ta}(ha:L[k]?=!a):a.th≠a.nm/\a.th≠a.pl/\a.nm≠a.pl:=by
 have nd:=i.nd;rw[Db]at nd;have:=Jj nd.2.1 ha;simp only[Ta.l,Gc,lv,sK,AT,_y,not_false_eq_true,Jal,and_true]at this;show#[this.1.1,this.1.2,this.2]
end
def  Wy(CH CS CT:Addr):Sp:=yr fun x n z H Q _=>X6 fun A L M (k:Nat) a t=>A7 (aH CH CS CT H A L M) (A.t=x) (n=(k:Int)) (L[k]?=!a) (M.ts[k]?=!t) (aG (sD t.aO) (.inr z)=none) (Q .ao H)
def Va:T.uz.k P w mg base 4 (Wy T.aJ T.aP T.aV):=by
 show T.uz.F.ok Ht (fun _ _ _ _ h=>qM h fun _ _ _ _=>rfl) fun ax A _ s H vs Q E hr h=>qM h fun x n z h=>?_;let⟨AA,L,M,k,a,t,i,rfl,rfl,ha,aU,hv,q⟩:=h;let⟨gs,c2,ht,eR,sg⟩:=i.t;show#[_,((al (aR 3 Ht.nd (Kb*>T.nY (ad 0) (aa (ad 1) (aa (ad 2) ae))))
 (aj (aX (bf n8 (ad 3) ao) (al gp
 (al gp
 (aj gp))) ce)))).h,?_]
 exists 1;right;show(mI ht sg #[AA,L,M,k,a,t,i,rfl,rfl,ha,aU,?_]);rw[hv];show#[by trivial,?_];show bb q
def  U8(CH CS CT:Addr):Sp:=Jf fun x fn z kn H Q _=>X9 fun A L M (f:Nat) (k:Nat) af tf ak tk=>Cu (aH CH CS CT H A L M) (A.t=x) (fn=(f:Int)) (kn=(k:Int)) (L[f]?=!af) (M.ts[f]?=!tf) (L[k]?=!ak) (M.ts[k]?=!tk) (f≠k) (aG (sD tf.aO) (.inr z)=none) (tf.aO.length<=500) (tk.bZ=[]) (∀ H',aH CH CS CT H' A L { M with ts:=(M.ts.set f { tf with aO:=tf.aO++[(z,k)] }).set k { tk with bZ:=[(f,z)] } }->Kp [A.t,af.nm,ak.pl] H H'->Q .ao H')
def Dd{l:List (Str×Nat)}{z:Str}{k:Nat}(h:aG (sD l) (.inr z)=none):putK (sD l) (.inr z) (.int (k:Int))=sD (l++[(z,k)]):=by
 have e:((sD l).any fun kv=>decide (kv.1=(Sum.inr z:Key)))=false:=by rw[zN,h];rfl
 unfold putK;rw[e];simp[sD]
def W9:T.ue.k P w mg base 5 (U8 T.aJ T.aP T.aV):=by
 show T.ue.F.ok yk (fun _ _ _ _ h=>Ke h fun _ _ _ _ _=>rfl) fun ax A _ s H vs Q E hr h=>Ke h fun x fn z kn h=>?_;let⟨AA,L,M,f,k,af,tf,ak,tk,i,rfl,rfl,rfl,gS,cf,ja,eN,hfk,hv,eI,bx,q⟩:=h;let⟨fs,c,hx,aS,sf⟩:=i.h;let⟨gs,c2,ht,eR,sg⟩:=i.t;have Nd:=gn i ja eN;let⟨ks,ho,kD,so⟩:=Nd.o;show#[_,((al (aR 4 yk.nd (eJ T.cO T.dU.h (jT T) hr.m T.dU.b .nil fk (ad 0) (aa (ad 3) ae)))
 (al (kY T.cO T.wW lq (ad 0) bi)
 (al (bj (Va*>T.uz (ad 0) (aa (ad 1) (aa (ad 2) ae))))
 (al (aX (bf jg (am T.dX T.D7 (ad 4)) (dl (.str "file") T.Hu #[_,rfl])) (aj (ly FM rfl (iJ (K:=K) rfl (mj (ZR rfl) T.mx tq (aa (am T.dX T.w8 (ad 4)) ae))) (qS (K:=K) (n:=2) rfl rfl (iR (dm 5 yk.nd) (iR (dm 6 yk.nd) pR))) (aj gp))) ce)
 (al (nM (eC hr) (am T.dX T.zK (eJ T.cO T.dU.h (jT T) hr.m T.dU.b .nil fk (ad 0) (aa (ad 1) ae))) (ad 2) (ad 3))
 (aj (nM (eC hr) (am T.dX T.w8 (ad 4)) (dL (aa (ad 1) (aa (ad 2) ae))) em)))))))).h,?_]
 exists 3;right;show(mI ht sg (lE i ja eN ?_));right;show#[AA.t,_,_,.int c2,rfl,ht,(sg _).trans rfl,_,_,rfl,rfl,_,_,ht,∅,aq ?_];have tn:∀ b∈ak.l,AA.t≠b:=i.uZ ja _ (by simp[Ad.w]);have i1:aH T.aJ T.aP T.aV (upd H AA.t (.ins T.aP AA.dt (az "changes" (.int (c2+1)) gs))) AA L M:=by
  have w:=i.write (H':=upd H AA.t (.ins T.aP AA.dt (az "changes" (.int (c2+1)) gs))) (t':=tk) ja #[fs,c,by rw[ah i.aT];show hx,aS,sf] #[_,c2+1,ay,by rw[gJ (u:=.int c2) ((sg _).trans rfl)];show eR,fun f=>by rw[(sg.put "changes" (.int (c2+1))) f];rfl]
   (Nd.keep (W:=[AA.t]) (fun b o hb e=>by rw[ah (fun z=>hb (by simp[z]))];show e) fun b hb=>by simp[ut (tn b hb)]) (fun b o hb e=>by simp only[lv,sK,AT,_y]at hb;rw[ah hb.2.1];show e)
  have e:M.ts.set k tk=M.ts:=by
   apply List.ext_getElem?;intro j;by_cases hj:k=j
   ·subst hj;rw[P3 (ss.mp eN).1,eN]
   ·rw[Ps hj]
  rw[e]at w;show w
 have jw:Kp [AA.t] H (upd H AA.t (.ins T.aP AA.dt (az "changes" (.int (c2+1)) gs))):=fun b o hb e=>by rw[ah (fun z=>hb (by simp[z]))];show e
 generalize upd H AA.t (.ins T.aP AA.dt (az "changes" (.int (c2+1)) gs))=H1 at i1 jw ⊢;let⟨gs1,c3,pE,Na,Fn⟩:=i1.t;have NB:=gn i1 ja eN;have ithf1:=gn i1 gS cf;let⟨ks1,Nj,hol1,OB⟩:=NB.o;let⟨gU,hf1,iF,cS⟩:=ithf1.o;left;show(mI pE Fn #[AA,L,M,f,af,tf,i1,rfl,rfl,gS,cf,hv,?_]);show hJ (fun σ' H'=>ag H1 H'/\∃ t5 t6,σ'=[!V.ref AA.t,!V.int (f:Int),!V.str z,!V.int (k:Int),!-ak.th,t5,t6]) ?_ ?_
 ·left;show(fI Nj OB rfl ?_);show oy (fun _=>?_) (fun _=>#[ag.refl _,_,_,rfl]);show(fI Nj OB rfl ?_);have E3:H1 ak.pl=!.dT []:=by have:=NB.pl;rw[bx]at this;show this
  show#[ak.pl,_,rfl,E3,?_];intro l ks hk _ hl;have wc:ks=[]:=Pi.mp hk;subst wc;show#[#[_,aB.of ay],qR (xs:=[]) (fun _ σ' H'=>H'=upd H1 l (.lst [])/\σ'=[!V.ref AA.t,!V.int (f:Int),!V.str z,!V.int (k:Int),!-ak.th,none,none]) #[rfl,rfl] (fun _ σ' H' _ h=>by rw[h.1];show aB.of ay) (fun j x σ' H' hx _=>by simp at hx) (fun σ' H' h=>?_)];let⟨rfl,rfl⟩:=h;show#[ag.upd hl,_,_,rfl]
 ·rintro σ' H2 ⟨s2,t5,t6,rfl⟩;have i2:=i1.same s2;let⟨gs2,c4,nE,hgl2,Oa⟩:=i2.t;let⟨pB,d2,bT,hxl2,sx2⟩:=i2.h;have FU:=gn i2 gS cf;let⟨iB,MO,gT,cj⟩:=FU.o;have NO:=i2.own gS;have Nk:=i2.own ja;have NM:=i2.uZ gS;have MF:=i2.uZ ja;right;show(mI nE Oa (lE i2 gS cf #[af.th,_,_,-af.nm,rfl,MO,(cj _).trans rfl,af.nm,_,rfl,hV.k (k:=.inr z) FU.nm (kb (by unfold sD;rw[pi];omega)),?_]));rw[Dd hv];have i3:aH T.aJ T.aP T.aV (upd H2 af.nm (.dK (sD (tf.aO++[(z,k)])))) AA L { M with ts:=M.ts.set f { tf with aO:=tf.aO++[(z,k)] } }:=by
   show i2.write gS #[pB,d2,by rw[ah (NM _ (by simp[Ad.w]) _ (by simp[Ta.l]))];show bT,hxl2,sx2] #[gs2,c4,by rw[ah (NM _ (by simp[Ad.w]) _ (by simp[Ta.l]))];show nE,hgl2,Oa] #[#[iB,by rw[ah NO.1];show MO,gT,cj],ay,by rw[ah (ut NO.2.2)];show FU.pl] (fun b o hb e=>?_);simp only[lv,sK,AT,_y]at hb;rw[ah hb.2.2.2.1];show e
  have NA:Kp [AA.t,af.nm] H (upd H2 af.nm (.dK (sD (tf.aO++[(z,k)])))):=fun b o hb e=>by
   simp only[lv,sK,AT,_y]at hb;rw[ah hb.2];show s2 _ _ (jw b o (by simp[hb.1]) e)
  generalize upd H2 af.nm (.dK (sD (tf.aO++[(z,k)])))=H3 at i3 NA ⊢;have Oq:(M.ts.set f { tf with aO:=tf.aO++[(z,k)] })[k]?=!tk:=by rw[Ps hfk];show eN
  have ithk3:=gn i3 ja Oq;let⟨ks3,ho3,hol3,so3⟩:=ithk3.o;left;show#[ak.th,_,_,-ak.pl,rfl,ho3,(so3 _).trans rfl,fits (),fun p hp=>?_];show cI hp fun H4 s4 b4=>?_;have i4:=i3.same s4;have Eu:=gn i4 ja Oq;let⟨ks4,ho4,hol4,so4⟩:=Eu.o;let⟨gs4,c5,ht4,hgl4,sg4⟩:=i4.t;let⟨hs4,d4,jB,hxl4,sx4⟩:=i4.h;have hpl4:H4 ak.pl=!.dT []:=by have:=Eu.pl;rw[bx]at this;show this
  show#[ak.pl,_,rfl,hV.t (k:=[.inl (f:Int),.inr z]) hpl4 b4 ⋯,?_];show q _ (i4.write ja #[hs4,d4,by rw[ah (MF _ (by simp[Ad.w]) _ (by simp[Ta.l]))];show jB,hxl4,sx4] #[gs4,c5,by rw[ah (MF _ (by simp[Ad.w]) _ (by simp[Ta.l]))];show ht4,hgl4,sg4] #[#[ks4,by rw[ah Nk.2.1];show ho4,hol4,so4],by rw[ah Nk.2.2];show Eu.nm,ay] (fun b o hb e=>?_)) (fun b o hb e=>?_)
  ·simp only[lv,sK,AT,_y]at hb;rw[ah hb.2.2.2.2];show e
  ·simp only[lv,sK,AT,_y]at hb;rw[ah hb.2.2];show s4 _ _ (NA b o (by simp[hb.1,hb.2.1]) e)
def  Jt(CH:Addr)(fld:Str):Sp:=nG fun x z n H Q _=>X5 fun dx fs c d kvs=>A7 (H x=!.ins CH dx fs) (fs.length<=40) (fs.lookup ("changes":Str)=!.int c) (fs.lookup fld=!-d) (H d=!.dK kvs) (kvs.length<=40) (Q .ao (upd (upd H x (.ins CH dx (az "changes" (.int (c+1)) fs))) d (.dK (putK kvs (.inr z) (.int n)))))
def  Yp(CH:Addr):Sp:=g9 fun x z H Q _=>X7 fun dx fs c ro st kr ks=>LY (H x=!.ins CH dx fs) (fs.length<=40) (fs.lookup ("changes":Str)=!.int c) (fs.lookup ("roots":Str)=!-ro) (fs.lookup ("standings":Str)=!-st) (fs.lookup ("first_root":Str)=!.int 0) (fs.lookup ("put_root":Str)=none) (fs.lookup ("put_standing":Str)=none) (H ro=!.dK kr) (kr.length<=40) (H st=!.dK ks) (ks.length<=40) (ro≠st) (∀ fs' c' H',H' x=!.ins CH dx fs'->fs'.length<=40->dz fs' (az "changes" (.int c') fs)->H' ro=!.dK (putK kr (.inr z) (.int 0))->H' st=!.dK (putK ks (.inr z) (.int 0))->(∀ b,b≠x->b≠ro->b≠st->H' b=H b)->Q .ao H')
def Ym:T.tP.k P w mg base 1 (Jt T.aJ "roots"):=by
 show T.tP.F.ok YG (fun _ _ _ _ h=>gG h fun _ _ _ _=>rfl) fun ax A _ s H vs Q E hr h=>gG h fun x z n h=>?_;let⟨dx,fs,c,d,kvs,hx,aS,hc,hd,hD,eG,q⟩:=h;show#[_,((al (kY T.aK T.wq lq (ad 0) bi)
 (aj (nM (eC hr) (am T.aK T.vj (ad 0)) (ad 1) (ad 2))))).h,?_]
 exists 0;have cX:d≠x:=fun e=>by rw[e,hx]at hD;cases hD
 right;show#[x,dx,fs,.int c,rfl,hx,hc,_,_,rfl,rfl,dx,fs,hx,∅,?_];left;show#[x,dx,_,-d,rfl,ay,by rw[eO,wT ⋯];show hd,d,_,rfl,hV.k (k:=.inr z) (by rw[ah cX];show hD) (kb ∅),q]
def Pz:T.tV.k P w mg base 1 (Jt T.aJ "standings"):=by
 show T.tV.F.ok Xd (fun _ _ _ _ h=>gG h fun _ _ _ _=>rfl) fun ax A _ s H vs Q E hr h=>gG h fun x z n h=>?_;let⟨dx,fs,c,d,kvs,hx,aS,hc,hd,hD,eG,q⟩:=h;show#[_,((al (kY T.aK T.wq lq (ad 0) bi)
 (aj (nM (eC hr) (am T.aK T.Eh (ad 0)) (ad 1) (ad 2))))).h,?_]
 exists 0;have cX:d≠x:=fun e=>by rw[e,hx]at hD;cases hD
 right;show#[x,dx,fs,.int c,rfl,hx,hc,_,_,rfl,rfl,dx,fs,hx,∅,?_];left;show#[x,dx,_,-d,rfl,ay,by rw[eO,wT ⋯];show hd,d,_,rfl,hV.k (k:=.inr z) (by rw[ah cX];show hD) (kb ∅),q]
def Mj:T.ox.k P w mg base 2 (Yp T.aJ):=by
 show T.ox.F.ok Ql (fun _ _ _ _ h=>dH h fun _ _ _=>rfl) fun ax A _ s H vs Q E hr h=>dH h fun x z h=>?_;let⟨dx,fs,c,ro,st,kr,ks,hx,aS,hc,hro,aQ,fJ,pC,cH,E4,ph,EG,wc,MQ,q⟩:=h;show#[_,((al (bj (Ym<*T.tP (ad 0) (aa (ad 1) (aa (am T.aK T.AB (ad 0)) ae))))
 (aj (bj (Pz<*T.tV (ad 0) (aa (ad 1) (aa (am T.aK T.AB (ad 0)) ae))))))).h,?_]
 exists 0;have n1:ro≠x:=fun e=>by rw[e,hx]at E4;cases E4
 have n2:st≠x:=fun e=>by rw[e,hx]at EG;cases EG
 right;show#[x,dx,fs,rfl,hx,pC,x,dx,fs,.int 0,rfl,hx,fJ,?_];show#[dx,fs,c,ro,kr,hx,∅,hc,hro,E4,ph,?_];have bJ:upd (upd H x (.ins T.aJ dx (az "changes" (.int (c+1)) fs))) ro (.dK (putK kr (.inr z) (.int 0))) x=!.ins T.aJ dx (az "changes" (.int (c+1)) fs):=by rw[ah (ut n1),ay]
 have iz:upd (upd H x (.ins T.aJ dx (az "changes" (.int (c+1)) fs))) ro (.dK (putK kr (.inr z) (.int 0))) ro=!.dK (putK kr (.inr z) (.int 0)):=ay;have NP:upd (upd H x (.ins T.aJ dx (az "changes" (.int (c+1)) fs))) ro (.dK (putK kr (.inr z) (.int 0))) st=!.dK ks:=by rw[ah (ut MQ),ah n2];show EG
 have rF:∀ b,b≠x->b≠ro->upd (upd H x (.ins T.aJ dx (az "changes" (.int (c+1)) fs))) ro (.dK (putK kr (.inr z) (.int 0))) b=H b:=fun b b1 b2=>by rw[ah b2,ah b1]
 generalize upd (upd H x (.ins T.aJ dx (az "changes" (.int (c+1)) fs))) ro (.dK (putK kr (.inr z) (.int 0)))=H1 at bJ iz NP rF ⊢;have lk:∀ f:Str,f ≠ "changes" -> (az "changes" (.int (c+1)) fs).lookup f=fs.lookup f:=fun f hf=>by rw[eO,wT hf]
 left;show#[x,dx,_,rfl,bJ,(lk _ ⋯).trans cH,x,dx,_,.int 0,rfl,bJ,(lk _ ⋯).trans fJ,?_];show#[dx,_,c+1,st,ks,bJ,by rw[gJ hc];show aS,by rw[eO,At rfl],(lk _ ⋯).trans aQ,NP,wc,?_];show q _ (c+1+1) _ (by rw[ah (ut n2),ay]) (by rw[gJ (u:=.int (c+1)) (by rw[eO,At rfl]),gJ hc];show aS) (fun f=>?_) (by rw[ah MQ,ah n1];show iz) ay (fun b b1 b2 b3=>by rw[ah b3,ah b1];show rF b b1 b2);rw[eO,eO,eO];by_cases e:f = "changes"
 ·rw[At e,At e]
 ·rw[wT e,wT e,wT e]
def  UU(CH CS CT:Addr):Sp:=sI fun x m own H Q _=>A2 (m = "main") (X7 fun dx fs c t dt ml tr=>A9 (H x=!.ins CH dx fs) (fs.length<=40) (fs.lookup ("things":Str)=!-t) (fs.lookup ("changes":Str)=!.int c) (fs.lookup ("tree_roots":Str)=!-tr) (fs.lookup ("add_folder":Str)=none) (m7 CS H t dt ml []) (H tr=!.dK []) (∀ th dJ nm pl fs' ks c' H',H th=none->H nm=none->H pl=none->H' x=!.ins CH dx fs'->fs'.length<=fs.length->dz fs' (az "changes" (.int c') fs)->m7 CS H' t dt ml [-th]->H' th=!.ins CT dJ ks->ks.length<=40 ->
    dz ks (um (.int 0) (.str "folder") (.str own) (.str "lgw") (.str "lg") (.str "") (-nm) (-pl))->H' nm=!.dK []->H' pl=!.dT []->H' tr=!.dK [(.inr "main",.int 0)]->Kp [x,t,ml,tr] H H'->Q (.int 0) H'))
def Sd:T.uS.k P w mg base 5 (UU T.aJ T.aP T.aV):=by
 show T.uS.F.ok Mq (fun _ _ _ _ h=>mU h fun _ _ _ _=>rfl) fun ax A _ s H vs Q E hr h=>mU h fun x m own h=>?_;let⟨rfl,dx,fs,c,t,dt,ml,tr,hx,aS,aU,hc,dC,gS,EJ,kE,q⟩:=h;let⟨gs,d,ht,eR,sg⟩:=EJ.o;have iw:=EJ.ml;show#[_,((al (aR 3 Mq.nd (Gq*>T.nU (am T.aK T.ie (ad 0)) (aa (ad 2) (aa ap (aa ap ae)))))
 (al (kY T.aK T.wq lq (ad 0) bi)
 (al (nM (eC hr) (am T.aK T.u4 (ad 0)) (ad 1) (ad 3))
 (aj (aN (ad 3))))))).h,?_]
 exists 1;have n1:t≠x\/True:=.inr trivial;right;show#[x,dx,fs,-t,rfl,hx,aU,t,dt,gs,rfl,ht,(sg _).trans rfl,?_];show#[dt,ml,[],EJ,(),?_];intro th dJ nm pl ks H1 fth fnm fpl at1 hth1 hkl1 sk1 hnm1 E3 jw;let⟨gs',d',pE,Na,Fn⟩:=at1.o;have lX:=at1.ml;have y2:x≠t:=fun e=>by
  rw[e,ht]at hx;injection hx with hx;injection hx with _ _ fc;rw[<- fc]at aU;have:=(sg "things").symm.trans aU;cases this
 have Om:x≠ml:=fun e=>by rw[e,iw]at hx;cases hx
 have N7:tr≠t:=fun e=>by rw[e,ht]at kE;cases kE
 have OF:tr≠ml:=fun e=>by rw[e,iw]at kE;cases kE
 have MR:tr≠x:=fun e=>by rw[e,hx]at kE;cases kE
 have bJ:H1 x=!.ins T.aJ dx fs:=jw _ _ (by simp[y2,Om]) hx;have hTr1:H1 tr=!.dK []:=jw _ _ (by simp[N7,OF]) kE;right;show#[x,dx,fs,.int c,rfl,bJ,hc,_,_,rfl,rfl,dx,fs,bJ,∅,aq ?_];left;show#[x,dx,_,-tr,rfl,ay,by rw[eO,wT ⋯];show dC,tr,_,rfl,hV.k (k:=.inr "main") (by rw[ah MR];show hTr1) ⋯,?_];left;have old:∀ b o,H1 b=!o->b≠x->b≠tr->upd (upd H1 x (.ins T.aJ dx (az "changes" (.int (c+1)) fs))) tr (.dK (putK [] (.inr "main") (.int 0))) b=!o:=fun b o e b1 b2=>by rw[ah b2,ah b1];show e
 have NX:th≠x/\th≠tr:=#[ut (bt hx fth),ut (bt kE fth)];have N0:nm≠x/\nm≠tr:=#[ut (bt hx fnm),ut (bt kE fnm)];have MH:pl≠x/\pl≠tr:=#[ut (bt hx fpl),ut (bt kE fpl)];show q th dJ nm pl _ ks (c+1) _ fth fnm fpl (by rw[ah (ut MR),ay]) (_u (gJ hc)) (dz.refl _) #[#[gs',d',old _ _ pE (ut y2) (ut N7),Na,Fn],old _ _ lX (ut Om) (ut OF)] (old _ _ hth1 NX.1 NX.2) hkl1 sk1 (old _ _ hnm1 N0.1 N0.2) (old _ _ E3 MH.1 MH.2) ay ?_;intro b o hb e;simp only[lv,sK,AT,_y]at hb;show old _ _ (jw b o (by simp[hb.2.1,hb.2.2.1]) e) hb.1 hb.2.2.2
def oM:aC P w K mg base (dh P w) 1 T.fA.f T.fA.d ["self","asker"] (KI T.aJ T.aP T.aV T.rP):=by
 show T.fA.F.fG VS (fun _ _ _ _ h=>yg h fun _ _ _=>rfl) fun ax A _ s H vs Q E hr h=>yg h fun x v h=>?_;let⟨AA,L,M,i,rfl,⟨ty,cD⟩,q1,q2⟩:=h;let⟨fs,c,hx,aS,sf⟩:=i.h;show#[_,((aj (aX (dZ (ge (da (cK (cA kU T.fN fR (aa (ad 1) (aa (lz (.ty "str") T.qc qK rfl) ae))))) (iN (Hv (eC hr) (ad 1) (am T.aK T.vj (ad 0)))))) (aj (BN Az rfl T.YO T.WA (aa ap ae))) ce))).h,?_];exists 0;left;simp only[cD,DN cD];show#[yu _ rfl,?_];cases v with
 | str z =>
  simp only[xK,Ja2,PP,_B];show#[AA.a,_,_,-AA.ro,rfl,hx,(sf _).trans rfl,AA.ro,_,rfl,dN.k (k:=.inr z) i.ro,?_];cases hz:aG (sD M.ro) (.inr z) with
  | none=>show bY #[fits (),q2 fun z' e=>by cases e;show hz]
  | some u=>show bb (q1 z rfl (by rw[hz];rfl))
 | _=>show#[fits (),q2 fun z' e=>by cases e]
section
variable {T:Tx K mg}{H:Hp}{A:Ad}{L:List Ta}{M:Hs}
def qF{z:Str}{Q:VK}{E:XK}(i:aH T.aJ T.aP T.aV H A L M)(hz:(aG (sD M.ro) (.inr z)).isSome=true)(q:Q .ao H):KI T.aJ T.aP T.aV T.rP [-A.a,.str z] H Q E :=
 #[A,L,M,i,rfl,#[_,rfl],fun _ _ _=>q,fun h=>by rw[h z rfl]at hz;cases hz]
end
def oI:T.fF.k P w mg base 2 (YA T.aJ T.aP T.aV):=by
 show T.fF.F.ok Pe (fun _ _ _ _ h=>dH h fun _ _ _=>rfl) fun ax A _ s H vs Q E hr h=>dH h fun x z h=>?_;let⟨AA,L,M,r,i,rfl,hz,q⟩:=h;let⟨fs,c,hx,aS,sf⟩:=i.h;show#[_,((al (bj (eJ T.aK T.fA.h (oM T) hr.m T.fA.b .nil fk (ad 0) (aa (ad 1) ae)))
 (aj (aN (nR (eC hr) (am T.aK T.vj (ad 0)) (ad 1)))))).h,?_]
 exists 0;right;show(mI hx sf (qF i (by rw[hz];rfl) ?_));show#[AA.a,_,_,-AA.ro,rfl,hx,(sf _).trans rfl,AA.ro,.int r,rfl,?_,q];have:=dN.k (k:=.inr z) i.ro;rw[hz]at this;show this
def  aaK(CH CS CT:Addr):Sp:=g9 fun x z H Q _=>X4 fun A L M (r:Nat)=>A5 (aH CH CS CT H A L M) (A.a=x) ((aG (sD M.ro) (.inr z)).isSome=true) (aG (sD M.st) (.inr z)=!.int r) (Q (.int r) H)
def Jy:T.oF.k P w mg base 2 (aaK T.aJ T.aP T.aV):=by
 show T.oF.F.ok aas (fun _ _ _ _ h=>dH h fun _ _ _=>rfl) fun ax A _ s H vs Q E hr h=>dH h fun x z h=>?_;let⟨AA,L,M,r,i,rfl,hzr,hz,q⟩:=h;let⟨fs,c,hx,aS,sf⟩:=i.h;show#[_,((al (bj (eJ T.aK T.fA.h (oM T) hr.m T.fA.b .nil fk (ad 0) (aa (ad 1) ae)))
 (aj (aN (nR (eC hr) (am T.aK T.Eh (ad 0)) (ad 1)))))).h,?_]
 exists 0;right;show(mI hx sf (qF i hzr ?_));show#[AA.a,_,_,-AA.st,rfl,hx,(sf _).trans rfl,AA.st,.int r,rfl,?_,q];have:=dN.k (k:=.inr z) i.st;rw[hz]at this;show this
def B0:T.kN.k P w mg base 4 (Rl T.aJ T.aP T.aV):=by
 show T.kN.F.ok abn (fun _ _ _ _ h=>qM h fun _ _ _ _=>rfl) fun ax A _ s H vs Q E hr h=>qM h fun x n z h=>?_;let⟨AA,L,M,k,a,t,i,rfl,rfl,ha,aU,hn,hl,q⟩:=h;show#[_,((al (bj (zV<$>T.iQ (aa (ad 2) ae)))
 (aj (aN (Kb*>T.nY (am T.aK T.ie (ad 0)) (aa (ad 1) (aa (ad 2) ae))))))).h,?_]
 exists 0;right;show#[#[_,rfl],hl,hn,fun H1 s1=>?_];have i1:=i.same s1;let⟨fs,c,hx,aS,sf⟩:=i1.h;let⟨gs,c2,ht,eR,sg⟩:=i1.t;show#[AA.a,_,_,-AA.t,rfl,hx,(sf _).trans rfl,AA.t,_,_,rfl,ht,(sg _).trans rfl,AA,L,M,k,a,t,i1,rfl,rfl,ha,aU,q H1 s1]
def C4:aC P w K mg base (dh P w) 3 T.lQ.f T.lQ.d ["self","asker","number","right"] (J5 T.aJ T.aP T.aV T.rP T.vV T.rJ):=by
 show T.lQ.F.fG VC (fun _ _ _ _ h=>wA h fun _ _ _ _ _=>rfl) fun ax A _ s H vs Q E hr h=>wA h fun x wv v r h=>?_;let⟨AA,L,M,i,rfl,hcw,hcv,hcr,q1,q2⟩:=h;let⟨fs,c,hx,aS,sf⟩:=i.h;let⟨gs,c2,ht,eR,sg⟩:=i.t;show#[_,((al (bj (eJ T.aK T.fA.h (oM T) hr.m T.fA.b .nil fH (ad 0) (aa (ad 1) ae)))
 (al (bj (aaO<*>T.pU (aa (ad 3) ae)))
 (aj (aN (f8 (uu (K:=K) rfl) (ad 3) (bu T.dX T.uQ.h (RZ T) hr.m T.uQ.b .nil aw (eJ T.cO T.dU.h (jT T) hr.m T.dU.b .nil fH (am T.aK T.ie (ad 0)) (aa (ad 2) ae)) (aa (ad 1) ae)))))))).h,?_]
 exists 0;right;show(mI hx sf #[AA,L,M,i,rfl,hcw,fun z ez hz=>?_,q1]);let⟨q3,q4⟩:=q2 z ez hz;subst ez;right;show#[hcr,fun h1=>?_,q3];let⟨st,rfl⟩:∃ st,r=.str st:=by
  unfold jN at h1;simp only[Jac,_g]at h1;rcases h1 with (h1 | h1) | h1 <;> show#[_,h1]
 let⟨q5,q6⟩:=q4 st rfl h1;show#[AA.a,_,_,-AA.t,rfl,hx,(sf _).trans rfl,AA.t,_,_,rfl,ht,(sg _).trans rfl,AA,L,M,i,rfl,hcv,fun k a t ev ha aU=>?_,q5];have dE:=gn i ha aU;let⟨ks,ho,kD,so⟩:=dE.o;show(mI ho so #[a,k,t,dE,rfl,q6 k t ev aU])
def  M0(z:Str):Hs:={ ts:=[{ kd := "folder",ow:=z,mi := "lgw",re := "lg",tx := "",aO:=[],bZ:=[] }],ro:=[(z,0)],st:=[(z,0)],tr:=[("main",0)],ov:=[],un:=[] }
def  VR(CH CS CT:Addr):Sp:=g9 fun x z H Q _=>A4 (∃ dx,H x=!.ins CH dx []) (z.length<=1000) (fS (.str z)=true) (∀ A L H',A.a=x->aH CH CS CT H' A L (M0 z)->(∀ b∈A.w++L.flatMap Ta.l,b≠x->H b=none)->Kp [x] H H'->Q .ao H')
structure jm(H0:Hp)(x C dx:Addr)(m:Nat)(fs:List (Str×V))(ds:List (Addr×HO))(H:Hp):Prop where
 hx:H x=!.ins C dx fs
 n:fs.length<=m
 d:∀ p∈ds,H p.1=!p.2/\p.1≠x/\H0 p.1=none
 nd:(ds.map (·.1)).Nodup
 k:Kp [x] H0 H
section
variable {H0 H:Hp}{x C dx:Addr}{m:Nat}{fs:List (Str×V)}{ds:List (Addr×HO)}{f:Str}{u:TS}{D:Ends}{σ:St}
def jm.set{v:V}(j:jm H0 x C dx m fs ds H):jm H0 x C dx (m+1) (az f v fs) ds (upd H x (.ins C dx (az f v fs))) :=
 #[ay,cM j.n,fun p hp=>let ⟨a,b,c⟩:=j.d p hp;#[by rw[ah b];show a,b,c],j.nd,fun b o hb e=>by rw[ah (by simpa using hb)];show j.k b o hb e]
def jm.new{d:Addr}{o:HO}(j:jm H0 x C dx m fs ds H)(hd:H d=none):jm H0 x C dx m fs ((d,o)::ds) (upd H d o):=by
 have nx:=bt j.hx hd;show#[by rw[ah nx];show j.hx,j.n,fun p hp=>?_,Gc.mpr #[fun z=>?_,j.nd],fun b o hb e=>?_]
 ·rcases lv.mp hp with rfl | hp
  ·show#[ay,ut nx,ZB.mpr fun o e=>by have:=j.k d o (by simpa using ut nx) e;rw[hd]at this;cases this]
  ·let⟨a,b,c⟩:=j.d p hp;show#[by rw[ah (bt a hd)];show a,b,c]
 ·let⟨p,hp,e⟩:=Do.mp z;have:=(j.d p hp).1;rw[e,hd]at this;cases this
 ·have:=j.k b o hb e;rw[ah (bt this hd)];show this
def setC{v:V}(j:jm H0 x C dx m fs ds H)(hm:m < 40)(q:∀ H',jm H0 x C dx (m+1) (az f v fs) ds H'->u D (some (-x)::σ) H'):lK (oB C f (eX 0) (tC v)) u D (some (-x)::σ) H :=
 aq #[x,dx,_,rfl,j.hx,SZ j.n (Nat.lt_trans hm ⋯),q _ j.set]
def qw(j:jm H0 x C dx m fs ds H)(hm:m < 40)(q:∀ d H',jm H0 x C dx (m+1) (az f (-d) fs) ((d,.dK [])::ds) H'->u D (some (-x)::σ) H'):lK (oB C f (eX 0) yi) u D (some (-x)::σ) H :=
 aq fun d hd=>#[x,dx,_,rfl,(j.new hd).hx,SZ j.n (Nat.lt_trans hm ⋯),q d _ (j.new hd).set]
end
def WO:T.sL.k P w mg base 6 (VR T.aJ T.aP T.aV):=by
 show T.sL.F.ok VD (fun _ _ _ _ h=>dH h fun _ _ _=>rfl) fun ax A _ s H vs Q E hr h=>dH h fun x z h=>?_;let⟨⟨dx,OI⟩,me,hn,q⟩:=h;show#[_,((al (bj (zV<$>T.iQ (aa (ad 1) ae)))
 (al (bM T.aK T.ie (ad 0) (aaN T.aab (Ue T) hr.m T.aa7 T.uo.b .nil aw))
 (al (bM T.aK T.wq (ad 0) bi)
 (al (bM T.aK T.vj (ad 0) la)
 (al (bM T.aK T.Eh (ad 0) la)
 (al (bM T.aK T.u4 (ad 0) la)
 (al (bM T.aK T.AE (ad 0) la)
 (al (bM T.aK T.xT (ad 0) la)
 (al (bM T.aK T.Ug (ad 0) la)
 (al (bM T.aK T.VP (ad 0) bi)
 (al (bM T.aK T.AB (ad 0) (Sd<*T.uS (ad 0) (aa (dl (.str "main") T.aaB #[_,rfl]) (aa (ad 1) ae))))
 (aj (bj (Mj<*T.ox (ad 0) (aa (ad 1) ae)))))))))))))))).h,?_]
 exists 0;right;show#[#[_,rfl],me,hn,fun H1 s1=>?_];have bJ:=s1 _ _ OI;right;intro t dt ht r8 rX;show#[dt,ay,fun ml H2 iw yK fr2 hml2 gs eR sg nE=>#[rfl,?_]];have y2:x≠t:=bt bJ ht;have hml':H1 ml=none:=by
  rw[ah yK]at iw;by_cases e:ml=dt
  ·rw[e,ay]at iw;cases iw
  ·rw[ah e]at iw;show iw
 have s2:ag H1 H2:=fun b o e=>by
  rw[fr2 b (bt e ht) (bt e hml'),ah (bt e ht),ah (bt e r8)];show e
 have fr:∀ {b:Addr},H1 b=none->H b=none:=fun {b} h=>ZB.mpr fun o e=>by rw[s1 b o e]at h;cases h
 have j:jm H x T.aJ dx 0 [] [(t,.ins T.aP dt gs),(ml,.lst [])] H2:=#[s2 _ _ bJ,lm _,fun p hp=>(by
  simp only[lv,sK,AT]at hp;rcases hp with rfl | rfl
  ·show#[nE,ut y2,fr ht]
  ·show#[hml2,ut (bt bJ hml'),fr hml']),by simpa using ut yK,fun b o hb e=>s2 _ _ (s1 _ _ e)]
 show#[x,dx,_,rfl,j.hx,⋯,setC j.set ⋯ fun H4 j=>qw j ⋯ fun ro H5 j=>qw j ⋯ fun st H6 j=>qw j ⋯ fun tr H7 j=>qw j ⋯ fun ov H8 j=>qw j ⋯ fun un H9 j=>qw j ⋯ fun ho y1 j=>setC j ⋯ fun jA j=>aq ?_];clear fr2 s2 bJ ht iw r8 OI;have jd:=j.d;have nd:=j.nd;simp only[List.forall_mem_cons]at jd;simp only[Fr,_N,Gc,lv,sK,AT,_y]at nd;let⟨⟨gho,nho,fho⟩,⟨MD,Of,fun0⟩,⟨Oj,N6,fov⟩,⟨Ow,ntr,ftr⟩,⟨ME,Oo,fst0⟩,⟨Nu,NT,fro⟩,⟨gt,nt,ft⟩,⟨Np,yK,fml⟩,_⟩:=jd;have FJ:=j.hx;left;show#[x,dx,_,rfl,FJ,rfl,rfl,dx,_,0,t,dt,ml,tr,FJ,tz j.n ⋯,rfl,rfl,rfl,rfl,#[#[gs,0,gt,eR,sg],Np],Ow,?_];intro th dJ nm pl fs' ks c' H12 fth fnm fpl hxA hflA Es atA hthA hklA skA hnmA hplA htrA kpA;let⟨gs',d',htA,hglA,sgA⟩:=atA.o;have vK:∀ f:Str,f ≠ "first_root" -> f ≠ "changes" -> (az "first_root" (.int 0) fs').lookup f=List.lookup f _:=fun f h1 h2=>((eO ..).trans (wT h1)).trans ((Es f).trans ((eO ..).trans (wT h2)));have kp:∀ {b:Addr}{o:HO},b≠x->b≠t->b≠ml->b≠tr->jA b=!o->H12 b=!o:=fun {b o} h1 h2 h3 h4 e=>kpA b o (by simp[h1,h2,h3,h4]) e;let⟨⟨_,_,_,_,_,_,_⟩,⟨_,_,_,_,_,_⟩,⟨_,_,_,_,_⟩,⟨_,_,_,_⟩,⟨_,_,_⟩,⟨_,_⟩,_,_⟩:=nd;show#[x,dx,fs',rfl,hxA,by have:=j.n;omega,x,dx,_,rfl,ay,(vK _ ⋯ ⋯).trans rfl,dx,_,c',ro,st,[],[],ay,tz (cM (tz hflA j.n)) ⋯,by rw[eO,wT ⋯,Es,eO,At rfl],(vK _ ⋯ ⋯).trans rfl,(vK _ ⋯ ⋯).trans rfl,by rw[eO,At rfl],(vK _ ⋯ ⋯).trans rfl,(vK _ ⋯ ⋯).trans rfl,(ah NT).trans (kp NT ?_ ?_ ?_ Nu),⋯,(ah Oo).trans (kp Oo ?_ ?_ ?_ ME),⋯,?_,fun gZ c3 H13 hx13 fY dO hro3 hst3 yN=>?_]
 all_goals try (first | assumption | (show ut ?_;assumption))
 have old:∀ {b:Addr}{o:HO},b≠x->b≠ro->b≠st->H12 b=!o->H13 b=!o:=fun {b o} b1 b2 b3 e=>by rw[yN b b1 b2 b3,ah b1];show e
 have nn:∀ {b:Addr}{o:HO},jA b=!o->b≠th/\b≠nm/\b≠pl:=fun e=>#[bt e fth,bt e fnm,bt e fpl];have e1:=nn FJ;have e2:=nn gt;have e3:=nn Np;have e4:=nn Nu;have e5:=nn ME;have e6:=nn Ow;have e7:=nn Oj;have e8:=nn MD;have e9:th≠nm:=cT hthA hnmA (by nofun);have e10:th≠pl:=cT hthA hplA (by nofun);have e11:nm≠pl:=cT hnmA hplA (by nofun);show q #[x,dx,t,dt,ml,ro,st,tr,ov,un,ho] [#[th,dJ,nm,pl]] H13 rfl #[#[gZ,c3,hx13,fY,fun f=>((dO f).trans ((Es.put "first_root" (.int 0)).put "changes" (.int c3) f)).trans rfl],#[gs',d',old nt ?_ ?_ htA,hglA,sgA],old yK ?_ ?_ atA.ml,rfl,fun i tt e=>?_,hro3,hst3,old ntr ?_ ?_ htrA,old N6 ?_ ?_ (kp N6 ?_ ?_ ?_ Oj),old Of ?_ ?_ (kp Of ?_ ?_ ?_ MD),?_] (fun b hb vx=>?_) fun b o hb e=>?_
 all_goals try (first | assumption | (show ut ?_;assumption))
 ·obtain rfl:i=0:=Nat.lt_one_iff.mp (ss.mp e).1;cases e;show#[_,rfl,#[#[ks,old (ut e1.1) (ut e4.1) (ut e5.1) hthA,hklA,skA],old (ut e1.2.1) (ut e4.2.1) (ut e5.2.1) hnmA,old (ut e1.2.2) (ut e4.2.2) (ut e5.2.2) hplA]]
 ·change List.Nodup [x,t,ml,ro,st,tr,ov,un,th,nm,pl];simp only[Gc,lv,sK,AT,_y,not_false_eq_true,Jal,and_true]
  and_intros
  all_goals first | assumption | (show ut ?_;assumption) | simp[*]
 ·have hb':b∈[x,t,ml,ro,st,tr,ov,un,th,nm,pl]:=hb;have fz:jA b=none->H b=none:=fun h=>ZB.mpr fun o e=>by rw[j.k b o (by simpa using vx) e]at h;cases h
  simp only[lv,sK,AT]at hb';rcases hb' with rfl | rfl | rfl | rfl | rfl | rfl | rfl | rfl | rfl | rfl | rfl <;> first | assumption | show absurd rfl vx | show fz (by assumption)
 ·have vx:b≠x:=fun z=>hb (by simp[z]);show old vx (bt e fro) (bt e fst0) (kp vx (bt e ft) (bt e fml) (bt e ftr) (j.k b o hb e))
def  lC(M:Hs):Nat->Nat->Nat->Prop
 | 0,k,b=>aG (nD M.un) (.inl (k:Int))=none/\b=k
 | n+1,k,b=>∃ k':Nat,aG (nD M.un) (.inl (k:Int))=!.int (k':Int)/\lC M n k' b
def  ke(M:Hs):Nat->Nat->List Nat->Prop
 | 0,k,l=>aG (nD M.ov) (.inl (k:Int))=none/\l=[]
 | n+1,k,l=>∃ (k':Nat) (r:List Nat),aG (nD M.ov) (.inl (k:Int))=!.int (k':Int)/\ke M n k' r/\l=k'::r
def  dB(M:Hs)(k b:Nat)(r:List Nat):Prop:=(∃ n,lC M n k b)/\∃ n,ke M n b r/\n<=100
def ke.len{M:Hs}:∀ {n k:Nat}{l:List Nat},ke M n k l->l.length=n
 | 0,_,_,h=>by rw[h.2];rfl
 | n+1,_,_,h=>by let⟨k',r,_,h2,rfl⟩:=h;simp[h2.len]
abbrev nV(l:List Nat):List V:=l.map fun n:Nat=>V.int (n:Int)
def  dS(b:Nat)(r:List Nat):Nat:=(b::r).getLast ()
def  R5(CH CS CT:Addr):Sp:=jo fun x n H Q _=>X7 fun A L M (k:Nat) (b:Nat) a t=>A7 (aH CH CS CT H A L M) (A.a=x) (n=(k:Int)) (L[k]?=!a) (M.ts[k]?=!t) (∃ m,lC M m k b) (Q (.int (b:Int)) H)
def  ZT(CH CS CT:Addr):Sp:=jo fun x n H Q _=>X8 fun A L M (k:Nat) (b:Nat) r a t=>A7 (aH CH CS CT H A L M) (A.a=x) (n=(k:Int)) (L[k]?=!a) (M.ts[k]?=!t) (dB M k b r) (∀ l H',ag H H'->H l=none->H' l=!.lst (nV (b::r))->Q (-l) H')
def  Y6(CH CS CT:Addr):Sp:=jo fun x n H Q _=>X8 fun A L M (k:Nat) (b:Nat) r a t=>A7 (aH CH CS CT H A L M) (A.a=x) (n=(k:Int)) (L[k]?=!a) (M.ts[k]?=!t) (dB M k b r) (∀ H',ag H H'->Q (.int (dS b r:Nat)) H')
def Q7:T.qi.k P w base 4 (R5 T.aJ T.aP T.aV):=by
 show T.qi.F.ok BY (fun _ _ _ _ h=>cN h fun _ _ _=>rfl) fun ax A _ s H vs Q E hr h=>cN h fun x n h=>?_;let⟨AA,L,M,k,b,a,t,i,rfl,rfl,ha,aU,⟨m,hb⟩,q⟩:=h;let⟨fs,c,hx,aS,sf⟩:=i.h;show#[_,((al (bj (ZL<*T.sT (ad 0) (aa (ad 1) ae)))
 (al (aR 2 BY.nd (ad 1))
 (al (kX FM (CY (eC hr) (ad 2) (am T.aK T.xT (ad 0))) (aj (aR 2 BY.nd (nR (eC hr) (am T.aK T.xT (ad 0)) (ad 2)))))
 (aj (aN (ad 2))))))).h,?_]
 exists 1;right;show(mI hx sf #[AA,L,M,k,a,t,i,rfl,rfl,ha,aU,?_]);right;show aq #[fun m σ' H'=>∃ j:Nat,σ'=[!V.ref AA.a,!V.int (k:Int),!V.int (j:Int)]/\H'=H/\lC M m j b,#[m,k,rfl,rfl,hb],?_];rintro m σ' H' ⟨j,rfl,rfl,hj⟩;left;show#[AA.a,_,_,-AA.un,rfl,hx,(sf _).trans rfl,AA.un,_,rfl,dN.k (k:=.inl (j:Int)) i.un,?_];cases m with
 | zero =>
  let⟨h0,rfl⟩:=hj;rw[h0];show bb q
 | succ m =>
  let⟨k',h0,h1⟩:=hj;rw[h0];show bY #[fun σ' H''=>∃ j:Nat,σ'=[!V.ref AA.a,!V.int (k:Int),!V.int (j:Int)]/\H''=H'/\lC M m j b,fun σ' H' z=>#[m,GT m,z],?_];left;show#[AA.a,_,_,-AA.un,rfl,hx,(sf _).trans rfl,AA.un,.int (k':Int),rfl,?_,k',rfl,by trivial,h1];have:=dN.k (k:=.inl (j:Int)) i.un;rw[h0]at this;show this
def lG{a b:List Nat}:nV (a++b)=nV a++nV b:=Fa
def pV:T.eA.k P w base 5 (ZT T.aJ T.aP T.aV):=by
 show T.eA.F.ok KJ (fun _ _ _ _ h=>cN h fun _ _ _=>rfl) fun ax A _ s H vs Q E hr h=>cN h fun x n h=>?_;let⟨AA,L,M,k,b,r,a,t,i,rfl,rfl,ha,aU,⟨hb,⟨m,hu,hm⟩⟩,q⟩:=h;have hlen:=hu.len;show#[_,((al (aR 2 KJ.nd (db (aa (Q7<$>T.qi (aa (ad 0) (aa (ad 1) ae))) ae)))
 (al (kX FM (CY (eC hr) (bv (bF (K:=K) rfl) (ad 2) (im jJ bi)) (am T.aK T.AE (ad 0))) (aj (bj (gf GE GM lb (ad 2) (aa (nR (eC hr) (am T.aK T.AE (ad 0)) (bv (bF (K:=K) rfl) (ad 2) (im jJ bi))) ae)))))
 (aj (aN (ad 2)))))).h,?_]
 exists 1;right;show#[AA,L,M,k,b,a,t,i,rfl,rfl,ha,aU,hb,fits (),fun l hl=>?_];show cI hl fun H1 s1 b1=>?_;show aq #[fun m σ' H'=>ag H H'/\∃ (pre:List Nat) (j:Nat) (r':List Nat),σ'=[!V.ref AA.a,!V.int (k:Int),!V.ref l]/\H' l=!.lst (nV pre++[V.int (j:Int)])/\ke M m j r'/\pre++j::r'=b::r,#[m,s1,[],b,r,rfl,b1,hu,rfl],?_];rintro m σ' H' ⟨s',pre,j,r',rfl,hl',hj,hp⟩;have i1:=i.same s';let⟨fs,c,hx,aS,sf⟩:=i1.h;left;simp only[bB,hl',lS];show#[AA.a,_,_,-AA.ov,rfl,hx,(sf _).trans rfl,AA.ov,_,rfl,dN.k (k:=.inl (j:Int)) i1.ov,?_];cases m with
 | zero =>
  let⟨h0,rfl⟩:=hj;rw[h0];show bb (q l H' s' hl ?_);rw[hl',<- hp,lG];rfl
 | succ m =>
  let⟨k',r2,h0,h1,rfl⟩:=hj;rw[h0];show bY #[fun σ' H'=>ag H H'/\∃ (pre:List Nat) (j:Nat) (r':List Nat),σ'=[!V.ref AA.a,!V.int (k:Int),!V.ref l]/\H' l=!.lst (nV pre++[V.int (j:Int)])/\ke M m j r'/\pre++j::r'=b::r,fun σ' H' z=>#[m,GT m,z],?_];left;show#[AA.a,_,_,-AA.ov,rfl,hx,(sf _).trans rfl,AA.ov,.int (k':Int),rfl,?_,?_]
  ·have:=dN.k (k:=.inl (j:Int)) i1.ov;rw[h0]at this;show this
  have bx:(pre++[j]).length<=102:=by
   have:=On List.length hp;simp at this ⊢;omega
  show#[kb (by simp at bx ⊢;omega),s'.fE hl,pre++[j],k',r2,by trivial,?_,h1,?_]
  ·rw[ay,lG];rfl
  ·rw[<- hp];simp
def LN{b:Nat}{r:List Nat}:∃ pre,b::r=pre++[dS b r]:=#[(b::r).dropLast,by unfold dS;show(List.dropLast_concat_getLast ()).symm]
def wG:T.gd.k P w base 6 (Y6 T.aJ T.aP T.aV):=by
 show T.gd.F.ok Yo (fun _ _ _ _ h=>cN h fun _ _ _=>rfl) fun ax A _ s H vs Q E hr h=>cN h fun x n h=>?_;let⟨AA,L,M,k,b,r,a,t,i,rfl,rfl,ha,aU,hs,q⟩:=h;show#[_,((aj (aN (bv (bF (K:=K) rfl) (pV<$>T.eA (aa (ad 0) (aa (ad 1) ae))) (im jJ bi))))).h,?_];exists 0;left;show#[AA,L,M,k,b,r,a,t,i,rfl,rfl,ha,aU,hs,fun l H' s' _ hl=>?_];dsimp only;let⟨pre,hp⟩:=LN (b:=b) (r:=r);rw[hp,lG]at hl;simp only[bB,hl,Fr,_N,lS];show q _ s'
def  gr(r:Nat)(l:List Nat):Bool:=l.any (· == r)
def kO{r:Nat}:∀ {l:List Nat},ik (V.int (r:Int)) (nV l)=gr r l
 | []=>rfl
 | x::l=>by
  have ih:=kO (r:=r) (l:=l);unfold ik at ih ⊢;unfold gr at ih ⊢;simp only[nV,Fr,_j]at ih ⊢;rw[ih]
  congr 1
  unfold ff;by_cases e:x=r
  ·subst e;simp
  ·rw[FS.mpr e]
   first | show FS.mpr ∅ | (simp;omega)
def  lL(M:Hs)(L:List Ta)(root:Nat):Nat->Nat->Bool->Prop
 | n,k,v=>∃ b r a t,L[k]?=!a/\M.ts[k]?=!t/\dB M k b r /\
  if k=dS b r then
   if gr root (b::r)=true then v=true
   else ∃ ab tb,L[b]?=!ab/\M.ts[b]?=!tb/\((tb.bZ=[]/\v=false)\/∃ f z,tb.bZ=[(f,z)]/\match n with | 0=>False | n+1=>lL M L root n f v)
  else v=false
def  ZC(CH CS CT:Addr):Sp:=nG fun x z n H Q _=>X6 fun A L M (k:Nat) (root:Nat) v=>A6 (aH CH CS CT H A L M) (A.a=x) (n=(k:Int)) (aG (sD M.ro) (.inr z)=!.int (root:Int)) (∃ m,lL M L root m k v) (∀ H',ag H H'->Q (.bl v) H')
def Tu:T.rb.k P w base 6 (ZC T.aJ T.aP T.aV):=by
 show T.rb.F.ok nJ (fun _ _ _ _ h=>gG h fun _ _ _ _=>rfl) fun ax A _ s H vs Q E hr h=>gG h fun x z n h=>?_;let⟨AA,L,M,k,root,v,i,rfl,rfl,hz,⟨m,hm⟩,q⟩:=h;let⟨fs,c,hx,aS,sf⟩:=i.h;show bS (b:=aW zH) ((al (aR 3 nJ.nd (oI<*T.fF (ad 0) (aa (ad 1) ae)))
 (al (aR 4 nJ.nd (ad 2))
 (al (aR 5 nJ.nd (pV<$>T.eA (aa (ad 0) (aa (ad 4) ae))))
 (al (kX FM (bf eD (ad 4) (bv (bF (K:=K) rfl) (ad 5) (im jJ bi))) (al (aX (bf (uu (K:=K) rfl) (ad 3) (ad 5)) (aj (aN em)) ce)
 (al (aR 6 nJ.nd (nI<*T.fB (ad 0) (aa (bv (bF (K:=K) rfl) (ad 5) bi) ae)))
 (al (aX (bf rj (ad 6) ao) (aj (aN em)) ce)
 (al (aR 4 nJ.nd (bv (bF (K:=K) rfl) (ad 6) bi))
 (aj (aR 5 nJ.nd (pV<$>T.eA (aa (ad 0) (aa (ad 4) ae))))))))))
 (aj (aN em))))))) ?_
 exists 4;right;show(mI hx sf #[AA,L,M,root,i,rfl,hz,?_]);right;right;let⟨b,r,a,t,ha,ht,aQ,eg⟩:=(by unfold lL at hm;show hm:∃ b r a t,L[k]?=!a/\M.ts[k]?=!t/\dB M k b r/\_);show#[AA,L,M,k,b,r,a,t,i,rfl,rfl,ha,ht,aQ,fun l H1 s1 iZ hl=>?_];show aq #[fun m σ' H'=>ag H H'/\∃ (j:Nat) (l:Addr) (b:Nat) (r:List Nat) (pv:Option V),σ'=[!V.ref AA.a,!V.str z,!V.int (k:Int),!V.int (root:Int),!V.int (j:Int),!V.ref l,pv]/\H' l=!.lst (nV (b::r))/\dB M j b r /\
  (if j=dS b r then
   if gr root (b::r)=true then v=true
   else ∃ ab tb,L[b]?=!ab/\M.ts[b]?=!tb/\((tb.bZ=[]/\v=false)\/∃ f z,tb.bZ=[(f,z)]/\match m with | 0=>False | n+1=>lL M L root n f v)
  else v=false),#[m,s1,k,l,b,r,none,rfl,hl,aQ,eg],?_]
 clear eg ha ht aQ hl iZ s1 hm;rintro m σ' H' ⟨s',j,l,b,r,pv,rfl,hl,aQ,eg⟩;have i':=i.same s';let⟨pre,hp⟩:=LN (b:=b) (r:=r);have cB:=hl;rw[hp,lG]at cB;left;simp only[bB,cB,Fr,_N,lS];by_cases hj:j=dS b r
 ·rw[At hj]at eg;rw[u8 (by rw[hj])];show bY #[_,fun _ _ h=>h,?_];right;simp only[bB,hl];show#[rfl,by simp[cE],?_];rw[kO];cases iU:gr root (b::r) with
  | true =>
   rw[At iU]at eg;subst eg;show bY (q _ s')
  | false =>
   rw[wT (by rw[iU];nofun)]at eg;let⟨ab,tb,fW,m8,bx⟩:=eg;show bb ?_;show aq ?_;let⟨fs,c,hx,aS,sf⟩:=i'.h;left;simp only[bB,hl,nV,Fr,dv];show(mI hx sf #[AA,L,M,b,ab,tb,i',rfl,rfl,fW,m8,?_]);rcases bx with ⟨bx,rfl⟩ | ⟨f,zz,bx,hn⟩
   ·show .inl #[bx,?_];right;show#[by trivial,bY (q _ s')]
   ·show .inr #[f,zz,bx,fun p hp=>?_];right;show#[by trivial,?_];rw[kt (by nofun)];show bb ?_;right;simp only[bB,hp,dv];cases m with
    | zero=>show hn.elim
    | succ m =>
     let⟨b2,r2,a2,t2,FC,nE,rM,FE⟩:=(by unfold lL at hn;show hn:∃ b r a t,L[f]?=!a/\M.ts[f]?=!t/\dB M f b r/\_);show#[AA,L,M,f,b2,r2,a2,t2,i',rfl,rfl,FC,nE,rM,fun l2 H2 s2 iZ cB=>?_];show#[m,GT m,s'.trans s2,f,l2,b2,r2,!V.ref p,rfl,cB,rM,FE]
 ·rw[wT hj]at eg;rw[kt ∅];subst eg;show bb ?_;left;show q _ s'
abbrev z8(M:Hs):List Str:=iq (M.tr.map (·.1))
def  Qj(CH CS CT:Addr):Sp:=lM fun x H Q _=>X3 fun A L M=>A4 (aH CH CS CT H A L M) (A.a=x) (M.tr.length < 64) (∀ l,H l=none->Q (-l) (upd H l (.lst ((z8 M).map V.str))))
def  UL(CH CS CT:Addr):Sp:=g9 fun x z H Q _=>X3 fun A L M=>A4 (aH CH CS CT H A L M) (A.a=x) ((aG (sD M.tr) (.inr z)).isSome=true) (Q .ao H)
def  QD(CH CS CT:Addr):Sp:=g9 fun x z H Q _=>X4 fun A L M (r:Nat)=>A4 (aH CH CS CT H A L M) (A.a=x) (aG (sD M.tr) (.inr z)=!.int (r:Int)) (Q (.int (r:Int)) H)
def  Pc(CH CS CT:Addr):Sp:=g9 fun x z H Q _=>X4 fun A L M (r:Nat)=>A4 (aH CH CS CT H A L M) (A.a=x) (aG (sD M.tr) (.inr z)=!.int (r:Int)) (Q ((aG (nD M.un) (.inl (r:Int))).getD .ao) H)
def D6:T.lA.k P w mg base 1 (Qj T.aJ T.aP T.aV):=by
 show T.lA.F.ok Rg (fun _ _ _ _ h=>fO h fun _ _=>rfl) fun ax A _ s H vs Q E hr h=>fO h fun x h=>?_;let⟨AA,L,M,i,rfl,hl,q⟩:=h;let⟨fs,c,hx,aS,sf⟩:=i.h;show#[_,((aj (aN (cA (Qr (K:=K) rfl rfl) T.Vr Zo (aa (am T.aK T.u4 (ad 0)) ae))))).h,?_];exists 0;left;show#[AA.a,_,_,-AA.tr,rfl,hx,(sf _).trans rfl,.inr (.inl #[AA.tr,_,M.tr.map (·.1),rfl,i.tr,by unfold sD;rw[SL,SL];rfl,by rw[pi];show hl,q])]
def ZV:T.uG.k P w mg base 1 (UL T.aJ T.aP T.aV):=by
 show T.uG.F.ok PX (fun _ _ _ _ h=>dH h fun _ _ _=>rfl) fun ax A _ s H vs Q E hr h=>dH h fun x z h=>?_;let⟨AA,L,M,i,rfl,hz,q⟩:=h;let⟨fs,c,hx,aS,sf⟩:=i.h;show#[_,((aj (aX (dZ (ge (da (cK (cA kU T.fN fR (aa (ad 1) (aa (lz (.ty "str") T.qc qK rfl) ae))))) (iN (Hv (eC hr) (ad 1) (am T.aK T.u4 (ad 0)))))) (aj gp) ce))).h,?_];exists 0;left;show#[(),?_];rw[show(Bool.not (uF "str" "str"))=false from by symm];show bb ?_;show#[AA.a,_,_,-AA.tr,rfl,hx,(sf _).trans rfl,AA.tr,_,rfl,dN.k (k:=.inr z) i.tr,?_];rw[hz];show bb q
def Mp:T.oA.k P w mg base 2 (QD T.aJ T.aP T.aV):=by
 show T.oA.F.ok XX (fun _ _ _ _ h=>dH h fun _ _ _=>rfl) fun ax A _ s H vs Q E hr h=>dH h fun x z h=>?_;let⟨AA,L,M,r,i,rfl,hz,q⟩:=h;let⟨fs,c,hx,aS,sf⟩:=i.h;show#[_,((al (bj (ZV<*T.uG (ad 0) (aa (ad 1) ae)))
 (aj (aN (nR (eC hr) (am T.aK T.u4 (ad 0)) (ad 1)))))).h,?_]
 exists 0;right;show(mI hx sf #[AA,L,M,i,rfl,by rw[hz];rfl,?_]);show#[AA.a,_,_,-AA.tr,rfl,hx,(sf _).trans rfl,AA.tr,.int r,rfl,?_,q];have:=dN.k (k:=.inr z) i.tr;rw[hz]at this;show this
def Lu:T.oS.k P w mg base 3 (Pc T.aJ T.aP T.aV):=by
 show T.oS.F.ok WE (fun _ _ _ _ h=>dH h fun _ _ _=>rfl) fun ax A _ s H vs Q E hr h=>dH h fun x z h=>?_;let⟨AA,L,M,r,i,rfl,hz,q⟩:=h;let⟨fs,c,hx,aS,sf⟩:=i.h;show#[_,((aj (aN (Kn (eC hr) (am T.aK T.xT (ad 0)) (Mp<*T.oA (ad 0) (aa (ad 1) ae)))))).h,?_];exists 0;left;show#[AA.a,_,_,-AA.un,rfl,hx,(sf _).trans rfl,AA.un,rfl,.inl #[_,.inl i.un],AA.a,_,_,rfl,hx,(sf _).trans rfl,AA,L,M,r,i,rfl,hz,_,dN.k (k:=.inl (r:Int)) i.un,q]
section
variable {CH CS CT:Addr}{H H':Hp}{A:Ad}{L:List Ta}{M:Hs}
end
def  zB(C:Addr)(f1 f2:Str):Sp:=Bp fun x v1 v2 H Q _=>X1 fun dx=>A2 (H x=!.ins C dx []) (Q .ao (upd H x (.ins C dx (az f2 v2 (az f1 v1 [])))))
def Xv:T.ui.k P w mg base 1 (zB T.dY "number" "way"):=by
 show T.ui.F.ok abm (fun _ _ _ _ h=>mZ h fun _ _ _ _=>rfl) fun ax A _ s H vs Q E hr h=>mZ h fun x v1 v2 h=>?_;let⟨dx,hx,q⟩:=h;show#[_,((al (bM T.jl T.Cf (ad 0) (ad 1))
 (aj (bM T.jl T.F9 (ad 0) (ad 2))))).h,?_]
 exists 0;right;show#[x,dx,_,rfl,hx,⋯,?_];show#[x,dx,_,rfl,ay,by walk_at "f",?_];rw[mB];show q
def YQ:T.uV.k P w mg base 1 (zB T.l8 "folder" "name"):=by
 show T.uV.F.ok Vb (fun _ _ _ _ h=>mZ h fun _ _ _ _=>rfl) fun ax A _ s H vs Q E hr h=>mZ h fun x v1 v2 h=>?_;let⟨dx,hx,q⟩:=h;show#[_,((al (bM T.nO T.xQ (ad 0) (ad 1))
 (aj (bM T.nO T.zX (ad 0) (ad 2))))).h,?_]
 exists 0;right;show#[x,dx,_,rfl,hx,⋯,?_];show#[x,dx,_,rfl,ay,by walk_at "f",?_];rw[mB];show q
def Xf:T.tL.k P w mg base 1 (zB T.ef "step" "reason"):=by
 show T.tL.F.ok Qs (fun _ _ _ _ h=>mZ h fun _ _ _ _=>rfl) fun ax A _ s H vs Q E hr h=>mZ h fun x v1 v2 h=>?_;let⟨dx,hx,q⟩:=h;show#[_,((al (bM T.jS T.JE (ad 0) (ad 1))
 (aj (bM T.jS T.Ja (ad 0) (ad 2))))).h,?_]
 exists 0;right;show#[x,dx,_,rfl,hx,⋯,?_];show#[x,dx,_,rfl,ay,by walk_at "f",?_];rw[mB];show q
def  su(h:Addr)(z:Str)(last:Bool)(root here:Int)(place:V)(step:Int)(av lf rd:Addr)(lr lu:Int)(told:V):List (Str×V):=[("house",-h),("asker",.str z),("last",.bl last),("root",.int root),("here",.int here),("place",place),("step",.int step),("asked",-av),("left",-lf),("reading",-rd),("leads_read",.int lr),("looked_up",.int lu),("told",told)]
structure Ws where
 here:Nat
 place:Option (Nat×Str)
 step:Nat
 asked:List Nat
 left:List (Sum Nat Str)
 aI:List Nat
 read:Nat
 look:Nat
def  dR:Sum Nat Str->V
 | .inl n=>.int (n:Int)
 | .inr z=>.str z
def  jF(H0 H:Hp):Option (Nat×Str)->V->Prop
 | none,v=>v=.ao
 | some (k,nm),v=>∃ p,v=-p/\H0 p=none/\H p=!.tup [.int (k:Int),.str nm]
structure Cn where
 CH:Addr
 CS:Addr
 CT:Addr
 CW:Addr
 CF:Addr
 CG:Addr
 CR:Addr
 CN:Addr
 CD:Addr
 CE:Addr
abbrev Tx.cn(T:Tx K mg):Cn:=#[T.aJ,T.aP,T.aV,T.bD,T.ef,T.dY,T.dF,T.sj,T.rD,T.l8]
structure Wd where
 L:List Ta
 M:Hs
 z:Str
 last:Bool
 root:Nat
structure Wc extends Wd where
 H0:Hp
 A:Ad
 x:Addr
 dx:Addr
 av:Addr
 rd:Addr
structure aY(N:Cn)(c:Wc)(S:Ws)(H:Hp)(lf:Addr)(told:V):Prop where
 i:aH N.CH N.CS N.CT c.H0 c.A c.L c.M
 s:ag c.H0 H
 x0:c.H0 c.x=none
 a0:c.H0 c.av=none
 l0:c.H0 lf=none
 r0:c.H0 c.rd=none
 o:∃ fs pv,H c.x=!.ins N.CW c.dx fs/\fs.length<=40/\jF c.H0 H S.place pv/\dz fs (su c.A.a c.z c.last c.root S.here pv S.step c.av lf c.rd S.read S.look told)
 oa:H c.av=!.lst (nV S.asked)
 ol:H lf=!.lst (S.left.map dR)
 od:H c.rd=!.lst (nV S.aI)
 n1:c.av≠lf
 n2:c.av≠c.rd
 n3:lf≠c.rd
 hz:aG (sD c.M.ro) (.inr c.z)=!.int (c.root:Int)
section
variable {N:Cn}{c:Wc}{S:Ws}{H0 H H':Hp}{lf:Addr}{told:V}
def jF.same{p:Option (Nat×Str)}{v:V}(h:jF H0 H p v)(s:ag H H'):jF H0 H' p v:=by
 match p,h with
 | none,h=>show h
 | some (k,nm),⟨q,e,e0,e1⟩=>show#[q,e,e0,s _ _ e1]
def aY.same(v:aY N c S H lf told)(s:ag H H'):aY N c S H' lf told :=
 #[v.i,v.s.trans s,v.x0,v.a0,v.l0,v.r0,let ⟨fs,pv,e,l,p,f⟩:=v.o;#[fs,pv,s _ _ e,l,p.same s,f],s _ _ v.oa,s _ _ v.ol,s _ _ v.od,v.n1,v.n2,v.n3,v.hz]
def aY.m(v:aY N c S H lf told):aH N.CH N.CS N.CT H c.A c.L c.M:=v.i.same v.s
def aY.xa(v:aY N c S H lf told):c.x≠c.av/\c.x≠lf/\c.x≠c.rd:=by
 let⟨fs,pv,e,_⟩:=v.o;show#[cT e v.oa (by nofun),cT e v.ol (by nofun),cT e v.od (by nofun)]
def jF.put{p:Option (Nat×Str)}{v:V}{fs:List (Str×V)}{x dx CW:Addr}(h:jF H0 H p v)(hx:∃ gs,H x=!.ins CW dx gs):jF H0 (upd H x (.ins CW dx fs)) p v:=by
 match p,h with
 | none,h=>show h
 | some (k,nm),⟨q,e,e0,e1⟩ =>
  let⟨gs,hx⟩:=hx;show#[q,e,e0,by rw[ah (ut (cT hx e1 (by nofun)))];show e1]
def aY.put(f:Str)(u:V)(S':Ws)(told':V)(v:aY N c S H lf told)(w:V)(hw:∀ pv,List.lookup f (su c.A.a c.z c.last c.root S.here pv S.step c.av lf c.rd S.read S.look told)=!w:=by show fun _=>rfl)(hp:S'.place=S.place:=by rfl)(ha:S'.asked=S.asked:=by rfl)(hl:S'.left=S.left:=by rfl)(hr:S'.aI=S.aI:=by rfl)(e:∀ pv g,List.lookup g (az f u (su c.A.a c.z c.last c.root S.here pv S.step c.av lf c.rd S.read S.look told))=List.lookup g (su c.A.a c.z c.last c.root S'.here pv S'.step c.av lf c.rd S'.read S'.look told'):=by show fun _ _=>rfl) :
  ∃ fs,H c.x=!.ins N.CW c.dx fs/\fs.length < 1000/\List.lookup f fs=!w/\aY N c S' (upd H c.x (.ins N.CW c.dx (az f u fs))) lf told':=by
 let⟨fs,pv,e1,l,p,sf⟩:=v.o;have hf:List.lookup f fs=!w:=(sf f).trans (hw pv);show#[fs,e1,∅,hf,#[v.i,v.s.fE v.x0,v.x0,v.a0,v.l0,v.r0,#[_,pv,ay,by rw[gJ hf];show l,by rw[hp];show p.put #[fs,e1],fun g=>((sf.put f u) g).trans (e pv g)],by rw[ah (ut v.xa.1),ha];show v.oa,by rw[ah (ut v.xa.2.1),hl];show v.ol,by rw[ah (ut v.xa.2.2),hr];show v.od,v.n1,v.n2,v.n3,v.hz]]
def jF.off{p:Option (Nat×Str)}{v:V}{y:Addr}{o o':HO}(h:jF H0 H p v)(hy:H y=!o)(ht:∀ xs,o≠.tup xs):jF H0 (upd H y o') p v:=by
 match p,h with
 | none,h=>show h
 | some (k,nm),⟨q,e,e0,e1⟩ =>
  show#[q,e,e0,?_];rw[ah (fun z=>?_)]
  ·show e1
  ·rw[z,hy]at e1;show ht _ (Id e1)
def aY.off{y:Addr}{o o':HO}(v:aY N c S H lf told)(y0:c.H0 y=none)(hy:H y=!o)(nx:c.x≠y)(na:c.av≠y)(nl:lf≠y)(nr:c.rd≠y)(ht:∀ xs,o≠.tup xs):aY N c S (upd H y o') lf told:=by
 let⟨gs,pv,e,l,p,f⟩:=v.o;show#[v.i,v.s.fE y0,v.x0,v.a0,v.l0,v.r0,#[gs,pv,by rw[ah nx];show e,l,p.off hy ht,f],by rw[ah na];show v.oa,by rw[ah nl];show v.ol,by rw[ah nr];show v.od,v.n1,v.n2,v.n3,v.hz]
def aY.PU(v:aY N c S H lf told)(ks:List Nat):aY N c { S with asked:=ks } (upd H c.av (.lst (nV ks))) lf told:=by
 let⟨gs,pv,e,l,p,f⟩:=v.o;show#[v.i,v.s.fE v.a0,v.x0,v.a0,v.l0,v.r0,#[gs,pv,by rw[ah v.xa.1];show e,l,p.off v.oa (by nofun),f],ay,by rw[ah (ut v.n1)];show v.ol,by rw[ah (ut v.n2)];show v.od,v.n1,v.n2,v.n3,v.hz]
def aY.t8(v:aY N c S H lf told)(ts:List (Sum Nat Str)):aY N c { S with left:=ts } (upd H lf (.lst (ts.map dR))) lf told:=by
 let⟨gs,pv,e,l,p,f⟩:=v.o;show#[v.i,v.s.fE v.l0,v.x0,v.a0,v.l0,v.r0,#[gs,pv,by rw[ah v.xa.2.1];show e,l,p.off v.ol (by nofun),f],by rw[ah v.n1];show v.oa,ay,by rw[ah (ut v.n3)];show v.od,v.n1,v.n2,v.n3,v.hz]
def aY.Gj(v:aY N c S H lf told)(ks:List Nat):aY N c { S with aI:=ks } (upd H c.rd (.lst (nV ks))) lf told:=by
 let⟨gs,pv,e,l,p,f⟩:=v.o;show#[v.i,v.s.fE v.r0,v.x0,v.a0,v.l0,v.r0,#[gs,pv,by rw[ah v.xa.2.2];show e,l,p.off v.od (by nofun),f],by rw[ah v.n2];show v.oa,by rw[ah v.n3];show v.ol,ay,v.n1,v.n2,v.n3,v.hz]
def aY.Po(v:aY N c S H lf told)(k:Nat):aY N c { S with asked:=S.asked++[k] } (upd H c.av (.lst (nV S.asked++[.int (k:Int)]))) lf told:=by
 have:=v.PU (S.asked++[k]);rw[lG]at this;show this
def aY.Uv(v:aY N c S H lf told)(k:Nat):aY N c { S with aI:=S.aI++[k] } (upd H c.rd (.lst (nV S.aI++[.int (k:Int)]))) lf told:=by
 have:=v.Gj (S.aI++[k]);rw[lG]at this;show this
def aY.aa9(v:aY N c S H lf told)(k:Nat):aY N c { S with left:=S.left++[.inl k] } (upd H lf (.lst (S.left.map dR++[.int (k:Int)]))) lf told:=by
 have:=v.t8 (S.left++[.inl k]);rw[Fa]at this;show this
def aY.aac(v:aY N c S H lf told)(ts:List (Sum Nat Str)):aY N c { S with left:=S.left++ts } (upd H lf (.lst (S.left.map dR++ts.map dR))) lf told:=by
 have:=v.t8 (S.left++ts);rw[Fa]at this;show this
def aY.fresh{y:Addr}(v:aY N c S H lf told)(hy:H y=none):c.H0 y=none:=by
 cases e:c.H0 y with
 | none=>rfl
 | some o=>rw[v.s y o e]at hy;cases hy
def aY.RP{l:Addr}{ts:List (Sum Nat Str)}(v:aY N c S H lf told)(l0:c.H0 l=none)(hl:H l=!.lst (ts.map dR))(n1:c.av≠l)(n3:l≠c.rd):∃ fs,H c.x=!.ins N.CW c.dx fs/\fs.length < 1000/\aY N c { S with left:=ts } (upd H c.x (.ins N.CW c.dx (az "left" (-l) fs))) l told:=by
 let⟨fs,pv,e,le,p,f⟩:=v.o;have nx:c.x≠l:=cT e hl (by nofun);show#[fs,e,∅,#[v.i,v.s.fE v.x0,v.x0,v.a0,l0,v.r0,#[_,pv,ay,by rw[gJ (u:=-lf) ((f _).trans rfl)];show le,p.put #[fs,e],fun g=>((f.put "left" (-l)) g).trans rfl],by rw[ah (ut v.xa.1)];show v.oa,by rw[ah (ut nx)];show hl,by rw[ah (ut v.xa.2.2)];show v.od,n1,v.n2,n3,v.hz]]
def aY.fld(v:aY N c S H lf told):∃ fs pv,H c.x=!.ins N.CW c.dx fs/\fs.length < 1000/\dz fs (su c.A.a c.z c.last c.root S.here pv S.step c.av lf c.rd S.read S.look told):=by
 let⟨fs,pv,e,l,p,f⟩:=v.o;show#[fs,pv,e,∅,f]
def aY.placed{p:Addr}{k:Nat}{nm:Str}(v:aY N c S H lf told)(p0:c.H0 p=none)(hp:H p=!.tup [.int (k:Int),.str nm]):∃ fs,H c.x=!.ins N.CW c.dx fs/\fs.length < 1000/\aY N c { S with place:=some (k,nm) } (upd H c.x (.ins N.CW c.dx (az "place" (-p) fs))) lf told:=by
 let⟨fs,pv,e,l,_,f⟩:=v.o;show#[fs,e,∅,#[v.i,v.s.fE v.x0,v.x0,v.a0,v.l0,v.r0,#[_,-p,ay,by rw[gJ (u:=pv) ((f _).trans rfl)];show l,#[p,rfl,p0,by rw[ah (ut (cT e hp (by nofun)))];show hp],fun g=>((f.put "place" (-p)) g).trans rfl],by rw[ah (ut v.xa.1)];show v.oa,by rw[ah (ut v.xa.2.1)];show v.ol,by rw[ah (ut v.xa.2.2)];show v.od,v.n1,v.n2,v.n3,v.hz]]
end
def  aaZ(N:Cn):Sp:=LX fun x h z last H Q _=>X6 fun A L M dx H0 (root:Nat)=>A7 (aH N.CH N.CS N.CT H0 A L M) (A.a=h) (H x=!.ins N.CW dx []) (ag H0 H) (H0 x=none) (aG (sD M.ro) (.inr z)=!.int (root:Int)) (∀ av lf rd H',aY N #[#[L,M,z,last,root],H0,A,x,dx,av,rd] #[root,none,0,[],[],[],0,0] H' lf .ao->Q .ao H')
def UK:T.ua.k P w mg base 3 (aaZ T.cn):=by
 show T.ua.F.ok OX (fun _ _ _ _ h=>Kq h fun _ _ _ _ _=>rfl) fun ax A _ s H vs Q E hr h=>Kq h fun x hh z last h=>?_;let⟨AA,L,M,dx,H0,root,i,rfl,hx,s0,x0,hz,q⟩:=h;show bS (b:=aW Cp) ((al (bM T.aL T.fV (ad 0) (ad 1))
 (al (bM T.aL T.sx (ad 0) (ad 2))
 (al (bM T.aL T.G2 (ad 0) (ad 3))
 (al (bM T.aL T.sU (ad 0) (oI<*T.fF (ad 1) (aa (ad 2) ae)))
 (al (bM T.aL T.fL (ad 0) (am T.aL T.sU (ad 0)))
 (al (bM T.aL T.yz (ad 0) ao)
 (al (bM T.aL T.CK (ad 0) bi)
 (al (bM T.aL T.AY (ad 0) (db ae))
 (al (bM T.aL T.oE (ad 0) (db ae))
 (al (bM T.aL T.qO (ad 0) (db ae))
 (al (bM T.aL T.Cr (ad 0) bi)
 (al (bM T.aL T.Kg (ad 0) bi)
 (aj (bM T.aL T.mL (ad 0) ao))))))))))))))) ?_
 exists 0;right;show#[x,dx,_,rfl,hx,⋯,aq ?_];left;show#[x,dx,_,rfl,ay,by walk_at "f",aq ?_];left;show#[x,dx,_,rfl,ay,by walk_at "f",aq ?_];simp only[mB];left;have s1:=s0.fE (o:=.ins T.bD dx (az "last" (.bl last) (az "asker" (.str z) (az "house" (-AA.a) [])))) x0;have b1:upd H x (.ins T.bD dx (az "last" (.bl last) (az "asker" (.str z) (az "house" (-AA.a) [])))) x=!.ins T.bD dx (az "last" (.bl last) (az "asker" (.str z) (az "house" (-AA.a) []))):=ay;generalize upd H x (.ins T.bD dx (az "last" (.bl last) (az "asker" (.str z) (az "house" (-AA.a) []))))=H1 at s1 b1 ⊢;have i1:=i.same s1;let⟨fs,c,bJ,aS,sf⟩:=i1.h;show(mI bJ sf #[AA,L,M,root,i1,rfl,hz,?_]);show#[x,dx,_,rfl,b1,by walk_at "f",aq ?_];left;show#[x,dx,_,_,rfl,ay,rfl,x,dx,_,rfl,ay,by walk_at "f",aq ?_];left;show#[x,dx,_,rfl,ay,by walk_at "f",aq ?_];left;show#[x,dx,_,rfl,ay,by walk_at "f",aq ?_];simp only[mB];left;have Nt:dz (az "step" (.int 0) (az "place" .ao (az "here" (.int (root:Int)) (az "root" (.int (root:Int)) (az "last" (.bl last) (az "asker" (.str z) (az "house" (-AA.a) []))))))) [("house",-AA.a),("asker",.str z),("last",.bl last),("root",.int (root:Int)),("here",.int (root:Int)),("place",.ao),("step",.int 0)]:=fun f=>rfl;have MX:(az "step" (.int 0) (az "place" .ao (az "here" (.int (root:Int)) (az "root" (.int (root:Int)) (az "last" (.bl last) (az "asker" (.str z) (az "house" (-AA.a) []))))))).length<=10:=by (repeat (show cM ?_));show wS _
 generalize (az "step" (.int 0) (az "place" .ao (az "here" (.int (root:Int)) (az "root" (.int (root:Int)) (az "last" (.bl last) (az "asker" (.str z) (az "house" (-AA.a) [])))))))=F7 at Nt MX ⊢;have s2:=s1.fE (o:=.ins T.bD dx F7) x0;have b2:upd H1 x (.ins T.bD dx F7) x=!.ins T.bD dx F7:=ay;generalize upd H1 x (.ins T.bD dx F7)=H2 at s2 b2 ⊢;have cb:∀ {J:Hp}{d:Addr},ag H0 J->J d=none->H0 d=none:=fun {J d} k hn=>by
  cases e:H0 d with
  | none=>rfl
  | some o=>rw[k d o e]at hn;cases hn
 show#[fits (),fun av fX=>?_];show#[x,dx,_,rfl,by rw[ah (bt b2 fX)];show b2,∅,aq ?_];let⟨b3,o3,old3,n3⟩:=Bl (o:=.lst []) (O:=.ins T.bD dx (az "asked" (-av) F7)) fX b2;have s3:=(s2.trans (ag.upd (o:=.lst []) fX)).fE (o:=.ins T.bD dx (az "asked" (-av) F7)) x0;have av0:=cb s2 fX;generalize upd (upd H2 av (.lst [])) x (.ins T.bD dx (az "asked" (-av) F7))=H3 at b3 o3 old3 s3 ⊢;left;show#[fits (),fun lf l7=>?_];have l1:(az "asked" (-av) F7).length<=11:=cM MX;show#[x,dx,_,rfl,by rw[ah (bt b3 l7)];show b3,∅,aq ?_];let⟨b4,o4,Nz,n4⟩:=Bl (o:=.lst []) (O:=.ins T.bD dx (az "left" (-lf) (az "asked" (-av) F7))) l7 b3;have s4:=(s3.trans (ag.upd (o:=.lst []) l7)).fE (o:=.ins T.bD dx (az "left" (-lf) (az "asked" (-av) F7))) x0;have lf0:=cb s3 l7;have EM:av≠lf:=bt o3 l7;have Fi:=Nz av _ n3 o3;generalize upd (upd H3 lf (.lst [])) x (.ins T.bD dx (az "left" (-lf) (az "asked" (-av) F7)))=H4 at b4 o4 Nz s4 Fi ⊢;left;show#[fits (),fun rd gP=>?_];have l2:(az "left" (-lf) (az "asked" (-av) F7)).length<=12:=cM l1;show#[x,dx,_,rfl,by rw[ah (bt b4 gP)];show b4,∅,aq ?_];let⟨b5,o5,E9,n5⟩:=Bl (o:=.lst []) (O:=.ins T.bD dx (az "reading" (-rd) (az "left" (-lf) (az "asked" (-av) F7)))) gP b4;have s5:=(s4.trans (ag.upd (o:=.lst []) gP)).fE (o:=.ins T.bD dx (az "reading" (-rd) (az "left" (-lf) (az "asked" (-av) F7)))) x0;have NU:=E9 av _ n3 Fi;have OC:=E9 lf _ n4 o4;have rd0:=cb s4 gP;have nar:av≠rd:=bt Fi gP;have Ez:lf≠rd:=bt o4 gP;generalize upd (upd H4 rd (.lst [])) x (.ins T.bD dx (az "reading" (-rd) (az "left" (-lf) (az "asked" (-av) F7))))=H5 at b5 o5 E9 s5 NU OC ⊢;have l3:(az "reading" (-rd) (az "left" (-lf) (az "asked" (-av) F7))).length<=13:=cM l2;left;show#[x,dx,_,rfl,b5,∅,aq ?_];have l4:(az "leads_read" (.int 0) (az "reading" (-rd) (az "left" (-lf) (az "asked" (-av) F7)))).length<=14:=cM l3;left;show#[x,dx,_,rfl,ay,∅,?_];have l5:(az "looked_up" (.int 0) (az "leads_read" (.int 0) (az "reading" (-rd) (az "left" (-lf) (az "asked" (-av) F7))))).length<=15:=cM l4;show#[x,dx,_,rfl,ay,∅,?_];simp only[mB];show q av lf rd _ #[i,s5.fE x0,x0,av0,lf0,rd0,#[_,.ao,ay,tz (cM l5) ⋯,rfl,fun f=>?_],by rw[ah n3];show NU,by rw[ah n4];show OC,by rw[ah n5];show o5,EM,nar,Ez,hz];show((((((Nt.put "asked" (-av)).put "left" (-lf)).put "reading" (-rd)).put "leads_read" (.int 0)).put "looked_up" (.int 0)).put "told" .ao f).trans rfl
abbrev AG(k:Nat)(r:Str):List (Str×V):=az "reason" (.str r) (az "step" (.int (k:Int)) [])
inductive Tl
 | fail (y:Str)
 | ring (ns:List Nat)
def  tG(N:Cn)(H0 H:Hp)(step:Nat)(fd:Addr):Tl->Prop
 | .fail y=>H0 fd=none/\∃ bC,H fd=!.ins N.CF bC (AG step y)
 | .ring ns=>H0 fd=none/\∃ bC rl,H fd=!.ins N.CR bC (az "leads" (-rl) [])/\H rl=!.lst (nV ns)/\H0 rl=none
structure sX(N:Cn)(c:Wc)(S:Ws)(lf:Addr)(o:Option Tl)(R:Hp->Prop):Prop where
 n:o=none->∀ H',aY N c S H' lf .ao->R H'
 y:∀ t,o=!t->∀ fd H',aY N c S H' lf (-fd)->tG N c.H0 H' S.step fd t->R H'
def  PY(N:Cn):Sp:=g9 fun x r H Q _=>X3 fun c S lf=>A3 (c.x=x) (aY N c S H lf .ao) (sX N c S lf (!.fail r) (Q .ao))
def aY.tells{N:Cn}{c:Wc}{S:Ws}{H H4:Hp}{lf fd bC C:Addr}{F:List (Str×V)}{t:Tl}(v:aY N c S H lf .ao)(bh:H fd=none)(s4:ag H H4)(b4:H4 fd=!.ins C bC []) :
  ∃ fs,upd H4 fd (.ins C bC F) c.x=!.ins N.CW c.dx fs/\fs.length < 1000/\aY N c S (upd (upd H4 fd (.ins C bC F)) c.x (.ins N.CW c.dx (az "told" (-fd) fs))) lf (-fd)/\c.H0 fd=none/\c.x≠fd:=by
 let⟨fs,pv,hx,aS,sf⟩:=v.fld;have f0:=v.fresh bh;have nx:c.x≠fd:=bt hx bh;have v5:=(v.same s4).off (o':=.ins C bC F) f0 b4 nx (bt v.oa bh) (bt v.ol bh) (bt v.od bh) (by nofun);let⟨vT,gN,iD,_,v6⟩:=v5.put "told" (-fd) S (-fd) .ao;show#[vT,gN,iD,v6,f0,nx]
def tj:T.ib.k P w mg base 3 (PY T.cn):=by
 show T.ib.F.ok Wi (fun _ _ _ _ h=>dH h fun _ _ _=>rfl) fun ax A _ s H vs Q E hr h=>dH h fun x r h=>?_;let⟨c,S,lf,rfl,v,q⟩:=h;show bS (b:=aW Bk) ((aj (bM T.aL T.mL (ad 0) (io T.RX (Xf T) hr.m T.GY T.tL.b .nil aw (aa (am T.aL T.CK (ad 0)) (aa (ad 1) ae)))))) ?_;exists 0;let⟨fs,pv,hx,aS,sf⟩:=v.fld;left;show(fI hx sf rfl (fun fd bC bh hdfd nfd=>?_));have s4:=(ag.upd (o:=.own fd) hdfd).trans (ag.upd (p:=fd) (o:=.ins T.ef bC []) (by rw[ah (ut nfd)];show bh));have b4:upd (upd H bC (.own fd)) fd (.ins T.ef bC []) fd=!.ins T.ef bC []:=ay;generalize upd (upd H bC (.own fd)) fd (.ins T.ef bC [])=H4 at s4 b4 ⊢;show#[bC,b4,rfl,?_];let⟨vT,gN,iD,v6,f0,nx⟩:=v.tells (t:=.fail r) (F:=AG S.step r) bh s4 b4;show#[c.x,_,_,rfl,gN,iD,q.y _ rfl fd _ v6 #[f0,bC,by rw[ah (ut nx)];show ay]]
def  gg:List Nat->Nat
 | []=>0
 | [a]=>a
 | a::b::r=>min a (gg (b::r))
def mq:∀ {ns:List Nat},ns≠[]->gg ns∈ns
 | [],h=>absurd rfl h
 | [a],_=>by simp[gg]
 | a::b::r,_=>by
  have:=mq (ns:=b::r) ();unfold gg;rcases Nat.le_total a (gg (b::r)) with h | h
  ·rw[Nat.min_eq_left h];simp
  ·rw[Nat.min_eq_right h];show IN _ this
def nZ:∀ {ns:List Nat}{k:Nat},k∈ns->gg ns<=k
 | [a],k,h=>by rw[wn.mp h];show lm _
 | a::b::r,k,h=>by
  unfold gg;rcases lv.mp h with rfl | h
  ·show Nat.min_le_left _ _
  ·show tz (Nat.min_le_right _ _) (nZ h)
def  eB(ns:List Nat):List Nat:=ns.drop (ns.idxOf (gg ns))++ns.take (ns.idxOf (gg ns))
def uM(ns:List Nat):nV ns=(ns.map (fun k:Nat=>(k:Int))).map V.int:=by
 unfold nV;rw[SL];rfl
def qp(k:Nat):∀ ns:List Nat,(ns.map (fun k:Nat=>(k:Int))).idxOf (k:Int)=ns.idxOf k
 | []=>rfl
 | a::r=>by
  have h:((a:Int) == (k:Int))=(a == k):=by
   rw[_b,WP,WP];omega
  rw[Fr,List.idxOf_cons,List.idxOf_cons,qp k r,h]
def mem_cast{k:Nat}{ns:List Nat}(h:k∈ns):(k:Int)∈ns.map (fun k:Nat=>(k:Int)):=Do.mpr #[k,h,rfl]
def  aa0:Sp:=lM fun l H Q _=>X1 fun (ns:List Nat)=>A4 (H l=!.lst (nV ns)) (ns≠[]) (ns.length<=500) (∀ l' H',ag H H'->H l'=none->H' l'=!.lst (nV (eB ns))->Q (-l') H')
def abl:T.pN.k P w base 1 aa0:=by
 show T.pN.F.ok Hj (fun _ _ _ _ h=>fO h fun _ _=>rfl) fun ax A _ s H vs Q E hr h=>fO h fun l h=>?_;let⟨ns,hl,cX,hlen,q⟩:=h;show bS (b:=aW Ck) ((al (aR 1 Hj.nd (gf _p _X (Ek (K:=K) rfl) (ad 0) (aa (cA (Cj (K:=K) rfl rfl) T.xO DC (aa (ad 0) ae)) ae)))
 (aj (aN (cr dA (ii (mC (K:=K) rfl) (ad 0) (jr (ad 1)) jc) (ii (mC (K:=K) rfl) (ad 0) jc (jr (ad 1)))))))) ?_
 exists 1;right;simp only[hl];have hS:aB K H l ((ns.map (fun k:Nat=>(k:Int))).map V.int):=aB.of (by rw[hl,uM]);show#[_,_,hS,mem_cast (mq cX),fun k hk=>?_,_,hS,mem_cast (mq cX),nV ns,aB.of hl,fun p hp=>?_]
 ·let⟨k',hk',rfl⟩:=Do.mp hk;have:=nZ hk';omega
 rw[qp,yt];show cI hp fun H1 s1 b1=>?_;show#[nV ns,aB.of (s1 _ _ hl),fun p2 cH=>?_];rw[D3];show cI cH fun H2 s2 b2=>?_;simp only[s2 _ _ b1,b2];show#[fits (by simp[nV];omega),fun p3 iy=>?_];show q p3 _ ((s1.trans s2).trans (ag.upd iy)) ?_ ?_
 ·cases e:H p3 with
  | none=>rfl
  | some o=>rw[(s1.trans s2) _ _ e]at iy;cases iy
 ·rw[ay];unfold eB nV;rw[Fa,Jat,List.map_take]
def  abg(C:Addr):Sp:=oG fun x l H Q _=>X2 fun dx ns=>A3 (H x=!.ins C dx []) (H l=!.lst (nV ns)) (∀ rl,H rl=none->Q .ao (upd (upd H rl (.lst (nV ns))) x (.ins C dx (az "leads" (-rl) []))))
def WK:T.uy.k P w mg base 1 (abg T.dF):=by
 show T.uy.F.ok OL (fun _ _ _ _ h=>iP h fun _ _ _=>rfl) fun ax A _ s H vs Q E hr h=>iP h fun x l h=>?_;let⟨dx,ns,hx,hl,q⟩:=h;show bS (b:=aW CV) ((aj (bM T.g8 T.rf (ad 0) (mj (CL (K:=K) rfl) T.mx tq (aa (ad 1) ae))))) ?_;exists 0;left;simp only[bB,hl];show fun rl df=>#[x,dx,_,rfl,by rw[ah (bt hx df)];show hx,⋯,q rl df]
def  bH(ps:List Str):List (Sum Nat Str):=(ps.map Sum.inr).reverse
def Mb(ps:List Str):(bH ps).map dR=(ps.map V.str).reverse:=by
 unfold bH;rw[List.map_reverse,SL];rfl
def  W2(N:Cn):Sp:=Iq fun x fr lp H Q _=>Ln fun c S lf (st:Nat) (b:Nat) (ps:List Str) (r:List Nat) (a:Ta) (t:Th) (sn:Bool)=>xY (c.x=x) (aY N c S H lf .ao) (H lp=!.lst (ps.map V.str)) (fr=true/\st=c.root\/fr=false/\aG (sD c.M.st) (.inr c.z)=!.int (st:Int)) (c.L[st]?=!a) (c.M.ts[st]?=!t) (dB c.M st b r) (∃ m,lL c.M c.L c.root m (dS b r) sn) (sn=true->∀ lf' H',aY N c { S with here:=dS b r,left:=bH ps } H' lf' .ao->Q .ao H') (sn=false->sX N c { S with here:=dS b r } lf (!.fail "outside") (Q .ao))
def Te:T.uL.k P w mg base 7 (W2 T.cn):=by
 show T.uL.F.ok G8 (fun _ _ _ _ h=>Lk h fun _ _ _ _=>rfl) fun ax A _ s H vs Q E hr h=>Lk h fun x fr lp h=>?_;let⟨c,S,lf,st,b,ps,r,a,t,sn,rfl,v,de,aQ,ha,ht,iT,oW,q1,q2⟩:=h;let⟨fs,pv,hx,aS,sf⟩:=v.fld;show bS (b:=aW Dw) ((al (aR 3 G8.nd (JX (cK (ad 1)) (am T.aL T.sU (ad 0)) (Jy<*T.oF (am T.aL T.fV (ad 0)) (aa (am T.aL T.sx (ad 0)) ae))))
 (al (bM T.aL T.fL (ad 0) (wG<$>T.gd (aa (am T.aL T.fV (ad 0)) (aa (ad 3) ae))))
 (aj (aX (cK (Tu<$>T.rb (aa (am T.aL T.fV (ad 0)) (aa (am T.aL T.sx (ad 0)) (aa (am T.aL T.fL (ad 0)) ae))))) (aj (bM T.aL T.oE (ad 0) (Dv.listRev (K:=K) rfl rfl T.mx T.D5 (ad 2)))) (aj (bj (tj<&>T.ib (ad 0) (aa ap ae))))))))) ?_
 exists 1;show hJ (fun σ' H'=>σ'=[!V.ref c.x,!V.bl fr,!V.ref lp,!V.int (st:Int)]/\H'=H) ?_ ?_
 ·left;rcases aQ with ⟨rfl,rfl⟩ | ⟨rfl,aQ⟩
  ·show bY (fI hx sf rfl #[rfl,by trivial])
  ·let⟨fc,hc,hh,rW,iE⟩:=v.m.h;show bb (fI hx sf rfl (mI hh iE (fI hx sf rfl #[c.A,c.L,c.M,st,v.m,rfl,by rw[v.hz];rfl,aQ,rfl,by first | rfl | trivial])))
 rintro σ' H' ⟨rfl,rfl⟩;right;show(fI hx sf rfl #[c.A,c.L,c.M,st,b,r,a,t,v.m,rfl,rfl,ha,ht,iT,fun H1 s1=>?_]);have v1:=v.same s1;let⟨gU,bJ,iF,_,v2⟩:=v1.put "here" (.int ((dS b r:Nat):Int)) { S with here:=dS b r } .ao _;show#[c.x,_,_,rfl,bJ,by first | show iF | show pf | omega,?_];have hlp1:=s1 _ _ de;have E7:lp≠c.x:=fun e=>by rw[e,hx]at de;cases de
 have MS:upd H1 c.x (.ins T.bD c.dx (az "here" (.int ((dS b r:Nat):Int)) gU)) lp=!.lst (ps.map V.str):=by rw[ah E7];show hlp1
 generalize upd H1 c.x (.ins T.bD c.dx (az "here" (.int ((dS b r:Nat):Int)) gU))=H2 at v2 MS ⊢;let⟨iB,pK,bT,gT,cj⟩:=v2.fld;left;show(fI bT cj rfl (fI bT cj rfl (fI bT cj rfl #[c.A,c.L,c.M,dS b r,c.root,sn,v2.m,rfl,rfl,v2.hz,oW,fun H3 s3=>?_])));have v3:=v2.same s3;cases sn
 ·let⟨gZ,pe,dq,fY,dO⟩:=v3.fld;show bb (mI dq dO #[c,_,lf,rfl,v3,q2 rfl])
 ·show bY ?_;show#[lp,ps.map V.str,rfl,aB.of (s3 _ _ MS),fun l hl=>?_];have v4:=v3.same (ag.upd (o:=.lst (ps.map V.str).reverse) hl);have b4:upd H3 l (.lst (ps.map V.str).reverse) l=!.lst ((bH ps).map dR):=by rw[ay,Mb]
  have l0:=v3.fresh hl;have EM:c.av≠l:=bt v3.oa hl;have Ez:l≠c.rd:=ut (bt v3.od hl);generalize upd H3 l (.lst (ps.map V.str).reverse)=H4 at v4 b4 ⊢;let⟨rZ,jB,pf,v5⟩:=v4.RP l0 b4 EM Ez;show#[c.x,_,_,rfl,jB,by first | show iF | show pf | omega,q1 rfl l _ v5]
def  ia(M:Hs)(L:List Ta)(root:Nat):Nat->Nat->List Str->Prop
 | n,k,ns=>∃ b r a t,L[k]?=!a/\M.ts[k]?=!t/\dB M k b r /\
  if gr root (b::r)=true then ns=[]
  else ∃ ab tb f z,L[b]?=!ab/\M.ts[b]?=!tb/\tb.bZ=[(f,z)]/\match n with | 0=>False | n+1=>∃ ns',ns=ns'++[z]/\ia M L root n f ns'
def  Sw(CH CS CT:Addr):Sp:=nG fun x z n H Q _=>X6 fun A L M (k:Nat) (root:Nat) ns=>A7 (aH CH CS CT H A L M) (A.a=x) (n=(k:Int)) (aG (sD M.ro) (.inr z)=!.int (root:Int)) (∃ m,ia M L root m k ns) (ns.length<=500) (∀ l H',ag H H'->H' l=!.lst (ns.map V.str)->Q (-l) H')
def XF:T.rA.k P w base 6 (Sw T.aJ T.aP T.aV):=by
 show T.rA.F.ok rB (fun _ _ _ _ h=>gG h fun _ _ _ _=>rfl) fun ax A _ s H vs Q E hr h=>gG h fun x z n h=>?_;let⟨AA,L,M,k,root,ns,i,rfl,rfl,hz,⟨m,hm⟩,hlen,q⟩:=h;let⟨fs,c,hx,aS,sf⟩:=i.h;show bS (b:=aW Ea) ((al (aR 3 rB.nd (oI<*T.fF (ad 0) (aa (ad 1) ae)))
 (al (aR 4 rB.nd (db ae))
 (al (aR 5 rB.nd (pV<$>T.eA (aa (ad 0) (aa (ad 2) ae))))
 (al (kX FM (bf (uq (K:=K) rfl) (ad 3) (ad 5)) (al (aR 6 rB.nd (nI<*T.fB (ad 0) (aa (bv (bF (K:=K) rfl) (ad 5) bi) ae)))
 (al (bj (gf GE GM lb (ad 4) (aa (bv (bF (K:=K) rfl) (ad 6) bi) ae)))
 (aj (aR 5 rB.nd (pV<$>T.eA (aa (ad 0) (aa (bv (bF (K:=K) rfl) (ad 6) bi) ae))))))))
 (aj (aN (Dv.listRev (K:=K) rfl rfl T.mx T.D5 (ad 4))))))))) ?_
 exists 4;right;show(mI hx sf #[AA,L,M,root,i,rfl,hz,?_]);right;show#[fits (),fun ln md=>?_];show cI md fun H1 s1 b1=>?_;have i1:=i.same s1;right;let⟨b,r,a,t,ha,ht,aQ,eg⟩:=(by unfold ia at hm;show hm:∃ b r a t,L[k]?=!a/\M.ts[k]?=!t/\dB M k b r/\_);show#[AA,L,M,k,b,r,a,t,i1,rfl,rfl,ha,ht,aQ,fun l2 H2 s2 hl20 cB=>?_];have oX:=s1.trans s2;have c1:=s2 _ _ b1;let⟨PV,l6⟩:∃ PV:Nat->St->Hp->Prop,PV=fun m σ' H'=>ag H H'/\∃ (ls:Addr) (b:Nat) (r:List Nat) (cs ns':List Str) (pv:Option V),σ'=[!V.ref AA.a,!V.str z,!V.int (k:Int),!V.int (root:Int),!V.ref ln,!V.ref ls,pv]/\H' ls=!.lst (nV (b::r))/\H' ln=!.lst (cs.map V.str)/\ns=ns'++cs.reverse /\
  (if gr root (b::r)=true then ns'=[]
   else ∃ ab tb f z,L[b]?=!ab/\M.ts[b]?=!tb/\tb.bZ=[(f,z)]/\match m with | 0=>False | n+1=>∃ ns'',ns'=ns''++[z]/\ia M L root n f ns''):=#[_,rfl]
 show aq #[PV,#[m,by rw[l6];show#[oX,l2,b,r,[],ns,none,rfl,cB,c1,(),eg]],?_];clear eg ha ht aQ cB hl20 c1 hm oX s2;intro m σ' H' hI;rw[l6]at hI;let⟨s',ls,b,r,cs,ns',pv,rfl,OA,hln',eT,eg⟩:=hI;have i':=i.same s';let⟨fs',c',hx',hfl',sf'⟩:=i'.h;left;show#[_,.inl (aB.of OA),rfl,by simp[cE],?_];rw[kO];cases iU:gr root (b::r) with
 | true =>
  rw[At iU]at eg;subst eg;show bb ?_;left;show#[ln,_,rfl,aB.of hln',fun l hl=>?_];show q l _ (s'.trans (ag.upd hl)) ?_;rw[ay,eT,List.nil_append,List.map_reverse]
 | false =>
  rw[wT (by rw[iU];nofun)]at eg;let⟨ab,tb,f,zz,fW,m8,bx,hn⟩:=eg;show bY #[fun σ' H'=>∃ m',m' < m/\PV m' σ' H',fun σ' H' h=>h,?_];right;simp only[bB,OA,nV,Fr,dv];show#[AA.a,_,_,rfl,hx',(sf' _).trans rfl,AA,L,M,b,ab,tb,i',rfl,rfl,fW,m8,.inr #[f,zz,bx,fun p hp=>?_]];right;simp only[hln',bB,hp,uX];cases m with
  | zero=>show hn.elim
  | succ m =>
   let⟨ns2,hns2,hn⟩:=hn;have vW:cs.length<=500:=by
    have:=On List.length eT;simp at this;omega
   show#[kb (by rw[pi];omega),?_];have E7:p≠ln:=cT hp hln' (by nofun);have s4:=s'.fE (o:=.lst (List.map V.str cs++[V.str zz])) md;have b4:upd H' ln (.lst (List.map V.str cs++[V.str zz])) ln=!.lst ((cs++[zz]).map V.str):=by rw[ay,Fa];rfl
   have iV:upd H' ln (.lst (List.map V.str cs++[V.str zz])) p=!.tup [V.int (f:Int),V.str zz]:=by rw[ah E7];show hp
   generalize upd H' ln (.lst (List.map V.str cs++[V.str zz]))=H4 at s4 b4 iV ⊢;left;simp only[bB,iV,dv];let⟨b2,r2,a2,t2,FC,nE,rM,FE⟩:=(by unfold ia at hn;show hn:∃ b r a t,L[f]?=!a/\M.ts[f]?=!t/\dB M f b r/\_);show#[AA,L,M,f,b2,r2,a2,t2,i.same s4,rfl,rfl,FC,nE,rM,fun l5 H5 s5 hl50 iD=>#[m,GT m,?_]];rw[l6];show#[s4.trans s5,l5,b2,r2,cs++[zz],ns2,_,rfl,iD,s5 _ _ b4,?_,FE];rw[eT,hns2];simp
def jO{a b:Nat}(h:(!V.int (a:Int):Option V)=!V.int (b:Int)):a=b:=by
 have h1:=Id h;injection h1 with h2;omega
def lC.uniq{M:Hs}:∀ {n m k a b:Nat},lC M n k a->lC M m k b->a=b
 | 0,0,_,_,_,h,h'=>by rw[h.2,h'.2]
 | 0,_+1,_,_,_,h,h'=>by let⟨_,e,_⟩:=h';rw[h.1]at e;cases e
 | _+1,0,_,_,_,h,h'=>by let⟨_,e,_⟩:=h;rw[h'.1]at e;cases e
 | _+1,_+1,_,_,_,h,h'=>by
  let⟨k1,e1,h1⟩:=h;let⟨k2,e2,h2⟩:=h';rw[e1]at e2;cases jO e2;show h1.uniq h2
def ke.uniq{M:Hs}:∀ {n m k:Nat}{a b:List Nat},ke M n k a->ke M m k b->a=b
 | 0,0,_,_,_,h,h'=>by rw[h.2,h'.2]
 | 0,_+1,_,_,_,h,h'=>by let⟨_,_,e,_⟩:=h';rw[h.1]at e;cases e
 | _+1,0,_,_,_,h,h'=>by let⟨_,_,e,_⟩:=h;rw[h'.1]at e;cases e
 | _+1,_+1,_,_,_,h,h'=>by
  let⟨k1,r1,e1,h1,rfl⟩:=h;let⟨k2,r2,e2,h2,rfl⟩:=h';rw[e1]at e2;cases jO e2;rw[h1.uniq h2]
def dB.uniq{M:Hs}{k b b':Nat}{r r':List Nat}(h:dB M k b r)(h':dB M k b' r'):b=b'/\r=r':=by
 let⟨⟨_,h1⟩,_,h2,_⟩:=h;let⟨⟨_,h3⟩,_,h4,_⟩:=h';obtain rfl:=h1.uniq h3;show#[rfl,h2.uniq h4]
inductive wV(c:Wd)(h:Nat):Nat->Prop
 | gL {a t b r}:c.L[h]?=!a->c.M.ts[h]?=!t->dB c.M h b r->gr c.root (b::r)=true->wV c h h
 | up {a t b r ab tb f zz af tf b' r'}:c.L[h]?=!a->c.M.ts[h]?=!t->dB c.M h b r->gr c.root (b::r)=false->c.L[b]?=!ab->c.M.ts[b]?=!tb->tb.bZ=[(f,zz)]->c.L[f]?=!af->c.M.ts[f]?=!tf->dB c.M f b' r'->wV c h (dS b' r')
def  VE(N:Cn):Sp:=lM fun x H Q _=>X4 fun c S lf h'=>A4 (c.x=x) (aY N c S H lf .ao) (wV c.toWd S.here h') (∀ H',aY N c { S with here:=h' } H' lf .ao->Q .ao H')
def YD:T.sv.k P w mg base 7 (VE T.cn):=by
 show T.sv.F.ok HF (fun _ _ _ _ h=>fO h fun _ _=>rfl) fun ax A _ s H vs Q E hr h=>fO h fun x h=>?_;let⟨c,S,lf,h',rfl,v,hu,q⟩:=h;let⟨fs,pv,hx,aS,sf⟩:=v.fld;show bS (b:=aW Dk) ((al (aR 1 HF.nd (pV<$>T.eA (aa (am T.aL T.fV (ad 0)) (aa (am T.aL T.fL (ad 0)) ae))))
 (aj (aX (bf (uq (K:=K) rfl) (am T.aL T.sU (ad 0)) (ad 1)) (aj (bM T.aL T.fL (ad 0) (wG<$>T.gd (aa (am T.aL T.fV (ad 0)) (aa (bv (bF (K:=K) rfl) (nI<*T.fB (am T.aL T.fV (ad 0)) (aa (bv (bF (K:=K) rfl) (ad 1) bi) ae)) bi) ae))))) ce)))) ?_
 exists 1;let⟨a,t,b,r,ha,aU,aQ⟩:∃ a t b r,c.L[S.here]?=!a/\c.M.ts[S.here]?=!t/\dB c.M S.here b r:=by
  cases hu <;> show#[_,_,_,_,by assumption,by assumption,by assumption]
 right;show(fI hx sf rfl (fI hx sf rfl #[c.A,c.L,c.M,S.here,b,r,a,t,v.m,rfl,rfl,ha,aU,aQ,fun l H1 s1 iZ hl=>?_]));have v1:=v.same s1;let⟨gU,yY,bJ,iF,cS⟩:=v1.fld;left;show(fI bJ cS rfl #[_,.inl (aB.of hl),rfl,by simp[cE],?_]);rw[kO];cases hu with
 | gL _ _ h1 hm =>
  let⟨rfl,rfl⟩:=dB.uniq h1 aQ;rw[hm];show bb (q _ v1)
 | up _ _ h1 hm fW m8 bx gS cf hst' =>
  let⟨rfl,rfl⟩:=dB.uniq h1 aQ;rw[hm];show bY ?_;let⟨fc,hc,hh,rW,iE⟩:=v1.m.h;simp only[bB,hl,nV,Fr,dv];show(fI bJ cS rfl (fI bJ cS rfl (mI hh iE #[c.A,c.L,c.M,_,_,_,v1.m,rfl,rfl,fW,m8,.inr #[_,_,bx,fun p hp=>?_]])));simp only[hp,dv];show#[c.A,c.L,c.M,_,_,_,_,_,v1.m,rfl,rfl,gS,cf,hst',fun H2 s2=>?_];let⟨iB,bT,gT,_,v2⟩:=(v1.same s2).put "here" _ { S with here:=dS _ _ } .ao _;show#[c.x,_,_,rfl,bT,gT,q _ v2]
def xy:T.ji.k P w mg base 3 (qA T.aJ T.aP T.aV Ad.a sE):=by
 show T.ji.F.ok Rz (fun _ _ _ _ h=>cN h fun _ _ _=>rfl) fun ax A _ s H vs Q E hr h=>cN h fun x n h=>?_;let⟨AA,L,M,k,a,t,i,rfl,rfl,ha,aU,q⟩:=h;let⟨fs,c,hx,aS,sf⟩:=i.h;let⟨gs,c2,ht,eR,sg⟩:=i.t;have dE:=gn i ha aU;let⟨ks,ho,kD,so⟩:=dE.o;show#[_,((aj (aN (am T.dX T.LW (eJ T.cO T.dU.h (jT T) hr.m T.dU.b .nil fk (am T.aK T.ie (ad 0)) (aa (ad 1) ae)))))).h,?_];exists 0;left;show#[AA.a,_,_,-AA.t,rfl,hx,(sf _).trans rfl,AA.t,_,_,rfl,ht,(sg _).trans rfl,lE i ha aU (fI ho so rfl q)]
def tW{n:Nat}(h:n<=9000):n<=sizeLine:=tz h ⋯
def yo(ps:List (List Nat)):PV ps=(ps.map Tx.S).map V.str:=by
 unfold PV
 first | rfl | simp[SL,Function.comp_def]
def  cC(t:List Nat):List Str:=(told (Tx.words 47 t) t).map Tx.S
def  gA(S:Ws)(k:Nat)(ps:List Str)(h:Nat):Ws:={ S with read:=S.read+1,aI:=S.aI++[k],left:=(S.left++[.inl k])++bH ps,here:=h }
inductive qG(c:Wd)(S:Ws)(k:Nat):Ws->Prop
 | mk {a tc t ar tr b r}:c.L[k]?=!a->c.M.ts[k]?=!tc->tc.tx=Tx.S t->1<=t.length->t.length<=2000->(Tx.words 47 t).all cq=true->(cC t).length<=124->c.L[c.root]?=!ar->c.M.ts[c.root]?=!tr->dB c.M c.root b r->qG c S k (gA S k (cC t) (if cu t=true then dS b r else S.here))
def  UD(N:Cn):Sp:=jo fun x n H Q _=>X5 fun c S lf (k:Nat) S'=>A7 (c.x=x) (n=(k:Int)) (aY N c S H lf .ao) (S.left.length<=8000) (S.aI.length<=900) (qG c.toWd S k S') (∀ H',aY N c S' H' lf .ao->Q .ao H')
def R1:T.ve.k P w mg base 7 (UD T.cn):=by
 show T.ve.F.ok Hw (fun _ _ _ _ h=>cN h fun _ _ _=>rfl) fun ax A _ s H vs Q E hr h=>cN h fun x n h=>?_;let⟨c,S,lf,k,S',rfl,rfl,v,hl,gP,hR,q⟩:=h;cases hR with
 | @mk a tc t ar tr b r ha bU rG h1 h2 ju ej vD dC aQ =>
 show bS (b:=aW zT) ((al (aR 2 Hw.nd (mP<$>T.cY (aa (xy<*T.ji (am T.aL T.fV (ad 0)) (aa (ad 1) ae)) ae)))
 (al (kY T.aL T.Cr lq (ad 0) bi)
 (al (bj (gf GE GM lb (am T.aL T.qO (ad 0)) (aa (ad 1) ae)))
 (al (bj (gf GE GM lb (am T.aL T.oE (ad 0)) (aa (ad 1) ae)))
 (al (bj (gf PySem.F.slot_list_extend PySem.F.type_list_extend G9 (am T.aL T.oE (ad 0)) (aa (Dv.listRev (K:=K) rfl rfl T.mx T.D5 (bv (bF (K:=K) rfl) (ad 2) bi)) ae)))
 (aj (aX (cK (bv (bF (K:=K) rfl) (ad 2) bi)) (aj (bM T.aL T.fL (ad 0) (wG<$>T.gd (aa (am T.aL T.fV (ad 0)) (aa (am T.aL T.sU (ad 0)) ae))))) ce)))))))) ?_
 exists 1;let⟨fs,pv,hx,aS,sf⟩:=v.fld;let⟨fc,hc,hh,rW,iE⟩:=v.m.h;right;show(fI hx sf rfl (mI hh iE #[c.A,c.L,c.M,k,a,tc,v.m,rfl,rfl,ha,bU,?_]));simp only[sE];show#[t,rG,h1,h2,ju,fun H1 l p s1 iZ kG hp=>?_];have v1:=v.same s1;let⟨gU,bJ,iF,lV,v2⟩:=v1.put "leads_read" (.int ((S.read:Int)+1)) { S with read:=S.read+1 } .ao _;right;show#[c.x,_,_,_,rfl,bJ,lV,_,_,rfl,rfl,_,_,bJ,iF,aq ?_];have hpx:p≠c.x:=fun e=>by rw[e,bJ]at hp;cases hp
 have hlx:l≠c.x:=fun e=>by rw[e,bJ]at kG;cases kG
 have cH:upd H1 c.x (.ins T.bD c.dx (az "leads_read" (.int ((S.read:Int)+1)) gU)) p=!HO.tup [V.bl (cu t),V.ref l]:=by rw[ah hpx];show hp
 have cB:upd H1 c.x (.ins T.bD c.dx (az "leads_read" (.int ((S.read:Int)+1)) gU)) l=!.lst (PV (told (Tx.words 47 t) t)):=by rw[ah hlx];show kG
 generalize upd H1 c.x (.ins T.bD c.dx (az "leads_read" (.int ((S.read:Int)+1)) gU))=H2 at v2 cH cB ⊢;let⟨iB,pK,bT,gT,cj⟩:=v2.fld;left;show(fI bT cj rfl ?_);simp only[v2.od];have v3:=v2.Uv k;show#[kb (by simp;omega),aq ?_];have nl0:l≠c.rd:=fun e=>by rw[e]at iZ;rw[v.od]at iZ;cases iZ
 have iy:upd H2 c.rd (.lst (nV S.aI++[V.int (k:Int)])) p=!HO.tup [V.bl (cu t),V.ref l]:=by rw[ah (ut (cT v2.od cH (by nofun)))];show cH
 have gC:upd H2 c.rd (.lst (nV S.aI++[V.int (k:Int)])) l=!.lst (PV (told (Tx.words 47 t) t)):=by rw[ah nl0];show cB
 dsimp only at v3;generalize upd H2 c.rd (.lst (nV S.aI++[V.int (k:Int)]))=H3 at v3 iy gC ⊢;let⟨gZ,pe,dq,fY,dO⟩:=v3.fld;left;show(fI dq dO rfl ?_);simp only[v3.ol];have v4:=v3.aa9 k;show#[ww (GT _) (tW (by simp;omega)),aq ?_];have iV:upd H3 lf (.lst (S.left.map dR++[V.int (k:Int)])) p=!HO.tup [V.bl (cu t),V.ref l]:=by rw[ah (ut (cT v3.ol iy (by nofun)))];show iy
 have nll:l≠lf:=fun e=>by rw[e]at iZ;rw[v.ol]at iZ;cases iZ
 have yU:upd H3 lf (.lst (S.left.map dR++[V.int (k:Int)])) l=!.lst (PV (told (Tx.words 47 t) t)):=by rw[ah nll];show gC
 dsimp only at v4;generalize upd H3 lf (.lst (S.left.map dR++[V.int (k:Int)]))=H4 at v4 iV yU ⊢;let⟨rZ,MP,jB,pf,pA⟩:=v4.fld;left;show(fI jB pA rfl ?_);simp only[v4.ol];unfold zG;left;simp only[bB,iV,uX];show#[l,_,rfl,aB.of yU,fun l5 iD=>?_];rw[yo,show(List.map V.str (List.map Tx.S (told (Tx.words 47 t) t))).reverse=(bH (cC t)).map dR from(Mb _).symm];show cI iD fun H5 s5 b5=>?_;have v5:=v4.same s5;have e5:H5 lf=!.lst ((S.left++[Sum.inl k]).map dR):=v5.ol;simp only[e5,b5];have de:(bH (cC t)).length<=124:=by unfold bH;simpa using ej
 show#[tW (by simp at hl de ⊢;omega),?_];have v6:=v5.aac (bH (cC t));have rQ:=s5 _ _ iV;have Nx:upd H5 lf (.lst ((S.left++[Sum.inl k]).map dR++(bH (cC t)).map dR)) p=!HO.tup [V.bl (cu t),V.ref l]:=by rw[ah (ut (cT v5.ol rQ (by nofun)))];show rQ
 dsimp only at v6;generalize upd H5 lf (.lst ((S.left++[Sum.inl k]).map dR++(bH (cC t)).map dR))=H6 at v6 Nx ⊢;simp only[Nx,dv];cases eF:cu t with
 | false =>
  rw[eF]at q;show bb (q _ v6)
 | true =>
  rw[eF]at q;show bY ?_;let⟨fs6,pv6,zi,hfl6,zm⟩:=v6.fld;show(fI zi zm rfl (fI zi zm rfl #[c.A,c.L,c.M,c.root,b,r,ar,tr,v6.m,rfl,rfl,vD,dC,aQ,fun H7 s7=>?_]));let⟨Nn,vy,ND,_,v7⟩:=(v6.same s7).put "here" _ (gA S k (cC t) (dS b r)) .ao _;show#[c.x,_,_,rfl,vy,ND,q _ v7]
def bI{b:Bool}{A B:Prop}{i:Decidable (b=true)}(h:b=false)(hb:B):if b=true then A else B:=by rw[wT (by rw[h];decide)];show hb
def cv{b:Bool}{A B:Prop}{i:Decidable (b=true)}(h:b=true)(hb:A):if b=true then A else B:=by rw[At h];show hb
section
variable {T:Tx K mg}{H:Hp}{A:Ad}{L:List Ta}{M:Hs}
def Bs{z s:Str}{k:Nat}{t:Th}{Q:VK}{E:XK}(i:aH T.aJ T.aP T.aV H A L M)(hz:(aG (sD M.ro) (.inr z)).isSome=true)(hs:jN (.str s)=true)(ht:M.ts[k]?=!t)(q:Q (.bl (ee s (dj t z))) H):J5 T.aJ T.aP T.aV T.rP T.vV T.rJ [-A.a,.str z,.int k,.str s] H Q E:=by
 show#[A,L,M,i,rfl,#[_,rfl],#[_,rfl],#[_,rfl],fun h=>(by rw[h z rfl]at hz;cases hz),fun z' e _=>?_];cases e;show#[fun h=>(by rw[hs]at h;cases h),fun s' e _=>?_];cases e;have bO:=(ss.mp ht).1;show#[fun h=>absurd bO (h k rfl),fun k' t' e ht'=>?_];cases e;rw[ht]at ht';cases ht';show q
end
def Lx{k:Nat}{l:List Nat}(h:k∈l):gr k l=true:=_q.mpr #[k,h,()]
def xV{k:Nat}{l:List Nat}(h:k ∉ l):gr k l=false:=by
 unfold gr;rw[List.any_eq_false];intro x hx e;show h (by rw[<- eq_of_beq e];show hx)
inductive my(c:Wd)(S:Ws)(k:Nat):Ws->Option Tl->Prop
 | ring:k∈S.aI->my c S k S (!.ring (eB (S.aI.drop (S.aI.idxOf k))))
 | many:k ∉ S.aI->S.read=40->my c S k S (!.fail "many")
 | read {S'}:k ∉ S.aI->S.read≠40->qG c S k S'->my c S k S' none
def  O8(N:Cn):Sp:=jo fun x n H Q _=>X6 fun c S lf (k:Nat) S' o=>A7 (c.x=x) (n=(k:Int)) (aY N c S H lf .ao) (S.left.length<=8000) (S.aI.length<=400) (my c.toWd S k S' o) (sX N c S' lf o (Q .ao))
def aaD:T.tT.k P w mg base 8 (O8 T.cn):=by
 show T.tT.F.ok UN (fun _ _ _ _ h=>cN h fun _ _ _=>rfl) fun ax A _ s H vs Q E hr h=>cN h fun x n h=>?_;let⟨c,S,lf,k,S',o,rfl,rfl,v,hl,gP,hR,q⟩:=h;show bS (b:=aW CM) ((aj (aX (bf (xl (K:=K) rfl) (ad 1) (am T.aL T.qO (ad 0))) (aj (bM T.aL T.mL (ad 0) (io T.S8 (WK T) hr.m T.xX T.uy.b .nil aw (aa (abl<$>T.pN (aa (ii (mC (K:=K) rfl) (am T.aL T.qO (ad 0)) (jr (gf _p _X (Ek (K:=K) rfl) (am T.aL T.qO (ad 0)) (aa (ad 1) ae))) jc) ae)) ae)))) (aj (aX (bf eD (am T.aL T.Cr (ad 0)) (dl (.int 40) T.U1 #[_,rfl])) (aj (bj (tj<&>T.ib (ad 0) (aa ap ae)))) (aj (bj (R1<&>T.ve (ad 0) (aa (ad 1) ae))))))))) ?_;exists 0;let⟨fs,pv,hx,aS,sf⟩:=v.fld;left;show(fI hx sf rfl #[_,.inl (aB.of v.od),rfl,by simp[cE],?_]);rw[kO];cases hR with
 | many hk hm =>
  rw[xV hk];show bb (fI hx sf rfl ?_);show cv (u8 ∅) (mI hx sf #[c,S,lf,rfl,v,q])
 | read hk hm hR =>
  rw[xV hk];show bb (fI hx sf rfl ?_);show bI (kt ∅) (mI hx sf #[c,S,lf,k,_,rfl,rfl,v,hl,∅,hR,q.n rfl])
 | ring hk =>
  rw[Lx hk];show bY (fI hx sf rfl (fI hx sf rfl ?_));simp only[v.od];show#[_,aB.of (by rw[v.od,uM]),mem_cast hk,nV S.aI,aB.of v.od,fun p hp=>?_];rw[qp,yt];have e1:List.drop (S.aI.idxOf k) (nV S.aI)=nV (S.aI.drop (S.aI.idxOf k)):=by unfold nV;rw[Jat]
  rw[e1];show cI hp fun H1 s1 b1=>?_;have hj:S.aI.idxOf k < S.aI.length:=_k.mpr hk;show#[_,b1,fun e=>by have:=On List.length e;simp at this;omega,by simp;omega,fun l2 H2 s2 l20 cB=>?_];intro fd bC bh hdfd nfd;have v2:=(v.same s1).same s2;have s4:=(ag.upd (o:=.own fd) hdfd).trans (ag.upd (p:=fd) (o:=.ins T.dF bC []) (by rw[ah (ut nfd)];show bh));have b4:upd (upd H2 bC (.own fd)) fd (.ins T.dF bC []) fd=!.ins T.dF bC []:=ay;generalize upd (upd H2 bC (.own fd)) fd (.ins T.dF bC [])=H4 at s4 b4 ⊢;show#[bC,_,b4,s4 _ _ cB,fun rl df=>?_];have s5:=s4.trans (ag.upd (o:=.lst (nV (eB (S.aI.drop (S.aI.idxOf k))))) df);have b5:upd H4 rl (.lst (nV (eB (S.aI.drop (S.aI.idxOf k))))) fd=!.ins T.dF bC []:=by rw[ah (bt b4 df)];show b4
  have c5:upd H4 rl (.lst (nV (eB (S.aI.drop (S.aI.idxOf k))))) rl=!.lst (nV (eB (S.aI.drop (S.aI.idxOf k)))):=ay;have nr:=bt b4 df;have r0:c.H0 rl=none:=by
   cases e:c.H0 rl with
   | none=>rfl
   | some o=>rw[(v2.s.trans s4) _ _ e]at df;cases df
  generalize upd H4 rl (.lst (nV (eB (S.aI.drop (S.aI.idxOf k)))))=H5 at s5 b5 c5 ⊢;let⟨vT,gN,iD,v6,f0,nx⟩:=v2.tells (t:=.ring []) (F:=az "leads" (-rl) []) bh s5 b5;have nrx:rl≠c.x:=fun e=>by rw[e]at c5;let⟨Nn,pv7,vy,_⟩:=(v2.same s5).fld;rw[vy]at c5;cases c5
  show#[rfl,c.x,_,_,rfl,gN,iD,q.y _ rfl fd _ v6 #[f0,bC,rl,by rw[ah (ut nx),ay],by rw[ah nrx,ah (ut nr)];show c5,r0]]
inductive pW(c:Wd)(S:Ws)(t:Th)(p:Str):Ws->Option Tl->Prop
 | no:aG (sD t.aO) (.inr p)=none->pW c S t p { S with look:=S.look+1 } (!.fail "none")
 | folder {k a tc b r}:aG (sD t.aO) (.inr p)=!.int ((k:Nat):Int)->c.L[k]?=!a->c.M.ts[k]?=!tc->tc.kd=("folder":Str)->dB c.M k b r->pW c S t p { S with look:=S.look+1,here:=dS b r } none
 | fin {k a tc}:aG (sD t.aO) (.inr p)=!.int ((k:Nat):Int)->c.L[k]?=!a->c.M.ts[k]?=!tc->tc.kd≠("folder":Str)->(tc.kd=("file":Str)\/S.left=[]/\c.last=false)->pW c S t p { S with look:=S.look+1,place:=!(S.here,p),here:=k } none
 | lead {k a tc S' o}:aG (sD t.aO) (.inr p)=!.int ((k:Nat):Int)->c.L[k]?=!a->c.M.ts[k]?=!tc->tc.kd≠("folder":Str)->tc.kd≠("file":Str)->¬ (S.left=[]/\c.last=false)->my c { S with look:=S.look+1 } k S' o->pW c S t p S' o
def BO{T:Tx K mg}{c:Wc}{S:Ws}{H:Hp}{lf:Addr}{k:Nat}{nm:Str}{v3:Option V}{R:Hp->Prop}{Q:VK}(v2:aY T.cn c S H lf .ao)(q:∀ H',aY T.cn c { S with place:=!(S.here,nm),here:=k } H' lf .ao->R H') :
  lK (oB T.bD "place" (eX 0) (kQ (fP (xU T.bD "here" (eX 0)) (fP (eX 1) f9)))) (oB T.bD "here" (eX 0) (eX 2)) { nx:=fun _ H'=>R H',rt:=Q } [!V.ref c.x,!V.str nm,!V.int (k:Int),v3] H:=by
 let⟨iB,pK,bT,gT,cj⟩:=v2.fld;right;show(fI bT cj rfl #[fits (),fun p hp=>?_]);have w3:=v2.same (ag.upd (o:=.tup [V.int (S.here:Int),V.str nm]) hp);have b3:upd H p (.tup [V.int (S.here:Int),V.str nm]) p=!.tup [V.int (S.here:Int),V.str nm]:=ay;have p0:=v2.fresh hp;generalize upd H p (.tup [V.int (S.here:Int),V.str nm])=H3 at w3 b3 ⊢;let⟨gZ,dq,fY,v4⟩:=w3.placed p0 b3;show#[c.x,_,_,rfl,dq,fY,?_];generalize upd H3 c.x _=H4 at v4 ⊢;let⟨rZ,jB,pf,_,v5⟩:=v4.put "here" (.int (k:Int)) { S with place:=!(S.here,nm),here:=k } .ao _;show#[c.x,_,_,rfl,jB,pf,q _ v5]
def  Qm(N:Cn):Sp:=g9 fun x nm H Q _=>X7 fun c S lf a t S' o=>xY (c.x=x) (aY N c S H lf .ao) (c.L[S.here]?=!a) (c.M.ts[S.here]?=!t) (fS (.str nm)=true) (nm.length<=1000) (S.left.length<=8000) (S.aI.length<=400) (pW c.toWd S t nm S' o) (sX N c S' lf o (Q .ao))
def YR:T.uI.k P w mg base 9 (Qm T.cn):=by
 show T.uI.F.ok zA (fun _ _ _ _ h=>dH h fun _ _ _=>rfl) fun ax A _ s H vs Q E hr h=>dH h fun x nm h=>?_;let⟨c,S,lf,a,t,S',o,rfl,v,ha,aU,hn,eI,wk,gP,hb,q⟩:=h;show bS (b:=aW Eg) ((al (kY T.aL T.Kg lq (ad 0) bi)
 (al (aR 2 zA.nd (B0<*T.kN (am T.aL T.fV (ad 0)) (aa (am T.aL T.fL (ad 0)) (aa (ad 1) ae))))
 (al (aX (bf rj (ad 2) ao) (al (bj (tj<&>T.ib (ad 0) (aa ap ae)))
 (aj LO)) ce)
 (al (aR 3 zA.nd (tM<*T.il (am T.aL T.fV (ad 0)) (aa (ad 2) ae)))
 (aj (aX (bf eD (ad 3) (dl (.str "folder") T.wR #[_,rfl])) (aj (bM T.aL T.fL (ad 0) (wG<$>T.gd (aa (am T.aL T.fV (ad 0)) (aa (ad 2) ae))))) (aj (aX (dZ (ge (bf eD (ad 3) (dl (.str "file") T.Hu #[_,rfl])) (iN (dZ (gl (bf (Jl (K:=K) rfl hr.fU) (am T.aL T.oE (ad 0)) (db ae)) (ka (da (cK (am T.aL T.G2 (ad 0)))))))))) (al (bM T.aL T.yz (ad 0) (dL (aa (am T.aL T.fL (ad 0)) (aa (ad 1) ae))))
 (aj (bM T.aL T.fL (ad 0) (ad 2)))) (aj (bj (aaD<&>T.tT (ad 0) (aa (ad 2) ae))))))))))))) ?_
 exists 2;let⟨fs,hx,aS,lV,v1⟩:=v.put "looked_up" (.int ((S.look:Int)+1)) { S with look:=S.look+1 } .ao _;right;show#[c.x,_,_,_,rfl,hx,lV,_,_,rfl,rfl,_,_,hx,aS,aq ?_];generalize upd H c.x (.ins T.bD c.dx (az "looked_up" (.int ((S.look:Int)+1)) fs))=H1 at v1 ⊢;let⟨gU,yY,bJ,iF,cS⟩:=v1.fld;let⟨fc,hc,hh,rW,iE⟩:=v1.m.h;left;show(fI bJ cS rfl (mI hh iE (fI bJ cS rfl #[c.A,c.L,c.M,S.here,a,t,v1.m,rfl,rfl,ha,aU,hn,eI,fun H2 s2=>?_])));have v2:=v1.same s2;let⟨iB,pK,bT,gT,cj⟩:=v2.fld;let⟨hfs2,jx,OD,hhl2,hsf2⟩:=v2.m.h;by_cases ky:aG (sD t.aO) (.inr nm)=none
 ·have he:S'={ S with look:=S.look+1 }/\o=!.fail "none":=by
   cases hb with
   | no _=>show#[rfl,rfl]
   | folder h1=>rw[ky]at h1;cases h1
   | fin h1=>rw[ky]at h1;cases h1
   | lead h1=>rw[ky]at h1;cases h1
  let⟨rfl,rfl⟩:=he;rw[ky];right;show#[by trivial,bY ?_];right;show(mI bT cj #[c,_,lf,rfl,v2,q])
 let⟨k,ak,tc,hv,cW,bU⟩:∃ k a tc,aG (sD t.aO) (.inr nm)=!.int ((k:Nat):Int)/\c.L[k]?=!a/\c.M.ts[k]?=!tc:=by
  cases hb with
  | no h=>show absurd h ky
  | folder h1 h2 h3=>show#[_,_,_,h1,h2,h3]
  | fin h1 h2 h3=>show#[_,_,_,h1,h2,h3]
  | lead h1 h2 h3=>show#[_,_,_,h1,h2,h3]
 rw[hv];right;show#[by trivial,?_];rw[kt (by nofun)];show bb ?_;right;show(fI bT cj rfl (mI OD hsf2 #[c.A,c.L,c.M,k,ak,tc,v2.m,rfl,rfl,cW,bU,?_]));simp only[kZ];cases hb with
 | no h=>show absurd h ky
 | folder h1 h2 h3 cz aQ =>
  rw[hv]at h1;cases jO h1;rw[bU]at h3;cases h3;simp only[cz,decide_true];left;show(fI bT cj rfl #[c.A,c.L,c.M,k,_,_,ak,_,v2.m,rfl,rfl,cW,bU,aQ,fun H3 s3=>?_]);let⟨gZ,dq,fY,_,v3⟩:=(v2.same s3).put "here" _ { S with look:=S.look+1,here:=dS _ _ } .ao _;show#[c.x,_,_,rfl,dq,fY,q.n rfl _ v3]
 | fin h1 h2 h3 cz hf =>
  rw[hv]at h1;cases jO h1;rw[bU]at h3;cases h3;rw[kt cz];show bb ?_;left;rcases hf with hf | ⟨hle,FY⟩
  ·show cv (u8 hf) ((At trivial).mpr (BO v2 (q.n rfl)))
  ·by_cases hf:tc.kd=("file":Str)
   ·show cv (u8 hf) ((At trivial).mpr (BO v2 (q.n rfl)))
   show bI (kt hf) (fI bT cj rfl #[fits (),fun d hd=>?_]);have v3:=v2.same (ag.upd (o:=.lst []) hd);have b3:upd H2 d (.lst []) d=!.lst []:=ay;generalize upd H2 d (.lst [])=H3 at v3 b3 ⊢;let⟨gZ,pe,dq,fY,dO⟩:=v3.fld;show#[_,[],aB.of v3.ol,aB.of b3,.inl #[rfl,?_]];show cv (by rw[show({ S with look:=S.look+1 }:Ws).left=[] from hle];rfl) (fI dq dO rfl (cv (by rw[FY];rfl) (BO v3 (q.n rfl))))
 | lead h1 h2 h3 cz fq eI hm =>
  rw[hv]at h1;cases jO h1;rw[bU]at h3;cases h3;rw[kt cz];show bb ?_;left;show bI (kt fq) (fI bT cj rfl #[fits (),fun d hd=>?_]);have v3:=v2.same (ag.upd (o:=.lst []) hd);have b3:upd H2 d (.lst []) d=!.lst []:=ay;generalize upd H2 d (.lst [])=H3 at v3 b3 ⊢;let⟨gZ,pe,dq,fY,dO⟩:=v3.fld;show#[_,[],aB.of v3.ol,aB.of b3,.inl #[rfl,?_]];by_cases hle:S.left=[]
  ·show cv (by rw[show({ S with look:=S.look+1 }:Ws).left=[] from hle];rfl) (fI dq dO rfl ?_);show bI (by cases hb:c.last with | false=>show absurd #[hle,hb] eI | true=>rfl) ?_;show(mI dq dO #[c,_,lf,k,S',o,rfl,rfl,v3,wk,gP,hm,q])
  ·show bI (by cases h:S.left with | nil=>show absurd h hle | cons _ _=>rfl) (bb ?_);show(mI dq dO #[c,_,lf,k,S',o,rfl,rfl,v3,wk,gP,hm,q])
structure wL(c:Wd)(S:Ws)(t:Th):Prop where
 l:∃ a,c.L[S.here]?=!a
 e:c.M.ts[S.here]?=!t
 k:t.kd=("folder":Str)
 g:ee ("g":Str) (dj t c.z)=true
def  dQ(S:Ws):Ws:={ S with step:=S.step+1,asked:=S.asked++[S.here] }
inductive du(c:Wd)(S:Ws)(p:Str):Ws->Option Tl->Prop
 | flat {a t}:c.L[S.here]?=!a->c.M.ts[S.here]?=!t->t.kd≠("folder":Str)->du c S p { S with step:=S.step+1 } (!.fail "flat")
 | kM {a t}:c.L[S.here]?=!a->c.M.ts[S.here]?=!t->t.kd=("folder":Str)->ee ("g":Str) (dj t c.z)=false->du c S p (dQ S) (!.fail "shut")
 | dot {t}:wL c S t->p=(".":Str)->du c S p (dQ S) none
 | up {t h}:wL c S t->p=("..":Str)->wV c S.here h->du c S p { dQ S with here:=h } none
 | go {t S' o}:wL c S t->p≠("..":Str)->p≠(".":Str)->fS (.str p)=true->p.length<=1000->pW c (dQ S) t p S' o->du c S p S' o
def  Yz(N:Cn):Sp:=g9 fun x p H Q _=>X5 fun c S lf S' o=>A7 (c.x=x) (aY N c S H lf .ao) (S.asked.length<=8000) (S.left.length<=8000) (S.aI.length<=400) (du c.toWd S p S' o) (sX N c S' lf o (Q .ao))
def VN:T.sW.k P w mg base 10 (Yz T.cn):=by
 show T.sW.F.ok VJ (fun _ _ _ _ h=>dH h fun _ _ _=>rfl) fun ax A _ s H vs Q E hr h=>dH h fun x p h=>?_;let⟨c,S,lf,S',o,rfl,v,hn,wk,gP,hp,q⟩:=h;let⟨a,t,ha,aU⟩:∃ a t,c.L[S.here]?=!a/\c.M.ts[S.here]?=!t:=by
  cases hp with
  | flat h1 h2=>show#[_,_,h1,h2]
  | kM h1 h2=>show#[_,_,h1,h2]
  | dot h=>let⟨a,e⟩:=h.l;show#[a,_,e,h.e]
  | up h=>let⟨a,e⟩:=h.l;show#[a,_,e,h.e]
  | go h=>let⟨a,e⟩:=h.l;show#[a,_,e,h.e]
 show bS (b:=aW Dy) ((al (kY T.aL T.CK lq (ad 0) bi)
 (al (aX (bf jg (tM<*T.il (am T.aL T.fV (ad 0)) (aa (am T.aL T.fL (ad 0)) ae)) (dl (.str "folder") T.wR #[_,rfl])) (al (bj (tj<&>T.ib (ad 0) (aa ap ae)))
 (aj LO)) ce)
 (al (bj (gf GE GM lb (am T.aL T.AY (ad 0)) (aa (am T.aL T.fL (ad 0)) ae)))
 (aj (aX (da (cK (eJ T.aK T.lQ.h (C4 T) hr.m T.lQ.b .nil fk (am T.aL T.fV (ad 0)) (aa (am T.aL T.sx (ad 0)) (aa (am T.aL T.fL (ad 0)) (aa ap ae)))))) (aj (bj (tj<&>T.ib (ad 0) (aa ap ae)))) (aj (aX (bf eD (ad 1) ap) (aj (bj (qT T.aL T.sv.h (YD T) hr.m T.sv.b .nil aw (ad 0)))) (aj (aX (bf jg (ad 1) ap) (aj (bj (YR<&>T.uI (ad 0) (aa (ad 1) ae)))) ce)))))))))) ?_
 exists 0;let⟨fs,hx,aS,lV,v1⟩:=v.put "step" (.int ((S.step:Int)+1)) { S with step:=S.step+1 } .ao _;right;show#[c.x,_,_,_,rfl,hx,lV,_,_,rfl,rfl,_,_,hx,aS,aq ?_];generalize upd H c.x (.ins T.bD c.dx (az "step" (.int ((S.step:Int)+1)) fs))=H1 at v1 ⊢;let⟨gU,yY,bJ,iF,cS⟩:=v1.fld;let⟨fc,hc,hh,rW,iE⟩:=v1.m.h;left;show(fI bJ cS rfl (mI hh iE (fI bJ cS rfl #[c.A,c.L,c.M,S.here,a,t,v1.m,rfl,rfl,ha,aU,?_])));simp only[kZ];by_cases cz:t.kd=("folder":Str)
 ·simp only[cz,decide_true];show bb ?_;right;show(fI bJ cS rfl ?_);simp only[v1.oa];show(fI bJ cS rfl ?_);have v2:=v1.Po S.here;show#[ww (GT _) (tW (by simp;omega)),?_];dsimp only at v2;generalize upd H1 c.av (.lst (nV S.asked++[.int (S.here:Int)]))=H2 at v2 ⊢;let⟨iB,pK,bT,gT,cj⟩:=v2.fld;let⟨pI,gc,gh,o7,gx⟩:=v2.m.h;show(fI bT cj rfl (mI gh gx (fI bT cj rfl (fI bT cj rfl (Bs v2.m (by rw[v2.hz];rfl) (by symm) aU ?_)))));cases hp with
  | flat h1 h2 h3=>rw[aU]at h2;cases h2;show absurd cz h3
  | kM h1 h2 h3 h4 =>
   rw[aU]at h2;cases h2;rw[h4];show bY (mI bT cj #[c,_,lf,rfl,v2,q])
  | dot hA h5 =>
   have h2:=hA.e;rw[aU]at h2;cases h2;subst h5;rw[hA.g];show bb (bI (kt (by symm)) (bI (by rw[u8 rfl];rfl) (q.n rfl _ v2)))
  | up hA h5 hu =>
   have h2:=hA.e;rw[aU]at h2;cases h2;subst h5;rw[hA.g];show bb (cv (u8 rfl) (mI bT cj #[c,_,lf,_,rfl,v2,hu,q.n rfl]))
  | go hA h5 h6 h7 h8 hb =>
   have h2:=hA.e;rw[aU]at h2;cases h2;rw[hA.g];show bb (bI (kt h5) (cv (by rw[kt h6];rfl) (mI bT cj #[c,_,lf,a,_,_,_,rfl,v2,ha,aU,h7,h8,wk,gP,hb,q])))
 ·show cv (by rw[kt cz];rfl) ?_;right;have hf:S'={ S with step:=S.step+1 }/\o=!.fail "flat":=by
   cases hp with
   | flat h1 h2 h3=>show#[rfl,rfl]
   | kM h1 h2 h3 h4=>rw[aU]at h2;cases h2;show absurd h3 cz
   | dot hA=>have h2:=hA.e;rw[aU]at h2;cases h2;show absurd hA.k cz
   | up hA=>have h2:=hA.e;rw[aU]at h2;cases h2;show absurd hA.k cz
   | go hA=>have h2:=hA.e;rw[aU]at h2;cases h2;show absurd hA.k cz
  let⟨rfl,rfl⟩:=hf;show(mI bJ cS #[c,_,lf,rfl,v1,q])
def Kk(c:Nat):∀ (ns:List Str) (n:Nat),(∀ s∈ns,s.length<=8)->ns.foldl (fun n z=>n+z.length+c) n<=n+(8+c) * ns.length
 | [],n,_=>by simp
 | y::r,n,h=>by
  have h1:=h y ();have h2:=Kk c r (n+y.length+c) fun s hs=>h s (by simp[hs]);rw[List.foldl_cons,xL,Nat.mul_add];omega
def JI{ns:List Str}(h:∀ s∈ns,s.length<=8)(hl:ns.length<=100):ns.foldl (fun n z=>n+z.length+(Str.ofString "/").length) 0<=900/\(Str.join (Str.ofString "/") ns).length<=900:=by
 have lj:(Str.ofString "/").length=1:=by symm
 have h1:=Kk 1 ns 0 h;have h2:=StrLaws.join_length_le (Str.ofString "/") ns;have h3:(ns.map (·.length)).sum<=8 * ns.length:=by
  clear h1 h2 hl
  induction ns with
  | nil=>simp
  | cons y r ih =>
   have:=ih fun s hs=>h s (by simp[hs]);have h4:=h y ();rw[Fr,List.sum_cons,xL];omega
 rw[lj]at h2 ⊢;omega
def  ir(ns:List Str):Str:=Str.ofString "/" ++ Str.join (Str.ofString "/") ns
def  UE(N:Cn):Sp:=lM fun x H Q _=>X9 fun c S lf (f:Nat) (a:Ta) (t:Th) (ns:List Str) (bV:List Str) (told:V)=>A9 (c.x=x) (aY N c S H lf told) (c.L[S.here]?=!a) (c.M.ts[S.here]?=!t) (t.kd=("folder":Str)/\f=S.here/\bV=[]\/t.kd≠("folder":Str)/\∃ nm:Str,S.place=!(f,nm)/\bV=[nm]/\nm.length<=8) (∃ m,ia c.M c.L c.root m f ns) (ns.length<=99) (∀ s∈ns,s.length<=8) (∀ H',ag H H'->Q (.str (ir (ns++bV))) H')
def PN:T.tR.k P w mg base 7 (UE T.cn):=by
 show T.tR.F.ok sP (fun _ _ _ _ h=>fO h fun _ _=>rfl) fun ax A _ s H vs Q E hr h=>fO h fun x h=>?_;let⟨c,S,lf,f,a,t,ns,bV,told,rfl,v,ha,aU,hk,eT,hl100,ng,q⟩:=h;show bS (b:=aW AW) ((al (aR 1 sP.nd (db ae))
 (al (aR 2 sP.nd (am T.aL T.fL (ad 0)))
 (al (aX (bf jg (tM<*T.il (am T.aL T.fV (ad 0)) (aa (am T.aL T.fL (ad 0)) ae)) (dl (.str "folder") T.wR #[_,rfl])) (al (aR 2 sP.nd (bv (bF (K:=K) rfl) (am T.aL T.yz (ad 0)) bi))
 (aj (aR 1 sP.nd (db (aa (bv (bF (K:=K) rfl) (am T.aL T.yz (ad 0)) bi) ae))))) ce)
 (aj (aN (cr dA ap (oT PySem.F.slot_str_join PySem.F.type_str_join (Jn (K:=K) rfl) ap (aa (cr dA (XF<$>T.rA (aa (am T.aL T.fV (ad 0)) (aa (am T.aL T.sx (ad 0)) (aa (ad 2) ae)))) (ad 1)) ae))))))))) ?_
 exists 2;right;show#[fits (),fun ln md=>?_];show cI md fun H1 s1 b1=>?_;have v1:=v.same s1;let⟨fs,pv,hx,aS,Ob,sf⟩:=v1.o;let⟨fc,hc,hh,rW,iE⟩:=v1.m.h;right;show(fI hx sf rfl ?_);show hJ (fun σ' H'=>∃ ln',σ'=[!V.ref c.x,!V.ref ln',!V.int (f:Int)]/\ag H H'/\H' ln'=!.lst (bV.map V.str)/\bV.length<=1/\∀ s∈bV,s.length<=8) ?_ ?_
 ·left;show(fI hx sf rfl (mI hh iE (fI hx sf rfl #[c.A,c.L,c.M,S.here,a,t,v1.m,rfl,rfl,ha,aU,?_])));simp only[kZ];rcases hk with ⟨cz,rfl,rfl⟩ | ⟨cz,nm,bx,rfl,bK⟩
  ·show bI (by rw[u8 cz];rfl) ?_;show#[ln,rfl,s1,b1,(),fun s hs=>(by cases hs)]
  ·show cv (by rw[kt cz];rfl) ?_;rw[bx]at Ob;let⟨p,rfl,p0,hp⟩:=Ob;right;show(fI hx sf rfl ?_);simp only[bB,hp,dv];show(fI hx sf rfl ?_);simp only[hp,uX];show#[fits (),fun p2 cH=>#[p2,rfl,s1.trans (ag.upd cH),by rw[ay];rfl,(),fun s hs=>by rw[wn.mp hs];show bK]]
 rintro σ' H2 ⟨l2,rfl,s2,b2,kG,h8⟩;have v2:=v.same s2;let⟨iB,pK,bT,gT,cj⟩:=v2.fld;left;show(fI bT cj rfl (fI bT cj rfl #[c.A,c.L,c.M,f,c.root,ns,v2.m,rfl,rfl,v2.hz,eT,∅,fun l H3 s3 hl=>?_]));have c3:=s3 _ _ b2;simp only[hl,c3];have hn8':∀ s∈ns++bV,s.length<=8:=fun s hs=>by
  rcases AC.mp hs with hs | hs
  ·show ng s hs
  ·show h8 s hs
 let⟨pF,pz⟩:=JI hn8' (by rw[mo];omega);have lj:(Str.ofString "/").length=1:=by symm
 show#[fits (by simp only[pi];omega),fun p hp=>?_];show#[_,aB.of ay,ns++bV,(),?_];show#[fits ∅,fits ∅,q _ ((s2.trans s3).trans (ag.upd hp))]
structure Bd(S:Ws):Prop where
 a:S.asked.length<=S.step
 p:S.step+S.left.length+125 * (40 - S.read)<=8000
 r:S.aI.length<=S.read
 q:S.read<=40
def wI(ps:List Str):(bH ps).length=ps.length:=by unfold bH;simp
def qG.bd{c:Wd}{S S':Ws}{k:Nat}(h:qG c S k S')(a:S.asked.length<=S.step)(p:S.step+S.left.length+125 * (40 - S.read)<=8000)(r:S.aI.length<=S.read)(q:S.read < 40):Bd S':=by
 cases h with
 | @mk _ _ t _ _ _ _ h1 h2 h3 h4 h5 h6 h7 _ _ _ =>
  have e:=wI (cC t);show#[a,?_,by unfold gA;simp;omega,by unfold gA;simp;omega];unfold gA;simp only[mo,xL,_d,e];omega
def du.Ka{c:Wd}{S S1:Ws}{p:Str}{o:Option Tl}(ba:S.asked.length<=S.step)(bp:S.step+1+S.left.length+125 * (40 - S.read)<=8000)(br:S.aI.length<=S.read)(bq:S.read<=40)(h:du c S p S1 o):Bd S1:=by
 cases h with
 | flat=>show#[by dsimp only;omega,by dsimp only;omega,br,bq]
 | kM=>show#[by unfold dQ;simp;omega,by unfold dQ;dsimp only;omega,br,bq]
 | dot=>show#[by unfold dQ;simp;omega,by unfold dQ;dsimp only;omega,br,bq]
 | up=>show#[by unfold dQ;simp;omega,by unfold dQ;dsimp only;omega,br,bq]
 | go _ _ _ _ _ hb =>
  have a2:(dQ S).asked.length<=(dQ S).step:=by unfold dQ;simp;omega
  have p2:(dQ S).step+(dQ S).left.length+125 * (40 - (dQ S).read)<=8000:=by unfold dQ;dsimp only;omega
  cases hb with
  | no=>show#[a2,p2,br,bq]
  | folder=>show#[a2,p2,br,bq]
  | fin=>show#[a2,p2,br,bq]
  | lead _ _ _ _ _ _ hm =>
   cases hm with
   | ring=>show#[a2,p2,br,bq]
   | many=>show#[a2,p2,br,bq]
   | read _ kj hr=>show hr.bd a2 p2 br (Nat.lt_of_le_of_ne bq kj)
def du.bd{c:Wd}{S S1:Ws}{l:List (Sum Nat Str)}{p:Str}{o:Option Tl}(b:Bd S)(e:S.left=l++[.inr p])(h:du c { S with left:=l } p S1 o):Bd S1:=by
 have bp:=b.p;rw[e,mo]at bp;have e1:[Sum.inr (α:=Nat) p].length=1:=rfl;show du.Ka (S:={ S with left:=l }) b.a (by dsimp only;omega) b.r b.q h
inductive cQ(c:Wd):Nat->Ws->Ws->Option Tl->Prop
 | done {S}:S.left=[]->cQ c 0 S S none
 | pop {n S k l r j S' o}:S.left=l++[.inl k]->S.aI=r++[j]->cQ c n { S with left:=l,aI:=r } S' o->cQ c (n+1) S S' o
 | step {n S p l S1 S' o}:S.left=l++[.inr p]->du c { S with left:=l } p S1 none->cQ c n S1 S' o->cQ c (n+1) S S' o
 | fail {S p l S1 y}:S.left=l++[.inr p]->du c { S with left:=l } p S1 (!y)->cQ c 0 S S1 (!y)
abbrev AJ(k:Nat)(ns:List Str):List (Str×V):=az "way" (.str (ir ns)) (az "number" (.int (k:Int)) [])
def  tY(M:Hs)(L:List Ta)(root:Nat)(S:Ws)(ns bV:List Str):Prop:=∃ (f:Nat) (a:Ta) (t:Th),L[S.here]?=!a/\M.ts[S.here]?=!t /\
   (t.kd=("folder":Str)/\f=S.here/\bV=[]\/t.kd≠("folder":Str)/\∃ nm:Str,S.place=!(f,nm)/\bV=[nm]/\nm.length<=8)/\(∃ m,ia M L root m f ns)/\ns.length<=99/\(∀ s∈ns,s.length<=8)
def  SN(N:Cn):Sp:=lM fun x H Q _=>X6 fun c S lf n S' o=>A6 (c.x=x) (aY N c S H lf .ao) (Bd S) (cQ c.toWd n S S' o) (∀ y,o=!y->∀ fd H',aY N c S' H' lf (-fd)->tG N c.H0 H' S'.step fd y->Q .ao H') (o=none->∃ ns bV,tY c.M c.L c.root S' ns bV/\∀ fd bC H',aY N c S' H' lf (-fd)->c.H0 fd=none->H' fd=!.ins N.CG bC (AJ S'.here (ns++bV))->Q .ao H')
def Bd.u{S:Ws}{l:List (Sum Nat Str)}{x:Sum Nat Str}(b:Bd S)(h:S.left=l++[x]):S.asked.length<=8000/\l.length<=8000/\S.aI.length<=400:=by
 have ba:=b.a;have bp:=b.p;have br:=b.r;have bq:=b.q;rw[h,mo]at bp;omega
def Bd.pop{S:Ws}{l:List (Sum Nat Str)}{x:Sum Nat Str}{r:List Nat}{j:Nat}(b:Bd S)(h:S.left=l++[x])(hr:S.aI=r++[j]):Bd { S with left:=l,aI:=r }:=by
 have ba:=b.a;have bp:=b.p;have br:=b.r;have bq:=b.q;rw[h,mo]at bp;rw[hr,mo]at br;show#[ba,by dsimp only;omega,by dsimp only;omega,bq]
def VO:T.tw.k P w mg base 11 (SN T.cn):=by
 show T.tw.F.ok HJ (fun _ _ _ _ h=>fO h fun _ _=>rfl) fun ax A _ s H vs Q E hr h=>fO h fun x h=>?_;let⟨c,S,lf,n,S',o,rfl,v,iY,fZ,q1,q2⟩:=h;show bS (b:=aW Cw) ((al (kX FM (dZ (gl (bf rj (am T.aL T.mL (ad 0)) ao) (ka (bf (IP (K:=K) rfl hr.fU) (am T.aL T.oE (ad 0)) (db ae))))) (al (aR 1 HJ.nd (B3 _8 _9 J8 (am T.aL T.oE (ad 0))))
 (aj (aX (cK (HN<$>T.lD (aa (ad 1) ae))) (aj (bj (B3 _8 _9 J8 (am T.aL T.qO (ad 0))))) (aj (bj (VN<&>T.sW (ad 0) (aa (ad 1) ae))))))))
 (aj (aX (bf rj (am T.aL T.mL (ad 0)) ao) (aj (bM T.aL T.mL (ad 0) (io T.OU (Xv T) hr.m T.Dz T.ui.b .nil aw (aa (am T.aL T.fL (ad 0)) (aa (qT T.aL T.tR.h (PN T) hr.m T.tR.b .nil aw (ad 0)) ae))))) ce)))) ?_
 exists 1;let⟨PV,l6⟩:∃ PV:Nat->St->Hp->Prop,PV=fun m σ' H'=>∃ pv:Option V,σ'=[!V.ref c.x,pv] /\
   ((∃ n S,m=n+1/\aY T.cn c S H' lf .ao/\Bd S/\cQ c.toWd n S S' o) \/
     (∃ y fd,m=0/\o=!y/\aY T.cn c S' H' lf (-fd)/\tG T.cn c.H0 H' S'.step fd y)):=#[_,rfl]
 show aq ?_;show#[PV,#[n+1,by rw[l6];show#[none,rfl,.inl #[n,S,rfl,v,iY,fZ]]],?_];clear v iY fZ;intro m σ' H' hI;rw[l6]at hI;obtain⟨pv,rfl,⟨n,S,hm,v1,iY,fZ⟩ | ⟨y,fd,hm,ho,v1,bh⟩⟩:=hI
 ·left;let⟨gU,yY,bJ,iF,cS⟩:=v1.fld;show(fI bJ cS rfl #[by trivial,bY ?_]);show(fI bJ cS rfl #[fits (),fun d hd=>?_]);have v2:=v1.same (ag.upd (o:=.lst []) hd);have b2:upd H' d (.lst []) d=!.lst []:=ay;generalize upd H' d (.lst [])=H2 at v2 b2 ⊢;let⟨iB,pK,bT,gT,cj⟩:=v2.fld;show#[_,[],aB.of v2.ol,aB.of b2,.inl #[rfl,?_]];cases fZ with
  | done hle =>
   show bI (by rw[hle];rfl) ?_;show(fI bT cj rfl #[by trivial,bY ?_]);let⟨ns,bV,⟨f,a,t,h1,h2,h3,h4,h5,h6⟩,q⟩:=q2 rfl;show(fI bT cj rfl (mI bT cj #[c,_,lf,f,a,t,ns,bV,_,rfl,v2,h1,h2,h3,h4,h5,h6,fun H3 s3=>?_]));intro fd bC bh hdfd nfd;have s4:=(ag.upd (o:=.own fd) hdfd).trans (ag.upd (p:=fd) (o:=.ins T.dY bC []) (by rw[ah (ut nfd)];show bh));have b4:upd (upd H3 bC (.own fd)) fd (.ins T.dY bC []) fd=!.ins T.dY bC []:=ay;generalize upd (upd H3 bC (.own fd)) fd (.ins T.dY bC [])=H4 at s4 b4 ⊢;show#[bC,b4,rfl,?_];let⟨vT,gN,iD,v6,f0,nx⟩:=(v2.same s3).tells (t:=.ring []) (F:=AJ S'.here (ns++bV)) bh s4 b4;show#[c.x,_,_,rfl,gN,iD,q fd bC _ v6 f0 (by rw[ah (ut nx)];show ay)]
  | @pop n _ k l r j _ _ hle wQ fZ =>
   show cv (by rw[hle];cases l <;> rfl) #[_,fun _ _ h=>h,?_];right;show(fI bT cj rfl ?_);simp only[v2.ol];show#[l.map dR,V.int (k:Int),by rw[hle,Fa];rfl,?_];have v3:=v2.t8 l;generalize upd H2 lf (.lst (l.map dR))=H3 at v3 ⊢;let⟨gZ,pe,dq,fY,dO⟩:=v3.fld;show#[#[_,rfl],bY ?_];show(fI dq dO rfl ?_);simp only[v3.od];show#[nV r,V.int (j:Int),by rw[wQ,lG];rfl,n+1,∅,?_];have v4:=v3.Gj r;dsimp only at v4;rw[l6];show#[_,rfl,.inl #[n,_,rfl,v4,iY.pop hle wQ,fZ]]
  | @step n _ p l S1 _ _ hle aQ fZ =>
   show cv (by rw[hle];cases l <;> rfl) #[_,fun _ _ h=>h,?_];right;show(fI bT cj rfl ?_);simp only[v2.ol];show#[l.map dR,V.str p,by rw[hle,Fa];rfl,?_];have v3:=v2.t8 l;generalize upd H2 lf (.lst (l.map dR))=H3 at v3 ⊢;let⟨gZ,pe,dq,fY,dO⟩:=v3.fld;show#[#[_,rfl],bb ?_];let⟨u1,u2,u3⟩:=iY.u hle;show(mI dq dO #[c,_,lf,_,_,rfl,v3,u1,u2,u3,aQ,fun _ H4 v4=>#[n+1,∅,?_],fun y hy=>by cases hy]);rw[l6];show#[_,rfl,.inl #[n,S1,rfl,v4,aQ.bd iY hle,fZ]]
  | @fail _ p l _ y hle aQ =>
   show cv (by rw[hle];cases l <;> rfl) #[_,fun _ _ h=>h,?_];right;show(fI bT cj rfl ?_);simp only[v2.ol];show#[l.map dR,V.str p,by rw[hle,Fa];rfl,?_];have v3:=v2.t8 l;generalize upd H2 lf (.lst (l.map dR))=H3 at v3 ⊢;let⟨gZ,pe,dq,fY,dO⟩:=v3.fld;show#[#[_,rfl],bb ?_];let⟨u1,u2,u3⟩:=iY.u hle;show(mI dq dO #[c,_,lf,_,_,rfl,v3,u1,u2,u3,aQ,(fun z=>by cases z),fun y' hy fd H4 v4 hf=>#[0,∅,?_]]);cases hy;rw[l6];show#[_,rfl,.inr #[y,fd,rfl,rfl,v4,hf]]
 ·left;let⟨gU,yY,bJ,iF,cS⟩:=v1.fld;show(fI bJ cS rfl #[by trivial,?_]);show bI (kt (by nofun)) ?_
  first
   | show(fI bJ cS rfl #[by trivial,bI (kt (by nofun)) (q1 y ho fd _ v1 bh)])
   | show bb (fI bJ cS rfl #[by trivial,bI (kt (by nofun)) (q1 y ho fd _ v1 bh)])
   | (left;show(fI bJ cS rfl #[by trivial,bI (kt (by nofun)) (q1 y ho fd _ v1 bh)]))
inductive Res
 | found (k:Nat)(ns:List Str)
 | failed (k:Nat)(y:Str)
 | ring (ns:List Nat)
structure End where
 asked:List Nat
 res:Res
def  gH(N:Cn)(H0 H:Hp)(fd:Addr):Res->Prop
 | .found k ns=>∃ bC,H fd=!.ins N.CG bC (AJ k ns)
 | .failed k y=>∃ bC,H fd=!.ins N.CF bC (AG k y)
 | .ring ns=>∃ bC rl,H fd=!.ins N.CR bC (az "leads" (-rl) [])/\H rl=!.lst (nV ns)/\H0 rl=none
def gH.same{N:Cn}{H0 H H':Hp}{fd:Addr}(s:ag H H'):∀ {r:Res},gH N H0 H fd r->gH N H0 H' fd r
 | .found _ _,⟨d,e⟩=>#[d,s _ _ e]
 | .failed _ _,⟨d,e⟩=>#[d,s _ _ e]
 | .ring _,⟨d,l,e,f,g⟩=>#[d,l,s _ _ e,s _ _ f,g]
def mH{H H':Hp}{x:Addr}(s:ag H H')(h:H' x=none):H x=none:=by
 cases e:H x with
 | none=>rfl
 | some o=>rw[s _ _ e]at h;cases h
def gH.fr{N:Cn}{H0 H1 H:Hp}{fd:Addr}(s:ag H0 H1):∀ {r:Res},gH N H1 H fd r->gH N H0 H fd r
 | .found _ _,e=>e
 | .failed _ _,e=>e
 | .ring _,⟨d,l,e,f,g⟩=>#[d,l,e,f,mH s g]
def  yj(step:Nat):Tl->Res
 | .fail y=>.failed step y
 | .ring ns=>.ring ns
def tG.r{N:Cn}{H0 H:Hp}{k:Nat}{fd:Addr}:∀ {t:Tl},tG N H0 H k fd t->gH N H0 H fd (yj k t)
 | .fail _,⟨_,d,e⟩=>#[d,e]
 | .ring _,⟨_,d,l,e,f,g⟩=>#[d,l,e,f,g]
structure mW(d:Wd)(fr:Bool)(h:Nat):Prop where
 z:aG (sD d.M.ro) (.inr d.z)=!.int (d.root:Int)
 ex:∃ (st b:Nat) (r:List Nat) (a:Ta) (t:Th),(fr=true/\st=d.root\/fr=false/\aG (sD d.M.st) (.inr d.z)=!.int (st:Int))/\d.L[st]?=!a/\d.M.ts[st]?=!t/\dB d.M st b r/\(∃ m,lL d.M d.L d.root m (dS b r) true)/\h=dS b r
inductive lx(d:Wd)(fr:Bool)(ps:List Str):End->Prop
 | told {h n S' t}:mW d fr h->ps.length<=2500->cQ d n #[h,none,0,[],bH ps,[],0,0] S' (!t)->lx d fr ps #[S'.asked,yj S'.step t]
 | found {h n S' ns bV}:mW d fr h->ps.length<=2500->cQ d n #[h,none,0,[],bH ps,[],0,0] S' none->tY d.M d.L d.root S' ns bV->lx d fr ps #[S'.asked,.found S'.here (ns++bV)]
def  vf(N:Cn)(H H':Hp)(e:End)(x:Addr):Prop:=ag H H'/\∃ dx gs fd av,H' x=!.ins N.CW dx gs/\gs.lookup ("told":Str)=!-fd/\gH N H H' fd e.res/\gs.lookup ("asked":Str)=!-av/\H' av=!.lst (nV e.asked)
def vf.of{N:Cn}{H H1 H2:Hp}{e:End}{x:Addr}(s:ag H H1)(h:vf N H1 H2 e x):vf N H H2 e x:=#[s.trans h.1,let ⟨dx,gs,fd,av,a,b,c,d⟩:=h.2;#[dx,gs,fd,av,a,b,gH.fr s c,d]]
def  Qv(N:Cn):Sp:=Ic fun h z fr lp last H Q _=>X6 fun A L M root ps e=>A5 (aH N.CH N.CS N.CT H A L M) (A.a=h) (H lp=!.lst (ps.map V.str)) (lx #[L,M,z,last,root] fr ps e) (∀ x H',vf N H H' e x->Q (-x) H')
def Kt:T.kW.k P w base 12 (Qv T.cn):=by
 show T.kW.F.ok MB (fun _ _ _ _ h=>JL h fun _ _ _ _ _ _=>rfl) fun ax A _ s H vs Q E hr h=>JL h fun hh z fr lp last h=>?_;let⟨AA,L,M,root,ps,e,i,rfl,de,g,q⟩:=h;let⟨gO,bz,hb,ej,n,S',o,fZ,f1,f2⟩:∃ h,aG (sD M.ro) (.inr z)=!.int (root:Int)/\mW ⟨L,M,z,last,root⟩ fr h/\ps.length<=2500/\∃ n S' o,cQ ⟨L,M,z,last,root⟩ n ⟨h,none,0,[],bH ps,[],0,0⟩ S' o/\(∀ y,o=!y->e=⟨S'.asked,yj S'.step y⟩)/\(o=none->∃ ns bV,tY M L root S' ns bV/\e=⟨S'.asked,.found S'.here (ns++bV)⟩):=by
  cases g with
  | told b hp hr=>show#[_,b.z,b,hp,_,_,_,hr,fun y hy=>(by cases hy;rfl),fun z=>(by cases z)]
  | found b hp hr ht=>show#[_,b.z,b,hp,_,_,_,hr,fun y hy=>(by cases hy),fun _=>#[_,_,ht,rfl]]
 let⟨st,b,r,a,t,aQ,ha,ht,iT,oW,rfl⟩:=hb.ex;show bS (b:=aW Cs) ((al (aR 5 MB.nd (io T.abi (UK T) hr.m T.Ve T.ua.b .nil aw (aa (ad 0) (aa (ad 1) (aa (ad 4) ae)))))
 (al (bj (Te<&>T.uL (ad 5) (aa (ad 2) (aa (ad 3) ae))))
 (al (bj (qT T.aL T.tw.h (VO T) hr.m T.tw.b .nil aw (ad 5)))
 (aj (aN (ad 5))))))) ?_
 exists 1;right;intro x dx hx mh ndx;have s1:=(ag.upd (o:=.own x) mh).trans (ag.upd (p:=x) (o:=.ins T.bD dx []) (by rw[ah (ut ndx)];show hx));have b1:upd (upd H dx (.own x)) x (.ins T.bD dx []) x=!.ins T.bD dx []:=ay;generalize upd (upd H dx (.own x)) x (.ins T.bD dx [])=H1 at s1 b1 ⊢;show#[AA,L,M,dx,H,root,i,rfl,b1,s1,hx,bz,fun av lf rd H2 v2=>?_];show#[rfl,aq ?_];left;let⟨iB,pK,bT,gT,cj⟩:=v2.fld;show(mI bT cj #[_,_,lf,st,b,ps,r,a,t,true,rfl,v2,v2.s _ _ de,aQ,ha,ht,iT,oW,fun _ lf' H3 v3=>aq ?_,fun z=>by cases z]);left;let⟨gZ,pe,dq,fY,dO⟩:=v3.fld;show(mI dq dO #[_,_,lf',n,S',o,rfl,v3,#[wS _,by have:=wI ps;dsimp only;omega,wS _,wS _],fZ,fun y hy fd H4 v4 bh=>?_,fun ho=>?_])
 ·let⟨rZ,MP,jB,pf,pA⟩:=v4.fld;have he:=f1 y hy;show q x H4 #[v4.s,dx,rZ,fd,av,jB,(pA _).trans rfl,by rw[he];show bh.r,(pA _).trans rfl,by rw[he];show v4.oa]
 ·let⟨ns,bV,ht,he⟩:=f2 ho;show#[ns,bV,ht,fun fd bC H4 v4 f0 bh=>?_];let⟨rZ,MP,jB,pf,pA⟩:=v4.fld;show q x H4 #[v4.s,dx,rZ,fd,av,jB,(pA _).trans rfl,by rw[he];show#[bC,bh],(pA _).trans rfl,by rw[he];show v4.oa]
structure fg(d:Wd)(t:List Nat)(e:End):Prop where
 l1:1<=t.length
 l2:t.length<=2000
 all:(Tx.words 47 t).all cq=true
 g:lx d (cu t) (cC t) e
def fg.hz{d:Wd}{t:List Nat}{e:End}(p:fg d t e):(aG (sD d.M.ro) (.inr d.z)).isSome=true:=by
 cases p.g with
 | told b=>rw[b.z];rfl
 | found b=>rw[b.z];rfl
def  aaC(N:Cn):Sp:=rm fun h z pt last H Q _=>X6 fun A L M root t e=>A5 (pt=Tx.S t) (aH N.CH N.CS N.CT H A L M) (A.a=h) (fg #[L,M,z,last,root] t e) (∀ x H',vf N H H' e x->Q (-x) H')
def HA:T.lO.k P w base 13 (aaC T.cn):=by
 show T.lO.F.ok Im (fun _ _ _ _ h=>jM h fun _ _ _ _ _=>rfl) fun ax A _ s H vs Q E hr h=>jM h fun hh z pt last h=>?_;let⟨AA,L,M,root,t,e,rfl,i,rfl,pg,q⟩:=h;let⟨fc,hc,hh,rW,iE⟩:=i.h;show bS (b:=aW Ep) ((al (bj (eJ T.aK T.fA.h (oM T) hr.m T.fA.b .nil fk (ad 0) (aa (ad 1) ae)))
 (al (aR 4 Im.nd (mP<$>T.cY (aa (ad 2) ae)))
 (aj (aN (Kt<$>T.kW (aa (ad 0) (aa (ad 1) (aa (bv (bF (K:=K) rfl) (ad 4) bi) (aa (bv (bF (K:=K) rfl) (ad 4) bi) (aa (ad 3) ae))))))))))) ?_
 exists 1;right;show(mI hh iE (qF i pg.hz (aq ?_)));left;show#[t,rfl,pg.l1,pg.l2,pg.all,fun H1 l p s1 _ hl hp=>?_];simp only[bB,hp];left;rw[show cR [V.bl (cu t),V.ref l] 0=some (V.bl (cu t)) from rfl,show cR [V.bl (cu t),V.ref l] 1=some (V.ref l) from rfl];rw[yo]at hl;show#[AA,L,M,root,_,e,i.same s1,rfl,hl,pg.g,fun x H2 f=>q x H2 (f.of s1)]
def  K1(N:Cn):Sp:=rm fun h z pt last H Q _=>X6 fun A L M root t e=>A5 (pt=Tx.S t) (aH N.CH N.CS N.CT H A L M) (A.a=h) (fg #[L,M,z,last,root] t e) (∀ fd H',ag H H'->gH N H H' fd e.res->Q (-fd) H')
def mz:aC P w K mg base aM 14 T.EZ T.yI ["house","asker","path","last"] (K1 T.cn):=by
 show T.iL.ok WU (fun vs H Q E h=>?_) (fun ax A _ s H vs Q E hr h=>?_)
 ·show jM h fun _ _ _ _ _=>rfl
 ·show jM h fun hh z pt last h=>?_;let⟨AA,L,M,root,t,e,rfl,i,rfl,pg,q⟩:=h;show bS (b:=aW vn) ((aj (aN (am T.aL T.mL (HA<$>T.lO (aa (ad 0) (aa (ad 1) (aa (ad 2) (aa (ad 3) ae))))))))) ?_;exists 0;left;show#[AA,L,M,root,t,e,rfl,i,rfl,pg,fun x H1 #[s1,dx,gs,fd,av,hx,zk,bh,ub,fX]=>?_];show#[x,_,_,_,rfl,hx,zk,q fd H1 s1 bh]
def  RD(N:Cn):Sp:=rm fun h z pt last H Q _=>X6 fun A L M root t e=>A5 (pt=Tx.S t) (aH N.CH N.CS N.CT H A L M) (A.a=h) (fg #[L,M,z,last,root] t e) (∀ av H',ag H H'->H' av=!.lst (nV e.asked)->Q (-av) H')
def Hn:aC P w K mg base aM 14 T.EH T.yX ["house","asker","path","last"] (RD T.cn):=by
 show T.tS.ok Uu (fun vs H Q E h=>?_) (fun ax A _ s H vs Q E hr h=>?_)
 ·show jM h fun _ _ _ _ _=>rfl
 ·show jM h fun hh z pt last h=>?_;let⟨AA,L,M,root,t,e,rfl,i,rfl,pg,q⟩:=h;show bS (b:=aW va) ((aj (aN (am T.aL T.AY (HA<$>T.lO (aa (ad 0) (aa (ad 1) (aa (ad 2) (aa (ad 3) ae))))))))) ?_;exists 0;left;show#[AA,L,M,root,t,e,rfl,i,rfl,pg,fun x H1 #[s1,dx,gs,fd,av,hx,zk,bh,ub,fX]=>?_];show#[x,_,_,_,rfl,hx,ub,q av H1 s1 fX]
inductive Rf
 | gI (y:Str)
 | way (r:Res)
def  gu(N:Cn)(H:Hp)(E:XK):Rf->Prop
 | .gI y=>∀ d H',ag H H'->H' d=!.xd [("reason",.str y)]->E (-N.CD) (!d) H'
 | .way r=>∀ fd d H',ag H H'->gH N H H' fd r->H' d=!.xd [("told",-fd)]->E (-N.CN) (!d) H'
def gu.of{N:Cn}{H H1:Hp}{E:XK}{r:Rf}(s:ag H H1)(h:gu N H E r):gu N H1 E r:=by
 cases r with
 | gI y=>show fun d H' s' e=>h d H' (s.trans s') e
 | way k=>show fun fd d H' s' e1 e2=>h fd d H' (s.trans s') (gH.fr s e1) e2
def gu.raise{N:Cn}{H H1:Hp}{E:XK}{y:Str}{d:Addr}(h:gu N H E (.gI y))(s:ag H H1)(hd:H1 d=none):E (-N.CD) (!d) (upd H1 d (.xd [("reason",.str y)])):=h d _ (s.trans (ag.upd hd)) ay
def xn:T.mV.k P w mg base 1 (mT T.rD "reason"):=by
 show T.mV.F.ok Zp (fun vs H Q E h=>?_) (fun ax A _ s H vs Q E hr h=>?_)
 ·unfold mT at h;split at h
  ·rfl
  ·show h.elim
 ·unfold mT at h;split at h
  ·rename_i ea y;let⟨he,q⟩:=h;show#[_,((aj (GK T.u9 (ad 0) (ad 1)))).h,?_];exists 0;walk_at "rd";show#[ea,rfl,he,q]
  ·show h.elim
def aa2:T.uh.k P w mg base 1 (mT T.sj "told"):=by
 show T.uh.F.ok T6 (fun vs H Q E h=>?_) (fun ax A _ s H vs Q E hr h=>?_)
 ·unfold mT at h;split at h
  ·rfl
  ·show h.elim
 ·unfold mT at h;split at h
  ·rename_i ea y;let⟨he,q⟩:=h;show#[_,((aj (GK T.Hf (ad 0) (ad 1)))).h,?_];exists 0;walk_at "rd";show#[ea,rfl,he,q]
  ·show h.elim
def  aaM(N:Cn):Sp:=lM fun fd H Q E=>X2 fun r H0=>A4 (ag H0 H) (gH N H0 H fd r) (∀ k ns,r=.found k ns->Q (.int (k:Int)) H) ((∀ k ns,r≠.found k ns)->gu N H0 E (.way r))
def Hr:aC P w K mg base (dh P w) 3 T.lN.f T.lN.d ["told"] (aaM T.cn):=by
 show T.lN.F.fG RO (fun _ _ _ _ h=>fO h fun _ _=>rfl) fun ax A _ s H vs Q E hr h=>fO h fun fd h=>?_;let⟨r,H0,s0,bh,q1,q2⟩:=h;show bS (b:=aW D8) ((al (aX (da (cK (cA (oz (K:=K) rfl) T.fN fR (aa (ad 0) (aa (dl (-T.dY) T.Dz rfl) ae))))) (aj (uR tO rfl rfl T.RL T.Hf T.Qe (aa2 T) hr.m T.uh.b (aa (ad 0) ae))) ce)
 (aj (aN (am T.jl T.Cf (ad 0)))))) ?_
 exists 0;right;cases r with
 | found k ns =>
  let⟨bC,hf⟩:=bh;show#[_,_,_,.of (.ins hf T.jl T.q1 T.q2 T.q3 T.q4),.cls T.q5,bb #[fd,bC,_,_,rfl,hf,rfl,q1 k ns rfl]]
 | failed k y =>
  let⟨bC,hf⟩:=id bh;show#[_,_,_,.of (.ins hf T.jS T.q6 T.q2 T.q3 T.q7),.cls T.q8,bY #[_,rfl,fun d hd=>q2 (by nofun) fd d _ (s0.trans (ag.upd hd)) (bh.same (ag.upd hd)) ay]]
 | ring ns =>
  let⟨bC,rl,hf,hl,_⟩:=id bh;show#[_,_,_,.of (.ins hf T.g8 T.oh T.q2 T.q3 T.n9),.cls T.KZ,bY #[_,rfl,fun d hd=>q2 (by nofun) fd d _ (s0.trans (ag.upd hd)) (bh.same (ag.upd hd)) ay]]
def  Vk(N:Cn):Sp:=sI fun h z pt H Q E=>X6 fun A L M root t e=>A6 (pt=Tx.S t) (aH N.CH N.CS N.CT H A L M) (A.a=h) (fg #[L,M,z,true,root] t e) (∀ k ns,e.res=.found k ns->∀ H',ag H H'->Q (.int (k:Int)) H') ((∀ k ns,e.res≠.found k ns)->gu N H E (.way e.res))
def Sn:aC P w K mg base (dh P w) 15 T.qj.f T.qj.d ["house","asker","path"] (Vk T.cn):=by
 show T.qj.F.fG Y4 (fun _ _ _ _ h=>mU h fun _ _ _ _=>rfl) fun ax A _ s H vs Q E hr h=>mU h fun hh z pt h=>?_;let⟨AA,L,M,root,t,e,rfl,i,rfl,pg,q1,q2⟩:=h;show bS (b:=aW BG) ((aj (aN (Hr<*>T.lN (aa (bn (mz T) hr.m T.mw T.iL.kp T.mJ (.cons (show RelV (.bl true) _ from rfl) .nil) aw (aa (ad 0) (aa (ad 1) (aa (ad 2) ae)))) ae))))) ?_;exists 0;left;show#[AA,L,M,root,t,e,rfl,i,rfl,pg,fun fd H1 s1 bh=>?_];show#[e.res,H,s1,bh,fun k ns he=>q1 k ns he H1 s1,q2]
inductive kH(ps:List (List Nat)):Option (List (List Nat)×List Nat)->Prop
 | nil:ps=[]->kH ps none
 | CO {q nm}:ps=q++[nm]->isNm nm=false->nm.length<=8->kH ps none
 | Kl {q nm}:ps=q++[nm]->isNm nm=true->kH ps (!(q,nm))
structure gq(t:List Nat):Prop where
 l1:1<=t.length
 l2:t.length<=2000
 all:(Tx.words 47 t).all cq=true
def  W3(N:Cn):Sp:=mX fun pt H Q E=>X2 fun t r=>A5 (pt=Tx.S t) (gq t) (kH (told (Tx.words 47 t) t) r) (∀ x,r=!x->∀ H',ag H H'->Q .ao H') (r=none->gu N H E (.gI "dots"))
def fj{w:List Nat}(h:isNm w=true):47 ∉ w/\w≠[]/\1<=w.length/\w.length<=8:=by
 have hp:cq w=true:=by unfold cq;rw[h];simp
 let⟨h1,h2,_⟩:=GA h;show#[(DM hp).1,(DM hp).2.1,h1,h2]
def JB{w:List Nat}{b:Bool}(h:isNm w=b):fS (.str (Tx.S w))=b:=by
 change isNm (Tx.S w).cps.toList=b;rw[Tx.j9];show h
def xG{w:List Nat}(h:isNm w=true):fS (.str (Tx.S w))=true:=JB h
def TJ:aC P w K mg base (dh P w) 4 T.pO.f T.pO.d ["path"] (W3 T.cn):=by
 show T.pO.F.fG LI (fun _ _ _ _ h=>gF h fun _ _=>rfl) fun ax A _ s H vs Q E hr h=>gF h fun pt h=>?_;let⟨t,r,rfl,sp,hs,q1,q2⟩:=h;show bS (b:=aW B8) ((al (aR 1 LI.nd (bv (bF (K:=K) rfl) (mP<$>T.cY (aa (ad 0) ae)) bi))
 (aj (aX (dZ (ge (bf (ZA hr.fU) (ad 1) (db ae)) (iN (da (cK (DR<$>T.iO (aa (bv (bF (K:=K) rfl) (ad 1) (im jJ bi)) ae))))))) (aj (uR tO rfl rfl T.wN T.u9 T.xh (xn T) hr.m T.mV.b (aa ap ae))) ce)))) ?_
 exists 1;right;show#[t,rfl,sp.l1,sp.l2,sp.all,fun H1 l p s1 _ hl hp=>?_];simp only[bB,hp];rw[show cR [V.bl (cu t),V.ref l] 1=some (V.ref l) from rfl];show#[fits (),fun d hd=>?_];show cI hd fun H2 s2 b2=>?_;have cB:=s2 _ _ hl;cases hs with
 | nil e =>
  rw[e]at cB;show#[[],[],cB,b2,cv (u8 rfl) #[_,rfl,fun d' hd'=>(q2 rfl).raise (s1.trans s2) hd']]
 | @CO qs nm e hn wk =>
  rw[e]at cB;have gC:H2 l=!.lst (PV qs++[V.str (Tx.S nm)]):=by rw[cB];simp[PV]
  show#[qs.map Tx.S++[Tx.S nm],[],by rw[gC];simp[PV],b2,?_];rw[kt ()];show bb ?_;simp only[gC,lS];show#[#[_,rfl],by change(Tx.S nm).length<=1000;rw[Tx.c9];omega,fun H3 s3=>?_];rw[JB hn];show bY #[_,rfl,fun d' hd'=>(q2 rfl).raise ((s1.trans s2).trans s3) hd']
 | @Kl qs nm e hn =>
  rw[e]at cB;let⟨h1,h2,h3,h4⟩:=fj hn;have gC:H2 l=!.lst (PV qs++[V.str (Tx.S nm)]):=by rw[cB];simp[PV]
  show#[qs.map Tx.S++[Tx.S nm],[],by rw[gC];simp[PV],b2,?_];rw[kt ()];show bb ?_;simp only[gC,lS];show#[#[_,rfl],by change(Tx.S nm).length<=1000;rw[Tx.c9];omega,fun H3 s3=>?_];rw[xG hn];show bb (q1 _ rfl _ ((s1.trans s2).trans s3))
abbrev yx(f:Nat)(nm:List Nat):List (Str×V):=az "name" (.str (Tx.S nm)) (az "folder" (.int (f:Int)) [])
inductive mQ(d:Wd)(t:List Nat):Sum Rf (Nat×List Nat)->Prop
 | CO:kH (told (Tx.words 47 t) t) none->mQ d t (.inl (.gI "dots"))
 | way {q nm e}:kH (told (Tx.words 47 t) t) (!(q,nm))->q.length<=900->lx d (cu t) (q.map Tx.S++[(".":Str)]) e->(∀ k ns,e.res≠.found k ns)->mQ d t (.inl (.way e.res))
 | GV {q nm e f ns}:kH (told (Tx.words 47 t) t) (!(q,nm))->q.length<=900->lx d (cu t) (q.map Tx.S++[(".":Str)]) e->e.res=.found f ns->mQ d t (.inr (f,nm))
def  Vy(N:Cn):Sp:=sI fun h z pt H Q E=>X6 fun A L M root t r=>A7 (pt=Tx.S t) (gq t) (aH N.CH N.CS N.CT H A L M) (A.a=h) (mQ #[L,M,z,true,root] t r) (∀ x,r=.inl x->gu N H E x) (∀ f nm,r=.inr (f,nm)->∀ x dx H',H x=none->ag H H'->H' x=!.ins N.CE dx (yx f nm)->Q (-x) H')
def SD:aC P w K mg base (dh P w) 13 T.qQ.f T.qQ.d ["house","asker","path"] (Vy T.cn):=by
 show T.qQ.F.fG DK (fun _ _ _ _ h=>mU h fun _ _ _ _=>rfl) fun ax A _ s H vs Q E hr h=>mU h fun hh z pt h=>?_;let⟨AA,L,M,root,t,r,rfl,sp,i,rfl,g,q1,q2⟩:=h;show bS (b:=aW Cv) ((al (bj (TJ<*>T.pO (aa (ad 2) ae)))
 (al (aR 3 DK.nd (mP<$>T.cY (aa (ad 2) ae)))
 (al (aR 4 DK.nd (Kt<$>T.kW (aa (ad 0) (aa (ad 1) (aa (bv (bF (K:=K) rfl) (ad 3) bi) (aa (cr dA (ii (mC (K:=K) rfl) (bv (bF (K:=K) rfl) (ad 3) bi) jc (jr (im jJ bi))) (db (aa ap ae))) (aa em ae)))))))
 (aj (aN (io T.WS (YQ T) hr.m T.SU T.uV.b .nil aw (aa (Hr<*>T.lN (aa (am T.aL T.mL (ad 4)) ae)) (aa (bv (bF (K:=K) rfl) (bv (bF (K:=K) rfl) (ad 3) bi) (im jJ bi)) ae))))))))) ?_
 exists 2;right;have hs:(r=.inl (.gI "dots")/\kH (told (Tx.words 47 t) t) none)\/∃ qs nm e,kH (told (Tx.words 47 t) t) (!(qs,nm))/\qs.length<=900/\lx #[L,M,z,true,root] (cu t) (qs.map Tx.S++[(".":Str)]) e/\((∀ k ns,e.res≠.found k ns)->r=.inl (.way e.res))/\∀ f ns,e.res=.found f ns->r=.inr (f,nm):=by
  cases g with
  | CO h=>show .inl #[rfl,h]
  | way h1 h2 h3 h4=>show .inr #[_,_,_,h1,h2,h3,fun _=>rfl,fun f ns e=>absurd e (h4 f ns)]
  | GV h1 h2 h3 h4=>show .inr #[_,_,_,h1,h2,h3,fun k=>absurd h4 (k _ _),fun f ns e=>by rw[h4]at e;cases e;rfl]
 rcases hs with ⟨rfl,hs⟩ | ⟨qs,nm,e,hs,hq,g,r1,r2⟩
 ·show#[t,none,rfl,sp,hs,(fun x e=>by cases e),fun _=>q1 _ rfl]
 show#[t,_,rfl,sp,hs,fun x _ H1 s1=>aq ?_,fun e=>by cases e];have he:told (Tx.words 47 t) t=qs++[nm]:=by cases hs;assumption
 left;show#[t,rfl,sp.l1,sp.l2,sp.all,fun H2 l p s2 _ hl hp=>aq ?_];rw[he,show PV (qs++[nm])=PV qs++[V.str (Tx.S nm)] from by simp[PV]]at hl;left;simp only[bB,hp];rw[show cR [V.bl (cu t),V.ref l] 1=some (V.ref l) from rfl,show cR [V.bl (cu t),V.ref l] 0=some (V.bl (cu t)) from rfl]
 try dsimp only
 show#[_,aB.of hl,fun p1 pC=>?_];rw[Uh];show#[fits (),fun p2 cH=>?_];have s3:=(ag.upd (o:=.lst (PV qs)) pC).trans (ag.upd (o:=.lst [V.str "."]) cH);have n12:p1≠p2:=bt (ay (o:=.lst (PV qs))) cH;have b3:upd (upd H2 p1 (.lst (PV qs))) p2 (.lst [V.str "."]) p1=!.lst (PV qs):=by rw[ah n12,ay]
 have b4:upd (upd H2 p1 (.lst (PV qs))) p2 (.lst [V.str "."]) p2=!.lst [V.str "."]:=ay;generalize upd (upd H2 p1 (.lst (PV qs))) p2 (.lst [V.str "."])=H3 at s3 b3 b4 ⊢;simp only[b3,b4];show#[fits (by simp;omega),fun p3 iy=>?_];have s4:=s3.trans (ag.upd (o:=.lst (PV qs++[V.str "."])) iy);have b5:upd H3 p3 (.lst (PV qs++[V.str "."])) p3=!.lst (PV qs++[V.str "."]):=ay;generalize upd H3 p3 (.lst (PV qs++[V.str "."]))=H4 at s4 b5 ⊢;show#[AA,L,M,root,qs.map Tx.S++[(".":Str)],e,i.same ((s1.trans s2).trans s4),rfl,by rw[b5];simp[PV],g,?_];rintro x H5 ⟨s5,dx,gs,fd,av,hx,zk,bh,ub,fX⟩;have iW:=((s1.trans s2).trans s4).trans s5;show#[x,_,_,_,rfl,hx,zk,_,H4,s5,bh,fun k ns hk=>?_,fun hk=>(q1 _ (r1 hk)).of ((s1.trans s2).trans s4)]
 ·have rQ:=(s4.trans s5) _ _ hp;have iD:=(s4.trans s5) _ _ hl;simp only[rQ];rw[show cR [V.bl (cu t),V.ref l] 1=some (V.ref l) from rfl];simp only[iD,lS]
  try dsimp only
  intro y dy hy hdy ndy;show#[dy,ay,rfl,?_];rw[mB];show q2 _ _ (r2 _ _ hk) y dy _ (mH iW hy) (iW.trans ((ag.upd (o:=.own y) hdy).trans (ag.upd (p:=y) (by rw[ah (ut ndy)];show hy)))) ay
def  Td(N:Cn):Sp:=IT fun h z n r y H Q E=>X5 fun A L M t (k:Nat)=>A8 (n=(k:Int)) (aH N.CH N.CS N.CT H A L M) (A.a=h) ((aG (sD M.ro) (.inr z)).isSome=true) (jN (.str r)=true) (M.ts[k]?=!t) (ee r (dj t z)=true->Q .ao H) (ee r (dj t z)=false->gu N H E (.gI y))
def ZS:aC P w K mg base (dh P w) 4 T.rC.f T.rC.d ["house","asker","number","right","reason"] (Td T.cn):=by
 show T.rC.F.fG VY (fun _ _ _ _ h=>Gz h fun _ _ _ _ _ _=>rfl) fun ax A _ s H vs Q E hr h=>Gz h fun hh z n r rs h=>?_;let⟨AA,L,M,t,k,rfl,i,rfl,hz,iz,ht,q1,q2⟩:=h;let⟨pI,gc,gh,o7,gx⟩:=i.h;show bS (b:=aW BZ) ((aj (aX (da (cK (eJ T.aK T.lQ.h (C4 T) hr.m T.lQ.b .nil fH (ad 0) (aa (ad 1) (aa (ad 2) (aa (ad 3) ae)))))) (aj (uR tO rfl rfl T.wN T.u9 T.xh (xn T) hr.m T.mV.b (aa (ad 4) ae))) ce))) ?_;exists 0;left;show(mI gh gx (Bs i hz iz ht ?_));cases hm:ee r (dj t z) with
 | true=>show bb (q1 hm)
 | false=>show bY #[_,rfl,fun d hd=>(q2 hm).raise (fun _ _ e=>e) hd]
def  Q0(N:Cn):Sp:=nG fun h z n H Q E=>X5 fun A L M t (k:Nat)=>A7 (n=(k:Int)) (aH N.CH N.CS N.CT H A L M) (A.a=h) ((aG (sD M.ro) (.inr z)).isSome=true) (M.ts[k]?=!t) (ee ("w":Str) (dj t z)=true->Q .ao H) (ee ("w":Str) (dj t z)=false->gu N H E (.gI "kept"))
def WG:aC P w K mg base (dh P w) 5 T.pQ.f T.pQ.d ["house","asker","folder"] (Q0 T.cn):=by
 show T.pQ.F.fG Rm (fun _ _ _ _ h=>gG h fun _ _ _ _=>rfl) fun ax A _ s H vs Q E hr h=>gG h fun hh z n h=>?_;let⟨AA,L,M,t,k,rfl,i,rfl,hz,ht,q1,q2⟩:=h;show bS (b:=aW z9) ((aj (bj (ZS<*>T.rC (aa (ad 0) (aa (ad 1) (aa (ad 2) (aa ap (aa ap ae))))))))) ?_;exists 0;left;show#[AA,L,M,t,k,rfl,i,rfl,hz,by symm,ht,q1,q2]
def  aak(N:Cn):Sp:=oG fun h x H Q _=>X8 fun A L M a t dx nm (k:Nat)=>A7 (aH N.CH N.CS N.CT H A L M) (A.a=h) (H x=!.ins N.CE dx (yx k nm)) (isNm nm=true) (L[k]?=!a) (M.ts[k]?=!t) (∀ H',ag H H'->Q ((aG (sD t.aO) (.inr (Tx.S nm))).getD .ao) H')
def Pp:T.rk.k P w base 5 (aak T.cn):=by
 show T.rk.F.ok Ub (fun _ _ _ _ h=>iP h fun _ _ _=>rfl) fun ax A _ s H vs Q E hr h=>iP h fun hh x h=>?_;let⟨AA,L,M,a,t,dx,nm,k,i,rfl,hx,hn,ha,ht,q⟩:=h;let⟨pI,gc,gh,o7,gx⟩:=i.h;let⟨h1,h2,h3,h4⟩:=fj hn;show bS (b:=aW Bo) ((aj (aN (B0<*T.kN (ad 0) (aa (am T.nO T.xQ (ad 1)) (aa (am T.nO T.zX (ad 1)) ae)))))) ?_;exists 0;left;show(mI gh gx #[x,_,_,_,rfl,hx,rfl,x,_,_,_,rfl,hx,rfl,AA,L,M,k,a,t,i,rfl,rfl,ha,ht,xG hn,by rw[Tx.c9];omega,q])
def  Uc(N:Cn):Sp:=oG fun h x H Q E=>X8 fun A L M a t dx nm (k:Nat)=>A8 (aH N.CH N.CS N.CT H A L M) (A.a=h) (H x=!.ins N.CE dx (yx k nm)) (isNm nm=true) (L[k]?=!a) (M.ts[k]?=!t) (aG (sD t.aO) (.inr (Tx.S nm))=none->∀ H',ag H H'->Q .ao H') (∀ c:Int,aG (sD t.aO) (.inr (Tx.S nm))=!.int c->gu N H E (.gI "there"))
def Y9{l:List (Str×Nat)}{z:Key}{v:V}(h:aG (sD l) z=!v):∃ c:Nat,v=.int (c:Int):=by
 unfold aG at h;let⟨kv,h1,rfl⟩:=Ty.mp h;let⟨e,_,rfl⟩:=Do.mp (List.mem_of_find?_eq_some h1);show#[_,rfl]
def Q4:aC P w K mg base (dh P w) 6 T.qZ.f T.qZ.d ["house","seat"] (Uc T.cn):=by
 show T.qZ.F.fG Ud (fun _ _ _ _ h=>iP h fun _ _ _=>rfl) fun ax A _ s H vs Q E hr h=>iP h fun hh x h=>?_;let⟨AA,L,M,a,t,dx,nm,k,i,rfl,hx,hn,ha,ht,q1,q2⟩:=h;show bS (b:=aW Br) ((aj (aX (bf n8 (Pp<$>T.rk (aa (ad 0) (aa (ad 1) ae))) ao) (aj (uR tO rfl rfl T.wN T.u9 T.xh (xn T) hr.m T.mV.b (aa ap ae))) ce))) ?_;exists 0;left;show#[AA,L,M,a,t,dx,nm,k,i,rfl,hx,hn,ha,ht,fun H1 s1=>?_];cases hv:aG (sD t.aO) (.inr (Tx.S nm)) with
 | none=>show#[by trivial,bb (q1 hv H1 s1)]
 | some v =>
  let⟨c,rfl⟩:=Y9 hv;show#[by trivial,bY #[_,rfl,fun d hd=>(q2 _ hv).raise s1 hd]]
inductive om(d:Wd)(t:List Nat):Sum Rf (Nat×List Nat)->Prop
 | no {x}:mQ d t (.inl x)->om d t (.inl x)
 | kept {f nm tf}:mQ d t (.inr (f,nm))->d.M.ts[f]?=!tf->ee ("w":Str) (dj tf d.z)=false->om d t (.inl (.gI "kept"))
 | there {f nm a tf c}:mQ d t (.inr (f,nm))->isNm nm=true->d.L[f]?=!a->d.M.ts[f]?=!tf->ee ("w":Str) (dj tf d.z)=true->aG (sD tf.aO) (.inr (Tx.S nm))=!.int (c:Int)->om d t (.inl (.gI "there"))
 | free {f nm a tf}:mQ d t (.inr (f,nm))->isNm nm=true->d.L[f]?=!a->d.M.ts[f]?=!tf->ee ("w":Str) (dj tf d.z)=true->aG (sD tf.aO) (.inr (Tx.S nm))=none->om d t (.inr (f,nm))
def  Yi(N:Cn):Sp:=sI fun h z pt H Q E=>X6 fun A L M root t r=>A8 (pt=Tx.S t) (gq t) (aH N.CH N.CS N.CT H A L M) (A.a=h) ((aG (sD M.ro) (.inr z)).isSome=true) (om #[L,M,z,true,root] t r) (∀ x,r=.inl x->gu N H E x) (∀ f nm,r=.inr (f,nm)->∀ x dx H',H x=none->ag H H'->H' x=!.ins N.CE dx (yx f nm)->Q (-x) H')
def G5:aC P w K mg base (dh P w) 14 T.lh.f T.lh.d ["house","asker","path"] (Yi T.cn):=by
 show T.lh.F.fG Gg (fun _ _ _ _ h=>mU h fun _ _ _ _=>rfl) fun ax A _ s H vs Q E hr h=>mU h fun hh z pt h=>?_;let⟨AA,L,M,root,t,r,rfl,sp,i,rfl,EF,g,q1,q2⟩:=h;show bS (b:=aW DJ) ((al (aR 3 Gg.nd (SD<*>T.qQ (aa (ad 0) (aa (ad 1) (aa (ad 2) ae)))))
 (al (bj (WG<*>T.pQ (aa (ad 0) (aa (ad 1) (aa (am T.nO T.xQ (ad 3)) ae)))))
 (al (bj (Q4<*>T.qZ (aa (ad 0) (aa (ad 3) ae))))
 (aj (aN (ad 3))))))) ?_
 exists 1;right;cases g with
 | no g=>show#[AA,L,M,root,t,_,rfl,sp,i,rfl,g,fun x e=>(by cases e;show q1 _ rfl),fun f nm e=>by cases e]
 | kept g oY hw =>
  show#[AA,L,M,root,t,_,rfl,sp,i,rfl,g,fun x e=>(by cases e),fun f nm e=>?_];cases e;intro x dx H1 fx s1 hx;right;show#[x,_,_,_,rfl,hx,rfl,AA,L,M,_,_,rfl,i.same s1,rfl,EF,oY,fun e=>(by rw[hw]at e;cases e),fun _=>(q1 _ rfl).of s1]
 | there g hn Fv oY hw hv =>
  show#[AA,L,M,root,t,_,rfl,sp,i,rfl,g,fun x e=>(by cases e),fun f nm e=>?_];cases e;intro x dx H1 fx s1 hx;right;show#[x,_,_,_,rfl,hx,rfl,AA,L,M,_,_,rfl,i.same s1,rfl,EF,oY,fun _=>aq ?_,fun e=>by rw[hw]at e;cases e];left;show#[AA,L,M,_,_,dx,_,_,i.same s1,rfl,hx,hn,Fv,oY,fun e=>(by rw[hv]at e;cases e),fun _ _=>(q1 _ rfl).of s1]
 | free g hn Fv oY hw hv =>
  show#[AA,L,M,root,t,_,rfl,sp,i,rfl,g,fun x e=>(by cases e),fun f nm e=>?_];cases e;intro x dx H1 fx s1 hx;right;show#[x,_,_,_,rfl,hx,rfl,AA,L,M,_,_,rfl,i.same s1,rfl,EF,oY,fun _=>aq ?_,fun e=>by rw[hw]at e;cases e];left;show#[AA,L,M,_,_,dx,_,_,i.same s1,rfl,hx,hn,Fv,oY,fun _ H2 s2=>q2 _ _ rfl x dx H2 fx (s1.trans s2) (s2 _ _ hx),fun _ e=>by rw[hv]at e;cases e]
def aaE:T.vm.k P w mg base 3 (qA T.aJ T.aP T.aV Ad.a ZY):=by
 show T.vm.F.ok Yu (fun _ _ _ _ h=>cN h fun _ _ _=>rfl) fun ax A _ s H vs Q E hr h=>cN h fun x n h=>?_;let⟨AA,L,M,k,a,t,i,rfl,rfl,ha,aU,q⟩:=h;let⟨fs,c,hx,aS,sf⟩:=i.h;let⟨gs,c2,ht,eR,sg⟩:=i.t;have dE:=gn i ha aU;let⟨ks,ho,kD,so⟩:=dE.o;show#[_,((aj (aN (am T.dX T.Ar (eJ T.cO T.dU.h (jT T) hr.m T.dU.b .nil fk (am T.aK T.ie (ad 0)) (aa (ad 1) ae)))))).h,?_];exists 0;left;show#[AA.a,_,_,-AA.t,rfl,hx,(sf _).trans rfl,AA.t,_,_,rfl,ht,(sg _).trans rfl,lE i ha aU (fI ho so rfl q)]
def  XD(CH CS CT:Addr):Sp:=HQ fun x n m r H Q _=>X6 fun A L M (k:Nat) a t=>A6 (aH CH CS CT H A L M) (A.t=x) (n=(k:Int)) (L[k]?=!a) (M.ts[k]?=!t) (∀ H',aH CH CS CT H' A L { M with ts:=M.ts.set k { t with mi:=m,re:=r } }->Kp [A.t,a.th] H H'->Q .ao H')
def Pq:T.u6.k P w mg base 3 (XD T.aJ T.aP T.aV):=by
 show T.u6.F.ok JK (fun _ _ _ _ h=>KR h fun _ _ _ _ _=>rfl) fun ax A _ s H vs Q E hr h=>KR h fun x n m r h=>?_;let⟨AA,L,M,k,a,t,i,rfl,rfl,ha,aU,q⟩:=h;let⟨fs,c,hx,aS,sf⟩:=i.h;let⟨gs,c2,ht,eR,sg⟩:=i.t;have dE:=gn i ha aU;let⟨ks,ho,kD,so⟩:=dE.o;have off:=i.uZ ha;have n1:AA.t≠a.th:=off _ (by simp[Ad.w]) _ (by simp[Ta.l]);have n2:AA.a≠a.th:=off _ (by simp[Ad.w]) _ (by simp[Ta.l]);have n3:=i.own ha;show#[_,((al (aR 4 JK.nd (eJ T.cO T.dU.h (jT T) hr.m T.dU.b .nil fk (ad 0) (aa (ad 1) ae)))
 (al (kY T.cO T.wW lq (ad 0) bi)
 (al (bM T.dX T.D1 (ad 4) (ad 2))
 (aj (bM T.dX T.Bq (ad 4) (ad 3))))))).h,?_]
 exists 1;right;show(mI ht sg (lE i ha aU ?_));right;show#[AA.t,_,_,.int c2,rfl,ht,(sg _).trans rfl,_,_,rfl,rfl,_,_,ht,∅,aq ?_];left;show#[a.th,_,_,rfl,by rw[ah (ut n1)];show ho,∅,?_];left;show#[a.th,_,_,rfl,ay,by rw[gJ (u:=.str t.mi) ((so _).trans rfl)];omega,?_];show q _ (i.write (t':={ t with mi:=m,re:=r }) ha #[fs,c,by rw[ah n2,ah n2,ah i.aT];show hx,aS,sf] #[_,c2+1,by rw[ah n1,ah n1,ay],by rw[gJ (u:=.int c2) ((sg _).trans rfl)];show eR,fun f=>by rw[(sg.put "changes" (.int (c2+1))) f];rfl] #[#[_,ay,?_,fun f=>((so.put "mine" (.str m)).put "rest" (.str r) f).trans rfl],?_,?_] (fun b o hb e=>?_)) (fun b o hb e=>?_)
 ·rw[gJ (u:=.str t.re) (by rw[eO,wT ⋯];show(so _).trans rfl),gJ (u:=.str t.mi) ((so _).trans rfl)];show kD
 ·rw[ah (ut n3.1),ah (ut n3.1),ah (ut (off _ (by simp[Ad.w]) _ (by simp[Ta.l])))];show dE.nm
 ·rw[ah (ut n3.2.1),ah (ut n3.2.1),ah (ut (off _ (by simp[Ad.w]) _ (by simp[Ta.l])))];show dE.pl
 ·simp only[lv,sK,AT,_y]at hb;rw[ah hb.2.2.1,ah hb.2.2.1,ah hb.2.1];show e
 ·simp only[lv,sK,AT,_y]at hb;rw[ah hb.2,ah hb.2,ah hb.1];show e
section
variable {CH CS CT:Addr}{H H':Hp}{A:Ad}{L:List Ta}{M:Hs}
def aH.some(i:aH CH CS CT H A L M):∀ b∈A.w++L.flatMap Ta.l,∃ o,H b=.some o:=fun b hb=>by
 rcases AC.mp hb with h | h
 ·simp only[Ad.w,lv,sK,AT]at h;rcases h with rfl | rfl | rfl | rfl | rfl | rfl | rfl | rfl
  ·let⟨_,_,e,_⟩:=i.h;show#[_,e]
  ·let⟨_,_,e,_⟩:=i.t;show#[_,e]
  ·show#[_,i.ml]
  ·show#[_,i.ro]
  ·show#[_,i.st]
  ·show#[_,i.tr]
  ·show#[_,i.ov]
  ·show#[_,i.un]
 ·let⟨a,ha,hb⟩:=List.mem_flatMap.mp h;let⟨k,hk⟩:=_i ha;have bO:k < M.ts.length:=by rw[<- i.len];show(ss.mp hk).1
  let⟨a',e1,t⟩:=i.th k _ (sw bO);rw[hk]at e1;cases e1;simp only[Ta.l,lv,sK,AT]at hb;rcases hb with rfl | rfl | rfl
  ·let⟨_,e,_⟩:=t.o;show#[_,e]
  ·show#[_,t.nm]
  ·show#[_,t.pl]
def aH.add{th dJ nm pl:Addr}{ks:List (Str×V)}{kd ow mi re tx:Str}(i:aH CH CS CT H A L M)(f1:H th=none)(f2:H nm=none)(f3:H pl=none)(at':m7 CS H' A.t A.dt A.ml ((L.map fun a=>V.ref a.th)++[-th]))(aU:H' th=Option.some (.ins CT dJ ks))(kl:ks.length<=40)(sk:dz ks (um (.int (L.length:Nat)) (.str kd) (.str ow) (.str mi) (.str re) (.str tx) (-nm) (-pl)))(bK:H' nm=Option.some (.dK []))(bx:H' pl=Option.some (.dT []))(kp:Kp [A.t,A.ml] H H') :
  aH CH CS CT H' A (L++[#[th,dJ,nm,pl]]) { M with ts:=M.ts++[#[kd,ow,mi,re,tx,[],[]]] }:=by
 have nd:=i.nd;have sm:=i.some;have nw:∀ b∈A.w++L.flatMap Ta.l,b≠th/\b≠nm/\b≠pl:=fun b hb=>by
  let⟨o,e⟩:=sm b hb;show#[bt e f1,bt e f2,bt e f3]
 have vY:th≠nm:=cT aU bK (by nofun);have sd:th≠pl:=cT aU bx (by nofun);have h23:nm≠pl:=cT bK bx (by nofun);have n0:=nd;rw[Db]at n0;let⟨n1,n2,n3⟩:=n0;simp only[Ad.w,Gc,lv,sK,AT,_y]at n1;have kA:∀ b∈[A.a,A.ro,A.st,A.tr,A.ov,A.un],b ∉ [A.t,A.ml]:=by
  intro b hb hm;simp only[lv,sK,AT]at hb hm;rcases hb with rfl | rfl | rfl | rfl | rfl | rfl <;> rcases hm with h | h
  ·show n1.1.1 h
  ·show n1.1.2.1 h
  ·show n1.2.1.2.1 h.symm
  ·show n1.2.2.1.1 h.symm
  ·show n1.2.1.2.2.1 h.symm
  ·show n1.2.2.1.2.1 h.symm
  ·show n1.2.1.2.2.2.1 h.symm
  ·show n1.2.2.1.2.2.1 h.symm
  ·show n1.2.1.2.2.2.2.1 h.symm
  ·show n1.2.2.1.2.2.2.1 h.symm
  ·show n1.2.1.2.2.2.2.2 h.symm
  ·show n1.2.2.1.2.2.2.2 h.symm
 show#[?_,at'.o,?_,by simp[i.len],fun j t e=>?_,kp _ _ (kA _ ()) i.ro,kp _ _ (kA _ ()) i.st,kp _ _ (kA _ ()) i.tr,kp _ _ (kA _ ()) i.ov,kp _ _ (kA _ ()) i.un,?_]
 ·let⟨fs,c,e,r⟩:=i.h;show#[fs,c,kp _ _ (kA _ ()) e,r]
 ·rw[at'.ml];simp
 ·have e':(M.ts++[(#[kd,ow,mi,re,tx,[],[]]:Th)])[j]?=.some t:=e;by_cases hj:j < M.ts.length
  ·rw[EQ hj]at e';let⟨a,e1,h1⟩:=i.th j t e';show#[a,by rw[EQ (by rw[i.len];show hj)];show e1,h1.keep kp fun b hb hm=>?_];have oV:=js e1 hb;simp only[lv,sK,AT]at hm;rcases hm with rfl | rfl
   ·show n3 _ (by simp[Ad.w]) _ oV rfl
   ·show n3 _ (by simp[Ad.w]) _ oV rfl
  ·rw[Cl ∅]at e';have hj0:j - M.ts.length=0:=by
    rcases Nat.eq_zero_or_pos (j - M.ts.length) with h | h
    ·show h
    ·rw[_F (by simp;omega)]at e';cases e'
   rw[hj0]at e';cases e';have jE:j=L.length:=by rw[i.len];omega
   subst jE;show#[_,by rw[Cl (lm _),_z];rfl,#[#[ks,aU,kl,sk],bK,bx]]
 ·rw[List.flatMap_append,<- IR,Db];show#[nd,?_,fun b hb c hc e=>?_]
  ·simp only[TW,List.flatMap_nil,FB,Ta.l,Gc,lv,sK,AT,_y,not_false_eq_true,Jal,and_true];show#[#[vY,sd],h23]
  ·let⟨q1,q2,q3⟩:=nw b hb;simp only[TW,List.flatMap_nil,FB,Ta.l,lv,sK,AT]at hc;rcases hc with h | h | h
   ·show q1 (e.trans h)
   ·show q2 (e.trans h)
   ·show q3 (e.trans h)
end
def  Ik(CH CS CT CE:Addr):Sp:=Jx fun h x n H Q _=>IV fun A L M (f:Nat) (k:Nat) af tf ak tk dx nm=>Cu (aH CH CS CT H A L M) (A.a=h) (H x=!.ins CE dx (az "name" (.str nm) (az "folder" (.int (f:Int)) []))) (n=(k:Int)) (L[f]?=!af) (M.ts[f]?=!tf) (L[k]?=!ak) (M.ts[k]?=!tk) (f≠k) (aG (sD tf.aO) (.inr nm)=none) (tf.aO.length<=500) (tk.bZ=[]) (∀ H',aH CH CS CT H' A L { M with ts:=(M.ts.set f { tf with aO:=tf.aO++[(nm,k)] }).set k { tk with bZ:=[(f,nm)] } }->Kp [A.t,af.nm,ak.pl] H H'->Q (.int (k:Int)) H')
def Gy:T.lI.k P w base 6 (Ik T.aJ T.aP T.aV T.l8):=by
 show T.lI.F.ok Rb (fun _ _ _ _ h=>GC h fun _ _ _ _=>rfl) fun ax A _ s H vs Q E hr h=>GC h fun hh x n h=>?_;let⟨AA,L,M,f,k,af,tf,ak,tk,dx,nm,i,rfl,hx,rfl,gS,cf,ja,eN,cX,hv,hl,bx,q⟩:=h;let⟨pI,gc,gh,o7,gx⟩:=i.h;let⟨gs,c2,ht,eR,sg⟩:=i.t;show bS (b:=aW Aq) ((al (bj (W9*>T.ue (am T.aK T.ie (ad 0)) (aa (am T.nO T.xQ (ad 1)) (aa (am T.nO T.zX (ad 1)) (aa (ad 2) ae)))))
 (aj (aN (ad 2))))) ?_
 exists 0;right;show(fI gh gx rfl (mI ht sg #[x,_,_,_,rfl,hx,rfl,x,_,_,_,rfl,hx,rfl,AA,L,M,f,k,af,tf,ak,tk,i,rfl,rfl,rfl,gS,cf,ja,eN,cX,hv,hl,bx,q]))
def  tN(CH CS CT:Addr)(A:Ad)(L:List Ta)(M:Hs)(f:Nat)(t0:Th)(a0:Ta)(nm kd ow mi re tx:Str)(H:Hp)(Q:VK):Prop :=
 ∀ a H',(∀ b∈a.l,H b=none)->aH CH CS CT H' A (L++[a]) { M with ts:=M.ts.set f { t0 with aO:=t0.aO++[(nm,M.ts.length)] }++[#[kd,ow,mi,re,tx,[],[(f,nm)]]] }->Kp [A.t,A.ml,a0.nm] H H'->Q (.int (M.ts.length:Nat)) H'
def Hl{α:Type}{y b:α}:∀ r:List α,(r++[y]).set r.length b=r++[b]
 | []=>rfl
 | c::r=>by simp only[List.cons_append,xL,List.set_cons_succ];rw[Hl r]
def Z1{α:Type}:∀ {xs:List α}{f:Nat}{y a b:α},f < xs.length->((xs++[y]).set f a).set xs.length b=xs.set f a++[b]:=fun {xs f y a b} h=>by
 rw[List.set_append_left _ _ h];have:=Hl (y:=y) (b:=b) (xs.set f a)
 rwa [_c]at this
def Jg{CH CS CT CE:Addr}{H:Hp}{A:Ad}{L:List Ta}{M:Hs}{f:Nat}{z nm kd mi re tx:Str}{a0:Ta}{t0:Th}{x dx:Addr}{Q:VK}{E:XK}(i:aH CH CS CT H A L M)(gY:L[f]?=!a0)(kg:M.ts[f]?=!t0)(hx:H x=!.ins CE dx (az "name" (.str nm) (az "folder" (.int (f:Int)) [])))(hv:aG (sD t0.aO) (.inr nm)=none)(hl:t0.aO.length<=400)(nx1:x≠A.t)(mp:tN CH CS CT A L M f t0 a0 nm kd z mi re tx H Q):xt CS CT A.t A.dt A.ml (L.map fun a=>V.ref a.th) (.str kd) (.str z) (.str mi) (.str re) (.str tx) H (fun v H'=>Ik CH CS CT CE [-A.a,-x,v] H' Q E):=by
 intro th dJ nm' pl ks H' f1 f2 f3 at' aU kl sk bK bx kp;have nx2:x≠A.ml:=cT hx i.ml (by nofun);have hlen:(L.map fun a=>V.ref a.th).length=L.length:=pi _;rw[hlen]at sk ⊢;have i2:=i.add f1 f2 f3 at' aU kl sk bK bx kp;have h0:f < M.ts.length:=(ss.mp kg).1;have Fl:=i.len;have e0:(M.ts++[(#[kd,z,mi,re,tx,[],[]]:Th)])[f]?=!t0:=by rw[EQ h0];show kg
 have ek:(M.ts++[(#[kd,z,mi,re,tx,[],[]]:Th)])[L.length]?=!#[kd,z,mi,re,tx,[],[]]:=by rw[Fl,Cl (lm _),_z];rfl
 show#[A,L++[#[th,dJ,nm',pl]],_,f,L.length,a0,t0,#[th,dJ,nm',pl],#[kd,z,mi,re,tx,[],[]],dx,nm,i2,rfl,kp _ _ (by simp[nx1,nx2]) hx,rfl,by rw[EQ ∅];show gY,e0,by rw[Cl (lm _),_z];rfl,ek,∅,hv,∅,rfl,fun H2 i3 k3=>?_];have:=mp #[th,dJ,nm',pl] H2 (fun b hb=>by simp only[Ta.l,lv,sK,AT]at hb;rcases hb with rfl | rfl | rfl <;> assumption) (by
  have e:=i3;dsimp only at e;rw[Fl]at e;rw[Z1 h0]at e;show e) (fun b o hb e=>?_)
 ·rw[Fl];show this
 ·simp only[lv,sK,AT,_y]at hb;have nbp:b≠pl:=bt e f3;show k3 _ _ (by simp[hb.1,hb.2.2,nbp]) (kp _ _ (by simp[hb.1,hb.2.1]) e)
def Lv{CH CS CT:Addr}{H:Hp}{A:Ad}{L:List Ta}{M:Hs}(i:aH CH CS CT H A L M):m7 CS H A.t A.dt A.ml (L.map fun a=>V.ref a.th):=#[i.t,i.ml]
def tN.of{CH CS CT:Addr}{H H1:Hp}{A:Ad}{L:List Ta}{M:Hs}{f:Nat}{t0:Th}{a0:Ta}{nm kd ow mi re tx:Str}{Q:VK}(s:ag H H1)(m:tN CH CS CT A L M f t0 a0 nm kd ow mi re tx H Q):tN CH CS CT A L M f t0 a0 nm kd ow mi re tx H1 Q:=fun a H' fr i k=>m a H' (fun b hb=>mH s (fr b hb)) i ((Kp.of s).trans k)
def  PL(K:ν):Sp:=mX fun pt H Q _=>X1 fun t=>A4 (pt=Tx.S t) (gq t) (t.length<=120) (∀ H',ag H H'->Q .ao H')
def Uq:T.rq.k P w base 4 (PL K):=by
 show T.rq.F.ok Sj (fun _ _ _ _ h=>gF h fun _ _=>rfl) fun ax A _ s H vs Q E hr h=>gF h fun pt h=>?_;let⟨t,rfl,pt,hl,q⟩:=h;show bS (b:=aW DZ) ((al (bj (mP<$>T.cY (aa (ad 0) ae)))
 (aj (aX (bf Bh (cA (iI (K:=K) rfl) T.gz No (aa (ad 0) ae)) (dl (.int 120) T.TH #[_,rfl])) (aj gp) ce)))) ?_
 exists 0;right;show#[t,rfl,pt.l1,pt.l2,pt.all,fun H1 l p s1 _ _ _=>?_];left;show#[by rw[Tx.c9];show fits ∅,?_];rw[Tx.c9,kt (show ¬ (t.length:Int) > 120 by omega)];show bb (q _ s1)
def aay:T.ud.k P w mg base 4 (Sv T.aP T.aV):=by
 show T.ud.F.ok Rh (fun _ _ _ _ h=>mZ h fun _ _ _ _=>rfl) fun ax A _ s H vs Q E hr h=>mZ h fun x ow tx h=>?_;let⟨dt,ml,rs,at',df,q⟩:=h;let⟨fs,c,hx,aS,sf⟩:=at'.o;show#[_,((aj (aN (He*>T.oR (ad 0) (aa (dl (.str "lead") T.SJ #[_,rfl]) (aa (ad 1) (aa ap (aa ap (aa (ad 2) ae))))))))).h,?_];exists 0;left;show#[x,dt,fs,rfl,hx,(sf _).trans rfl,dt,ml,rs,at',df,q]
structure Lh(N:Cn)(H:Hp)(A:Ad)(L:List Ta)(M:Hs)(z:Str)(t:List Nat)(kd mi re tx:Str)(Q:VK)(E:XK):Prop where
 i:aH N.CH N.CS N.CT H A L M
 p:gq t
 hz:(aG (sD M.ro) (.inr z)).isSome=true
 YF:mi∈oH
 wQ:re∈oH
 hL:L.length<=400
 hl:∀ (f:Nat) t0,M.ts[f]?=!t0->t0.aO.length<=400
 r:∃ root r,om #[L,M,z,true,root] t r/\(∀ x,r=.inl x->gu N H E x)/\∀ f nm a0 t0,r=.inr (f,nm)->L[f]?=!a0->M.ts[f]?=!t0->tN N.CH N.CS N.CT A L M f t0 a0 (Tx.S nm) kd z mi re tx H Q
def  Q6(N:Cn):Sp:=De fun h z pt mi re H Q E=>X4 fun A L M t=>A3 (pt=Tx.S t) (Lh N H A L M z t "folder" mi re "" Q E) (A.a=h)
def Lr:aC P w K mg base (dh P w) 15 T.FF T.vL ["house","asker","path","mine","rest"] (Q6 T.cn):=by
 show T.vo.fG HB (fun vs H Q E h=>?_) (fun ax A _ s H vs Q E hr h=>?_)
 ·show wY h fun _ _ _ _ _ _=>rfl
 ·show wY h fun hh z pt mi re h=>?_;let⟨AA,L,M,t,rfl,pr,rfl⟩:=h;let⟨pI,gc,gh,o7,gx⟩:=pr.i.h;let⟨root,r,iz,q1,q2⟩:=pr.r;show bS (b:=aW qE) ((al (bj (eJ T.aK T.fA.h (oM T) hr.m T.fA.b .nil fH (ad 0) (aa (ad 1) ae)))
  (al (bj (mP<$>T.cY (aa (ad 2) ae)))
  (al (bj (yl<$>T.gj (aa (ad 3) ae)))
  (al (bj (yl<$>T.gj (aa (ad 4) ae)))
  (al (aR 5 HB.nd (G5<*>T.lh (aa (ad 0) (aa (ad 1) (aa (ad 2) ae)))))
  (aj (aN (Gy<$>T.lI (aa (ad 0) (aa (ad 5) (aa (Gq*>T.nU (am T.aK T.ie (ad 0)) (aa (ad 1) (aa (ad 3) (aa (ad 4) ae)))) ae)))))))))))) ?_
  exists 1;right;show(mI gh gx (qF pr.i pr.hz (aq ?_)));left;show#[t,rfl,pr.p.l1,pr.p.l2,pr.p.all,fun H1 l p s1 _ hl hp=>aq ?_];left;show#[pr.YF,aq ?_];left;show#[pr.wQ,aq ?_];left;show#[AA,L,M,root,t,r,rfl,pr.p,pr.i.same s1,rfl,pr.hz,iz,fun x e=>(q1 x e).of s1,fun f nm e x dx H2 fx s2 hx=>?_];left;have i2:=pr.i.same (s1.trans s2);let⟨NR,N9,rN,Oy,rK⟩:=i2.h;let⟨gs,c2,ht,eR,sg⟩:=i2.t;let⟨_,_,pE,_⟩:=(pr.i.same s1).t;subst e;cases iz with
  | free g hn gY kg hw hv =>
   show(fI rN rK rfl (mI ht sg #[AA.dt,AA.ml,_,Lv i2,by rw[pi];have:=pr.hL;omega,Jg i2 gY kg hx hv (pr.hl _ _ kg) (ut (bt pE fx)) ((q2 _ _ _ _ rfl gY kg).of (s1.trans s2))]))
def  Xp(N:Cn):Sp:=HL fun h z pt tx H Q E=>X5 fun A L M t tl=>A6 (pt=Tx.S t) (tx=Tx.S tl) (Lh N H A L M z t "lead" "" "" tx Q E) (A.a=h) (gq tl) (tl.length<=120)
def UO:aC P w K mg base (dh P w) 15 T.pX.f T.pX.d ["house","asker","path","lead"] (Xp T.cn):=by
 show T.pX.F.fG J7 (fun _ _ _ _ h=>IC h fun _ _ _ _ _=>rfl) fun ax A _ s H vs Q E hr h=>IC h fun hh z pt tx h=>?_;let⟨AA,L,M,t,tl,rfl,rfl,pr,rfl,yT,Ol⟩:=h;let⟨pI,gc,gh,o7,gx⟩:=pr.i.h;let⟨root,r,iz,q1,q2⟩:=pr.r;show bS (b:=aW An) ((al (bj (eJ T.aK T.fA.h (oM T) hr.m T.fA.b .nil fH (ad 0) (aa (ad 1) ae)))
 (al (bj (mP<$>T.cY (aa (ad 2) ae)))
 (al (bj (Uq<$>T.rq (aa (ad 3) ae)))
 (al (aR 4 J7.nd (G5<*>T.lh (aa (ad 0) (aa (ad 1) (aa (ad 2) ae)))))
 (aj (aN (Gy<$>T.lI (aa (ad 0) (aa (ad 4) (aa (aay*>T.ud (am T.aK T.ie (ad 0)) (aa (ad 1) (aa (ad 3) ae))) ae))))))))))) ?_
 exists 1;right;show(mI gh gx (qF pr.i pr.hz (aq ?_)));left;show#[t,rfl,pr.p.l1,pr.p.l2,pr.p.all,fun H1 l p s1 _ hl hp=>aq ?_];left;show#[tl,rfl,yT,Ol,fun H1' s1'=>aq ?_]
 replace s1:=s1.trans s1'
 clear hl hp;generalize H1'=H1 at s1 ⊢;left;show#[AA,L,M,root,t,r,rfl,pr.p,pr.i.same s1,rfl,pr.hz,iz,fun x e=>(q1 x e).of s1,fun f nm e x dx H2 fx s2 hx=>?_];left;have i2:=pr.i.same (s1.trans s2);let⟨NR,N9,rN,Oy,rK⟩:=i2.h;let⟨gs,c2,ht,eR,sg⟩:=i2.t;let⟨_,_,pE,_⟩:=(pr.i.same s1).t;subst e;cases iz with
 | free g hn gY kg hw hv =>
  show(fI rN rK rfl (mI ht sg #[AA.dt,AA.ml,_,Lv i2,by rw[pi];have:=pr.hL;omega,Jg i2 gY kg hx hv (pr.hl _ _ kg) (ut (bt pE fx)) ((q2 _ _ _ _ rfl gY kg).of (s1.trans s2))]))
inductive BR(d:Wd)(t:List Nat):Sum Rf Nat->Prop
 | way {e}:fg d t e->(∀ k ns,e.res≠.found k ns)->BR d t (.inl (.way e.res))
 | file {e k ns a th}:fg d t e->e.res=.found k ns->d.L[k]?=!a->d.M.ts[k]?=!th->th.kd≠("folder":Str)->BR d t (.inl (.gI "file"))
 | ok {e k ns a th}:fg d t e->e.res=.found k ns->d.L[k]?=!a->d.M.ts[k]?=!th->th.kd=("folder":Str)->BR d t (.inr k)
inductive xI(d:Wd)(t:List Nat):Sum Rf Nat->Prop
 | way {e}:fg d t e->(∀ k ns,e.res≠.found k ns)->xI d t (.inl (.way e.res))
 | Tp {e k ns a th}:fg d t e->e.res=.found k ns->d.L[k]?=!a->d.M.ts[k]?=!th->th.ow≠d.z->xI d t (.inl (.gI "mine"))
 | ok {e k ns a th}:fg d t e->e.res=.found k ns->d.L[k]?=!a->d.M.ts[k]?=!th->th.ow=d.z->xI d t (.inr k)
def  abc(N:Cn):Sp:=De fun h z pt m r H Q E=>X6 fun A L M root t x=>A8 (pt=Tx.S t) (aH N.CH N.CS N.CT H A L M) (A.a=h) (xI #[L,M,z,true,root] t x) (m∈oH) (r∈oH) (∀ y,x=.inl y->gu N H E y) (∀ k a th,x=.inr k->L[k]?=!a->M.ts[k]?=!th ->
   ∀ H',aH N.CH N.CS N.CT H' A L { M with ts:=M.ts.set k { th with mi:=m,re:=r } }->Kp [A.t,a.th] H H'->Q .ao H')
def Xk:aC P w K mg base (dh P w) 16 T.qW.f T.qW.d ["house","asker","path","mine","rest"] (abc T.cn):=by
 show T.qW.F.fG Hk (fun _ _ _ _ h=>wY h fun _ _ _ _ _ _=>rfl) fun ax A _ s H vs Q E hr h=>wY h fun hh z pt m r h=>?_;let⟨AA,L,M,root,tt,x,rfl,i,rfl,hx,hm,hr',q1,q2⟩:=h;let⟨e,pa,g1,g2⟩:∃ e,fg ⟨L,M,z,true,root⟩ tt e/\((∀ k ns,e.res≠.found k ns)->x=.inl (.way e.res))/\∀ k ns,e.res=.found k ns->∃ a th,L[k]?=!a/\M.ts[k]?=!th/\(th.ow=z->x=.inr k)/\(th.ow≠z->x=.inl (.gI "mine")):=by
  cases hx with
  | way h1 h2=>show#[_,h1,fun _=>rfl,fun k ns e=>absurd e (h2 k ns)]
  | Tp h1 h2 h3 h4 h5=>show#[_,h1,fun k=>absurd h2 (k _ _),fun k ns e=>by rw[h2]at e;cases e;show#[_,_,h3,h4,fun z=>absurd z h5,fun _=>rfl]]
  | ok h1 h2 h3 h4 h5=>show#[_,h1,fun k=>absurd h2 (k _ _),fun k ns e=>by rw[h2]at e;cases e;show#[_,_,h3,h4,fun _=>rfl,fun z=>absurd h5 z]]
 let⟨pI,gc,gh,o7,gx⟩:=i.h;show bS (b:=aW B4) ((al (bj (eJ T.aK T.fA.h (oM T) hr.m T.fA.b .nil fH (ad 0) (aa (ad 1) ae)))
 (al (bj (mP<$>T.cY (aa (ad 2) ae)))
 (al (bj (yl<$>T.gj (aa (ad 3) ae)))
 (al (bj (yl<$>T.gj (aa (ad 4) ae)))
 (al (aR 5 Hk.nd (Sn<*>T.qj (aa (ad 0) (aa (ad 1) (aa (ad 2) ae)))))
 (al (aX (bf jg (aaE<*T.vm (ad 0) (aa (ad 5) ae)) (ad 1)) (aj (uR tO rfl rfl T.wN T.u9 T.xh (xn T) hr.m T.mV.b (aa ap ae))) ce)
 (aj (bj (Pq*>T.u6 (am T.aK T.ie (ad 0)) (aa (ad 5) (aa (ad 3) (aa (ad 4) ae))))))))))))) ?_
 exists 1;right;show(mI gh gx (qF i pa.hz (aq ?_)));left;show#[tt,rfl,pa.l1,pa.l2,pa.all,fun H1 l p s1 _ hl hp=>aq ?_];left;show#[hm,aq ?_];left;show#[hr',aq ?_];left;show#[AA,L,M,root,tt,e,rfl,i.same s1,rfl,pa,fun k ns he H2 s2=>aq ?_,fun hn=>(q1 _ (g1 hn)).of s1]
 ·left;have i2:=i.same (s1.trans s2);let⟨NR,N9,rN,Oy,rK⟩:=i2.h;let⟨gs,c2,ny,eR,sg⟩:=i2.t;let⟨a,t,ha,ht,g3,g4⟩:=g2 k ns he;show(mI rN rK #[AA,L,M,k,a,t,i2,rfl,rfl,ha,ht,?_]);change(if (Bool.not (decide (t.ow=z)))=true then _ else _);by_cases how:t.ow=z
  ·rw[u8 how];show bb (fI rN rK rfl (mI ny sg #[AA,L,M,k,a,t,i2,rfl,rfl,ha,ht,fun H3 i3 k3=>q2 k a t (g3 how) ha ht H3 i3 ((Kp.of (s1.trans s2)).trans k3)]))
  ·rw[kt how];show bY #[_,rfl,fun d hd=>(q1 _ (g4 how)).raise (s1.trans s2) hd]
def  AS:List Str:=["ann","bo"]
inductive cU(M:Hs)(r:Nat):Nat->Prop
 | refl:cU M r r
 | up {k f nm t}:M.ts[k]?=!t->t.bZ=[(f,nm)]->cU M r f->cU M r k
structure uW(M:Hs)(k:Nat)(t:Th):Prop where
 nl:t.aO.length<=M.ts.length
 kd:t.kd=("folder":Str)\/t.kd=("file":Str)\/t.kd=("lead":Str)
 ld:t.kd=("lead":Str)->∃ tl,t.tx=Tx.S tl/\gq tl/\tl.length<=120
 pl:k=0/\t.bZ=[]\/∃ (f:Nat) (nm:Str) (tf:Th),f < k/\t.bZ=[(f,nm)]/\nm.length<=8/\M.ts[f]?=!tf/\tf.kd=("folder":Str)
 ch:∀ z v,aG (sD t.aO) (.inr z)=!v->∃ (c:Nat) (tc:Th),v=.int (c:Int)/\M.ts[c]?=!tc/\tc.bZ=[(k,z)]
structure kR(M:Hs)(z:Str)(r k:Nat):Prop where
 ro:aG (sD M.ro) (.inr z)=!.int (r:Int)
 st:aG (sD M.st) (.inr z)=!.int (k:Int)
 b:cU M r k
 tr:∃ t,M.ts[r]?=!t/\t.kd=("folder":Str)
 tk:∃ t,M.ts[k]?=!t/\t.kd=("folder":Str)
structure Gd(M:Hs):Prop where
 tr:M.tr=[(("main":Str),0)]
 ov:M.ov=[]
 un:M.un=[]
 as:∀ z∈AS,∃ r k,kR M z r k
 rl:M.ro.length<=3
 sl:M.st.length<=3
 t0:∃ t,M.ts[0]?=!t/\t.kd=("folder":Str)
 th:∀ k t,M.ts[k]?=!t->uW M k t
def  gE(p:Str):Prop:=p=(".":Str)\/p=("..":Str)\/fS (.str p)=true/\p.length<=8
def wU{wd:List Nat}(h:cq wd=true):gE (Tx.S wd):=by
 unfold cq at h;simp only[Jac,_g]at h;rcases h with (rfl | rfl) | h
 ·show .inl (by symm)
 ·show .inr (.inl (by symm))
 ·show .inr (.inr #[xG h,by rw[Tx.c9];show(fj h).2.2.2])
def Vc{t:Th}(h:t.kd=("file":Str)\/t.kd=("lead":Str)):t.kd≠("folder":Str):=by rcases h with h | h <;> rw[h] <;> symm
def Xe{t:Th}(h:t.kd=("lead":Str)):t.kd≠("file":Str):=by rw[h];symm
section
variable {M:Hs}{L:List Ta}{z:Str}{r:Nat}
def adr(hL:L.length=M.ts.length){k:Nat}{t:Th}(h:M.ts[k]?=!t):∃ a,L[k]?=!a :=
 #[_,sw (by rw[hL];show(ss.mp h).1)]
def Gd.eP(g:Gd M)(k:Nat):dB M k k [] :=
 #[#[0,by unfold lC;rw[g.un];show#[rfl,rfl]],0,by unfold ke;rw[g.ov];show#[rfl,rfl],wS _]
def Gd.jh(g:Gd M){k b:Nat}{r:List Nat}(h:dB M k b r):b=k/\r=[]:=by
 let⟨⟨n,h1⟩,n2,h2,_⟩:=h;show#[?_,?_]
 ·cases n with
  | zero=>show h1.2
  | succ n=>let⟨k',e,_⟩:=h1;rw[g.un]at e;cases e
 ·cases n2 with
  | zero=>show h2.2
  | succ n=>let⟨k',r,e,_⟩:=h2;rw[g.ov]at e;cases e
def jY{k:Nat}:gr r [k]=decide (k=r):=by
 unfold gr;by_cases h:k=r
 ·simp[h]
 ·simp[h]
def Gd.par(g:Gd M){k:Nat}{t:Th}(ht:M.ts[k]?=!t)(hb:cU M r k)(hk:k≠r):∃ (f:Nat) (nm:Str) (tf:Th),f < k/\t.bZ=[(f,nm)]/\nm.length<=8/\M.ts[f]?=!tf/\tf.kd=("folder":Str)/\cU M r f:=by
 cases hb with
 | refl=>show absurd rfl hk
 | up h1 h2 h3 =>
  rw[ht]at h1;cases h1;rcases (g.th k t ht).pl with ⟨_,e⟩ | ⟨f,nm,tf,hf,hp,hl,cf,fq⟩
  ·rw[e]at h2;cases h2
  ·rw[hp]at h2;cases h2;show#[_,_,tf,hf,hp,hl,cf,fq,h3]
def Gd.seen(g:Gd M)(hL:L.length=M.ts.length):∀ (n k:Nat) (t:Th),k<=n->M.ts[k]?=!t->cU M r k->lL M L r n k true
 | n,k,t,hk,ht,hb=>by
  let⟨a,ha⟩:=adr hL ht;unfold lL;show#[k,[],a,t,ha,ht,g.eP k,?_];rw[At (show k=dS k [] from rfl),jY];by_cases h0:k=r
  ·rw[At (u8 h0)]
  ·rw[wT (by rw[kt h0];nofun)];let⟨f,nm,tf,hf,hp,_,cf,_,hb'⟩:=g.par ht hb h0;show#[a,t,ha,ht,.inr #[f,nm,hp,?_]]
   match n,hk with
   | 0,hk=>omega
   | n+1,hk=>show g.seen hL n f tf ∅ cf hb'
def Gd.nm(g:Gd M)(hL:L.length=M.ts.length):∀ (n k:Nat) (t:Th),k<=n->M.ts[k]?=!t->cU M r k->∃ ns,ia M L r n k ns/\ns.length<=k/\∀ s∈ns,s.length<=8
 | n,k,t,hk,ht,hb=>by
  let⟨a,ha⟩:=adr hL ht;by_cases h0:k=r
  ·show#[[],?_,wS _,fun _ h=>by cases h];unfold ia;show#[k,[],a,t,ha,ht,g.eP k,by rw[jY,At (u8 h0)]]
  ·let⟨f,nm,tf,hf,hp,hl,cf,_,hb'⟩:=g.par ht hb h0
   match n,hk with
   | 0,hk=>omega
   | n+1,hk =>
    let⟨ns,h1,h2,h3⟩:=g.nm hL n f tf ∅ cf hb';show#[ns++[nm],?_,by rw[mo];simp;omega,fun s hs=>?_]
    ·unfold ia;show#[k,[],a,t,ha,ht,g.eP k,?_];rw[jY,wT (by rw[kt h0];nofun)];show#[a,t,f,nm,ha,ht,hp,ns,rfl,h1]
    ·rcases AC.mp hs with hs | hs
     ·show h3 s hs
     ·rw[wn.mp hs];show hl
def yC:fS (.str (".":Str))=false/\fS (.str ("..":Str))=false:=by symm
end
def  Val(M:Hs)(r:Nat)(S:Ws):Prop:=∃ t,M.ts[S.here]?=!t/\(t.kd=("folder":Str)/\cU M r S.here\/t.kd≠("folder":Str)/\∃ (f:Nat) (nm:Str) (tf:Th),S.place=!(f,nm)/\nm.length<=8/\M.ts[f]?=!tf/\cU M r f)
def  di:List (Sum Nat Str)->Nat
 | []=>0
 | .inl _::r=>di r+1
 | .inr _::r=>di r
def gK:∀ (a b:List (Sum Nat Str)),di (a++b)=di a+di b
 | [],b=>by simp[di]
 | .inl _::a,b=>by change di (a++b)+1=di a+1+di b;rw[gK a b];omega
 | .inr _::a,b=>gK a b
def B9(c:Nat)(t:List Nat):(Tx.words c t).length<=t.length+1:=tz (_E _ _) (Tx.uc c t)
def Jq:∀ ps:List Str,di (ps.map Sum.inr)=0
 | []=>rfl
 | _::r=>Jq r
def sR(ps:List Str):di (bH ps)=0:=by
 unfold bH;rw[<- List.map_reverse];show Jq _
structure dw(d:Wd)(S:Ws):Prop where
 v:Val d.M d.root S
 ps:∀ p,Sum.inr p∈S.left->gE p
 cn:di S.left=S.aI.length
 rl:S.read<=40
def  mu(S:Ws):Nat:=126 * (40 - S.read)+S.left.length
def tE{t:List Nat}(h:(Tx.words 47 t).all cq=true):∀ p∈cC t,gE p:=fun p hp=>by
 let⟨x,hx,rfl⟩:=Do.mp hp;show wU (Ix.mp (aa8 (t:=t) h) x hx)
def sS{ps:List Str}{p:Str}(h:Sum.inr p∈bH ps):p∈ps:=by
 unfold bH at h;let⟨q,hq,e⟩:=Do.mp (List.mem_reverse.mp h);cases e;show hq
section
variable {d:Wd}
def CU(g:Gd d.M)(hL:d.L.length=d.M.ts.length)(hr:∃ t,d.M.ts[d.root]?=!t/\t.kd=("folder":Str)){S:Ws}{p:Str}(w:dw d S)(hp:gE p):∃ S' o,du d S p S' o/\(o=none->dw d S'/\mu S'<=mu S):=by
 let⟨t,ht,hk⟩:=w.v;let⟨a,ha⟩:=adr hL ht;by_cases cz:t.kd=("folder":Str)
 ·have hb:cU d.M d.root S.here:=by
   rcases hk with h | h
   ·show h.2
   ·show absurd cz h.1
  cases hm:ee ("g":Str) (dj t d.z) with
  | false=>show#[_,_,.kM ha ht cz hm,nofun]
  | true =>
   have hA:wL d S t:=#[#[a,ha],ht,cz,hm];rcases hp with hp | hp | ⟨hp,hp8⟩
   ·show#[_,_,.dot hA hp,fun _=>#[#[#[t,ht,.inl #[cz,hb]],w.ps,w.cn,w.rl],lm _]]
   ·by_cases h0:S.here=d.root
    ·show#[_,_,.up hA hp (.gL ha ht (g.eP _) (by rw[jY];show u8 h0)),fun _=>#[#[#[t,ht,.inl #[cz,hb]],w.ps,w.cn,w.rl],lm _]]
    ·let⟨f,nm,tf,hf,bx,hl,cf,fq,hb'⟩:=g.par ht hb h0;let⟨af,gS⟩:=adr hL cf;show#[_,_,.up hA hp (.up ha ht (g.eP _) (by rw[jY];show kt h0) ha ht bx gS cf (g.eP f)),fun _=>#[#[#[tf,cf,.inl #[fq,hb']],w.ps,w.cn,w.rl],lm _]]
   ·have n1:p≠("..":Str):=fun e=>by rw[e,yC.2]at hp;cases hp
    have n2:p≠(".":Str):=fun e=>by rw[e,yC.1]at hp;cases hp
    cases hv:aG (sD t.aO) (.inr p) with
    | none=>show#[_,_,.go hA n1 n2 hp ∅ (.no hv),nofun]
    | some u =>
     let⟨k,tc,rfl,bU,yJ⟩:=(g.th _ t ht).ch _ _ hv;let⟨ac,cW⟩:=adr hL bU;by_cases dP:tc.kd=("folder":Str)
     ·show#[_,_,.go hA n1 n2 hp ∅ (.folder hv cW bU dP (g.eP k)),fun _=>#[#[#[tc,bU,.inl #[dP,.up bU yJ hb]],w.ps,w.cn,w.rl],lm _]]
     by_cases hf:tc.kd=("file":Str)\/S.left=[]/\d.last=false
     ·show#[_,_,.go hA n1 n2 hp ∅ (.fin hv cW bU dP hf),fun _=>#[#[#[tc,bU,.inr #[dP,_,_,t,rfl,hp8,ht,hb]],w.ps,w.cn,w.rl],lm _]]
     have eG:tc.kd=("lead":Str):=by
      rcases (g.th _ tc bU).kd with h | h | h
      ·show absurd h dP
      ·show absurd (.inl h) hf
      ·show h
     have eY:tc.kd≠("file":Str):=fun z=>hf (.inl z);have eI:¬ (S.left=[]/\d.last=false):=fun z=>hf (.inr z);by_cases hm1:k∈S.aI
     ·show#[_,_,.go hA n1 n2 hp ∅ (.lead hv cW bU dP eY eI (.ring hm1)),nofun]
     by_cases nh:S.read=40
     ·show#[_,_,.go hA n1 n2 hp ∅ (.lead hv cW bU dP eY eI (.many hm1 nh)),nofun]
     let⟨tl,e1,e2,e3⟩:=(g.th _ tc bU).ld eG;let⟨tr,dC,ph⟩:=hr;let⟨ar,vD⟩:=adr hL dC;have hlen:(cC tl).length<=124:=by
      have h1:=@AU (Tx.words 47 tl) tl;have h2:=B9 47 tl;unfold cC;rw[pi];omega
     have rH:=wI (cC tl);have df:=w.rl;show#[_,_,.go hA n1 n2 hp ∅ (.lead hv cW bU dP eY eI (.read hm1 nh (.mk cW bU e1 e2.l1 e2.l2 e2.all hlen vD dC (g.eP _)))),fun _=>#[#[?_,fun q hq=>?_,?_,?_],?_]]
     ·unfold gA;by_cases eF:cu tl=true
      ·rw[At eF];show#[tr,dC,.inl #[ph,.refl]]
      ·rw[wT eF];show#[t,ht,.inl #[cz,hb]]
     ·unfold gA at hq;rcases AC.mp hq with hq | hq
      ·rcases AC.mp hq with hq | hq
       ·show w.ps q hq
       ·cases wn.mp hq
      ·show tE e2.all q (sS hq)
     ·unfold gA;change di ((S.left++[.inl k])++bH (cC tl))=(S.aI++[k]).length;rw[gK,gK,sR,w.cn,mo];rfl
     ·unfold gA;change S.read+1<=40;omega
     ·unfold gA mu dQ;simp only[mo,xL,_d,rH];omega
 ·show#[_,_,.flat ha ht cz,nofun]
def AN(g:Gd d.M)(hL:d.L.length=d.M.ts.length)(hr:∃ t,d.M.ts[d.root]?=!t/\t.kd=("folder":Str)):∀ (n:Nat) {S:Ws},mu S<=n->dw d S->∃ m S' o,cQ d m S S' o/\(o=none->Val d.M d.root S')
 | n,S,hn,w=>by
  rcases List.eq_nil_or_concat S.left with e | ⟨l,x,e⟩
  ·show#[_,_,_,.done e,fun _=>w.v]
  rw[List.concat_eq_append]at e;have hlen:S.left.length=l.length+1:=by rw[e,mo];rfl
  have ej:∀ p,Sum.inr p∈l->gE p:=fun p hp=>w.ps p (by rw[e];show xz _ hp);have iS:=w.cn;rw[e,gK]at iS
  match n,hn with
  | 0,hn=>unfold mu at hn;omega
  | n+1,hn =>
   cases x with
   | inl k =>
    have h1:di [Sum.inl (β:=Str) k]=1:=rfl;rw[h1]at iS;rcases List.eq_nil_or_concat S.aI with er | ⟨r,j,er⟩
    ·rw[er]at iS;simp at iS
    rw[List.concat_eq_append]at er;rw[er,mo]at iS;let⟨m,S',o,h2,h3⟩:=AN g hL hr n (S:={ S with left:=l,aI:=r }) (by unfold mu at hn ⊢;dsimp only;omega) #[w.v,ej,by change di l=r.length;simp at iS;omega,w.rl];show#[_,_,_,.pop e er h2,h3]
   | inr p =>
    have h1:di [Sum.inr (α:=Nat) p]=0:=rfl;rw[h1]at iS;let⟨S1,o,h2,h3⟩:=CU g hL hr (S:={ S with left:=l }) (p:=p) #[w.v,ej,iS,w.rl] (w.ps p (by rw[e];simp));cases o with
    | some y=>show#[_,_,_,.fail e h2,nofun]
    | none =>
     let⟨w1,hm⟩:=h3 rfl;let⟨m,S',o,h4,h5⟩:=AN g hL hr n (S:=S1) (by unfold mu at hn hm ⊢;dsimp only at hm;omega) w1;show#[_,_,_,.step e h2 h4,h5]
def du.V3{S S':Ws}{p:Str}{o:Option Tl}{x:Sum Nat Str}{r:List (Sum Nat Str)}(h:du d S p S' o)(e:S.left=x::r):∃ r',S'.left=x::r':=by
 cases h with
 | flat=>show#[_,e]
 | kM=>show#[_,e]
 | dot=>show#[_,e]
 | up=>show#[_,e]
 | go _ _ _ _ _ hb =>
  cases hb with
  | no=>show#[_,e]
  | folder=>show#[_,e]
  | fin=>show#[_,e]
  | lead _ _ _ _ _ _ hm =>
   cases hm with
   | ring=>show#[_,e]
   | many=>show#[_,e]
   | read _ _ hr =>
    cases hr;unfold gA;dsimp only;show#[_,by rw[show(dQ S).left=x::r from e];rfl]
def OV{n:Nat}{S S':Ws}{o:Option Tl}(h:cQ d n S S' o):o=none->∀ {r},S.left=.inr (".":Str)::r->∃ t,d.M.ts[S'.here]?=!t/\t.kd=("folder":Str):=by
 induction h with
 | done e=>intro _ r e';rw[e]at e';cases e'
 | @pop n S k l r j S' o e er _ ih =>
  intro ho r' e';rw[e]at e'
  match l,e' with
  | [],e'=>cases e'
  | y::l,e' =>
   rw[List.cons_append]at e';injection e' with e1 e2;show ih ho (by rw[e1])
 | @step n S p l S1 S' o e hs hr ih =>
  intro ho r' e';rw[e]at e'
  match l,e' with
  | [],e' =>
   have ep:p=(".":Str):=by injection e' with e1 e2;show Sum.inr.inj e1
   subst ep;cases hs with
   | dot hA _ =>
    cases hr with
    | done _=>show#[_,hA.e,hA.k]
    | pop e1=>show absurd e1 (by unfold dQ;simp)
    | step e1=>show absurd e1 (by unfold dQ;simp)
    | fail e1=>show absurd e1 (by unfold dQ;simp)
   | up _ h5=>show absurd h5 (by symm)
   | go _ _ h6=>show absurd rfl h6
  | y::l,e' =>
   rw[List.cons_append]at e';injection e' with e1 e2;let⟨r2,e3⟩:=hs.V3 (x:=y) (r:=l) rfl;show ih ho (by rw[e3,e1])
 | fail=>intro ho;cases ho
def G3(g:Gd d.M)(hL:d.L.length=d.M.ts.length)(hn:d.M.ts.length<=90){S:Ws}(v:Val d.M d.root S):∃ ns bV,tY d.M d.L d.root S ns bV:=by
 let⟨t,ht,hk⟩:=v;let⟨a,ha⟩:=adr hL ht;rcases hk with ⟨cz,hb⟩ | ⟨cz,f,nm,tf,hp,h8,cf,hb⟩
 ·let⟨ns,h1,h2,h3⟩:=g.nm hL S.here S.here t (lm _) ht hb;have:=(ss.mp ht).1;show#[ns,[],S.here,a,t,ha,ht,.inl #[cz,rfl,rfl],#[_,h1],∅,h3]
 ·let⟨ns,h1,h2,h3⟩:=g.nm hL f f tf (lm _) cf hb;have:=(ss.mp cf).1;show#[ns,[nm],f,a,t,ha,ht,.inr #[cz,nm,hp,rfl,h8],#[_,h1],∅,h3]
end
def  HV(M:Hs)(r:Nat)(e:End):Prop:=∀ k ns,e.res=.found k ns->∃ t,M.ts[k]?=!t/\(t.kd=("folder":Str)->cU M r k)
section
variable {M:Hs}{L:List Ta}{z:Str}{r:Nat}{last:Bool}
def Wr(g:Gd M)(hL:L.length=M.ts.length)(hn:M.ts.length<=90)(hz:z∈AS)(last:Bool){fr:Bool}{ps:List Str}(ej:∀ p∈ps,gE p)(hl:ps.length<=2500) :
  ∃ r e,aG (sD M.ro) (.inr z)=!.int ((r:Nat):Int)/\lx #[L,M,z,last,r] fr ps e/\HV M r e/\∀ qs,ps=qs++[(".":Str)]->∀ k ns,e.res=.found k ns->∃ t,M.ts[k]?=!t/\t.kd=("folder":Str):=by
 let⟨r,k0,ga⟩:=g.as z hz;let⟨st,t,aQ,ht,cz,hb⟩:∃ (st:Nat) (t:Th),(fr=true/\st=r\/fr=false/\aG (sD M.st) (.inr z)=!.int (st:Int))/\M.ts[st]?=!t/\t.kd=("folder":Str)/\cU M r st:=by
  cases fr with
  | true=>let⟨t,h1,h2⟩:=ga.tr;show#[r,t,.inl #[rfl,rfl],h1,h2,.refl]
  | false=>let⟨t,h1,h2⟩:=ga.tk;show#[k0,t,.inr #[rfl,ga.st],h1,h2,ga.b]
 let⟨a,ha⟩:=adr hL ht;let⟨n,S',o,hr,hv⟩:=AN (d:=#[L,M,z,last,r]) g hL ga.tr _ (S:=#[st,none,0,[],bH ps,[],0,0]) (lm _) #[#[t,ht,.inl #[cz,hb]],fun p hp=>ej p (sS hp),sR ps,wS _];have hB:mW #[L,M,z,last,r] fr st:=#[ga.ro,st,st,[],a,t,aQ,ha,ht,g.eP st,#[st,g.seen hL st st t (lm _) ht hb],rfl];cases o with
 | some y=>show#[r,_,ga.ro,.told hB hl hr,fun k ns e=>(by cases y <;> cases e),fun qs _ k ns e=>by cases y <;> cases e]
 | none =>
  let⟨ns,bV,dC⟩:=G3 (d:=#[L,M,z,last,r]) g hL hn (hv rfl);show#[r,_,ga.ro,.found hB hl hr dC,fun k ns' e=>?_,fun qs hq k ns' e=>?_]
  ·cases e;let⟨t',h,hh⟩:=hv rfl;show#[t',h,fun hf=>?_];rcases hh with hh | hh
   ·show hh.2
   ·show absurd hf hh.1
  ·cases e;show OV hr rfl (r:=bH qs |>.map id) (by rw[hq];unfold bH;simp)
def sN(g:Gd M)(hL:L.length=M.ts.length)(hn:M.ts.length<=90)(hz:z∈AS)(last:Bool){t:List Nat}(p:gq t):∃ r e,aG (sD M.ro) (.inr z)=!.int ((r:Nat):Int)/\fg #[L,M,z,last,r] t e/\HV M r e:=by
 have hw:=@AU (Tx.words 47 t) t;have h2:=B9 47 t;have h3:=p.l2;let⟨r,e,h0,h1,h2,_⟩:=Wr g hL hn hz last (fr:=cu t) (tE p.all) (by unfold cC;rw[pi];omega);show#[r,e,h0,#[p.l1,p.l2,p.all,h1],h2]
def Gd.lift{M':Hs}(g:Gd M)(h1:M'.ro=M.ro)(h2:M'.st=M.st)(h3:M'.tr=M.tr)(h4:M'.ov=M.ov)(h5:M'.un=M.un)(old:∀ (k:Nat) (t:Th),M.ts[k]?=!t->∃ t':Th,M'.ts[k]?=!t'/\t'.kd=t.kd/\t'.bZ=t.bZ)(th:∀ k t,M'.ts[k]?=!t->uW M' k t):Gd M':=by
 have bl:∀ {r k},cU M r k->cU M' r k:=fun {r k} b=>by
  induction b with
  | refl=>show .refl
  | up a1 a2 _ ih =>
   let⟨t',e1,_,e3⟩:=old _ _ a1;show .up e1 (e3.trans a2) ih
 show#[h3.trans g.tr,h4.trans g.ov,h5.trans g.un,fun z hz=>?_,by rw[h1];show g.rl,by rw[h2];show g.sl,?_,th]
 ·let⟨r,k,a⟩:=g.as z hz;show#[r,k,by rw[h1];show a.ro,by rw[h2];show a.st,bl a.b,?_,?_]
  ·let⟨t,e1,e2⟩:=a.tr;let⟨t',e3,e4,_⟩:=old _ _ e1;show#[t',e3,e4.trans e2]
  ·let⟨t,e1,e2⟩:=a.tk;let⟨t',e3,e4,_⟩:=old _ _ e1;show#[t',e3,e4.trans e2]
 ·let⟨t,e1,e2⟩:=g.t0;let⟨t',e3,e4,_⟩:=old _ _ e1;show#[t',e3,e4.trans e2]
def uW.lift{M':Hs}{k:Nat}{t t':Th}(h:uW M k t)(hl:M.ts.length<=M'.ts.length)(e1:t'.kd=t.kd)(e2:t'.bZ=t.bZ)(e3:t'.aO=t.aO)(e4:t'.tx=t.tx)(old:∀ (k:Nat) (t:Th),M.ts[k]?=!t->∃ t':Th,M'.ts[k]?=!t'/\t'.kd=t.kd/\t'.bZ=t.bZ):uW M' k t':=by
 show#[by rw[e3];show tz h.nl hl,by rw[e1];show h.kd,by rw[e1,e4];show h.ld,?_,fun z v hv=>?_]
 ·rcases h.pl with ⟨a,b⟩ | ⟨f,nm,tf,a1,a2,a3,a4,a5⟩
  ·show .inl #[a,e2.trans b]
  ·let⟨t2,b1,b2,_⟩:=old _ _ a4;show .inr #[f,nm,t2,a1,e2.trans a2,a3,b1,b2.trans a5]
 ·rw[e3]at hv;let⟨c,tc,a1,a2,a3⟩:=h.ch z v hv;let⟨t2,b1,_,b3⟩:=old _ _ a2;show#[c,t2,a1,b1,b3.trans a3]
def Gd.make(g:Gd M){f:Nat}{tf:Th}{nm kd mi re tx:Str}(cf:M.ts[f]?=!tf)(fq:tf.kd=("folder":Str))(bK:nm.length<=8)(hvf:aG (sD tf.aO) (.inr nm)=none)(hk:kd=("folder":Str)\/kd=("file":Str)\/kd=("lead":Str))(hld:kd=("lead":Str)->∃ tl,tx=Tx.S tl/\gq tl/\tl.length<=120) :
  Gd { M with ts:=M.ts.set f { tf with aO:=tf.aO++[(nm,M.ts.length)] }++[#[kd,z,mi,re,tx,[],[(f,nm)]]] }:=by
 have hf:=(ss.mp cf).1;have hlen:(M.ts.set f { tf with aO:=tf.aO++[(nm,M.ts.length)] }).length=M.ts.length:=_c;have old:∀ (k:Nat) (t:Th),M.ts[k]?=!t->∃ t':Th,(M.ts.set f { tf with aO:=tf.aO++[(nm,M.ts.length)] }++[(#[kd,z,mi,re,tx,[],[(f,nm)]]:Th)])[k]?=!t'/\t'.kd=t.kd/\t'.bZ=t.bZ:=fun k t ht=>by
  have hk:=(ss.mp ht).1;rw[EQ (by rw[hlen];show hk)];by_cases e:k=f
  ·subst e;rw[P3 hk];rw[cf]at ht;cases ht;show#[_,rfl,rfl,rfl]
  ·rw[Ps (ut e)];show#[t,ht,rfl,rfl]
 have new:(M.ts.set f { tf with aO:=tf.aO++[(nm,M.ts.length)] }++[(#[kd,z,mi,re,tx,[],[(f,nm)]]:Th)])[M.ts.length]?=!#[kd,z,mi,re,tx,[],[(f,nm)]]:=by
  rw[Cl (by rw[hlen];show lm _),hlen,_z];rfl
 have ll:M.ts.length<=(M.ts.set f { tf with aO:=tf.aO++[(nm,M.ts.length)] }++[(#[kd,z,mi,re,tx,[],[(f,nm)]]:Th)]).length:=by rw[mo,hlen];omega
 show g.lift rfl rfl rfl rfl rfl old fun k t ht=>?_;have ht':(M.ts.set f { tf with aO:=tf.aO++[(nm,M.ts.length)] }++[(#[kd,z,mi,re,tx,[],[(f,nm)]]:Th)])[k]?=!t:=ht;by_cases hk':k < M.ts.length
 ·rw[EQ (by rw[hlen];show hk')]at ht';by_cases e:k=f
  ·subst e;rw[P3 hk']at ht';cases ht';have h0:=g.th k tf cf;have h:=h0.lift (M':={ M with ts:=M.ts.set k { tf with aO:=tf.aO++[(nm,M.ts.length)] }++[#[kd,z,mi,re,tx,[],[(k,nm)]]] }) (t':=tf) ll rfl rfl rfl rfl old;show#[by change(tf.aO++[(nm,M.ts.length)]).length<=_;rw[mo,mo,hlen];have:=h0.nl;simp;omega,h.kd,h.ld,h.pl,fun y v hv=>?_];have e:sD (tf.aO++[(nm,M.ts.length)])=sD tf.aO++[(.inr nm,.int ((M.ts.length:Nat):Int))]:=by unfold sD;rw[Fa];rfl
   have hv':aG (sD (tf.aO++[(nm,M.ts.length)])) (.inr y)=!v:=hv;rw[e,z7 _ _ _ _ hvf]at hv';split at hv'
   ·rename_i he;cases hv';injection he with he;show#[M.ts.length,_,rfl,new,by rw[he]]
   ·show h.ch y v hv'
  ·rw[Ps (ut e)]at ht';show(g.th k t ht').lift ll rfl rfl rfl rfl old
 ·have zp:k < M.ts.length+1:=by
   have:=(ss.mp ht').1;rw[mo,hlen]at this;show this
  have:k=M.ts.length:=∅
  subst this;rw[new]at ht';cases ht';let⟨t',e1,e2,_⟩:=old _ _ cf;show#[by change 0<=_;show wS _,hk,hld,.inr #[f,nm,t',hf,rfl,bK,e1,e2.trans fq],fun y v hv=>by cases hv]
end
def oq:T.dM.k P w base 1 qr:=by
 show T.dM.F.ok yh (fun vs H Q E h=>?_) (fun ax A _ s H vs Q E hr h=>?_)
 ·unfold qr at h;split at h
  ·rfl
  ·show h.elim
 ·unfold qr at h;split at h
  ·rename_i st b;let⟨zs,hz,hl,gO,pF,q⟩:=h;show#[_,((al (aX (bf eD (cA (iI (K:=K) rfl) T.gz No (aa (ad 0) ae)) bi) (aj (bj (gf PySem.F.slot_list_extend PySem.F.type_list_extend G9 (ad 0) (aa (db (aa (cr mv (bv (bF (K:=K) rfl) (ad 0) bi) bi) (aa bi ae))) ae)))) ce)
   (al (aX (bf Bh (bv (bF (K:=K) rfl) (ad 0) bi) bi) (al (aR 2 yh.nd (cr mv (bv (bF (K:=K) rfl) (ad 0) bi) (ad 1)))
   (al (qu (cr Ay (bv (bF (K:=K) rfl) (ad 0) bi) (ad 1)) (Ie (ad 0) bi K4))
   (aj (aN (ad 2))))) ce)
   (al (qu (cr dA (bv (bF (K:=K) rfl) (ad 0) bi) bi) (Ie (ad 0) bi K4))
   (al (aR 3 yh.nd (cr mv (cr yv (cr dA (cr dA (bv (bF (K:=K) rfl) (ad 0) bi) (cr yv bi (bv (bF (K:=K) rfl) (ad 0) bi))) bi) bi) bi))
   (al (aR 3 yh.nd (cr mv (cr yv (ad 3) (cr dA (cr Ay (ad 3) bi) bi)) bi))
   (aj (aN (cr mv (cr mv (cr yv (ad 3) (cr dA (cr Ay (ad 3) bi) bi)) bi) (ad 1)))))))))).h,?_]
   exists 2;show hJ (fun σ' H'=>σ'=[!-st,!.int b,none,none]/\∃ x y z,H' st=!.lst [.int x,.int y,.int z]/\d9 st H H') ?_ ?_
   ·have hc:(∃ a,zs=[a])\/∃ a b c,zs=[a,b,c]:=by
     rcases hl with hl | hl
     ·match zs,hl with
      | [a],_=>show .inl #[a,rfl]
     ·match zs,hl with
      | [a,b,c],_=>show .inr #[a,b,c,rfl]
    walk_at "rd";rcases hc with ⟨a,rfl⟩ | ⟨a,b',c,rfl⟩
    ·simp only[List.map]at hz;simp only[bB,hz,dv];show bY #[⋯,fits (),fun p hp=>?_];simp only[ID hz hp,ay];show#[fits (),by trivial,_,_,_,rfl,?_];show(ag.upd hp).keep st |>.trans d9.upd
    ·simp only[List.map]at hz;simp only[bB,hz,dv];show bb #[by trivial,_,_,_,rfl,fun c o _ e=>e]
   ·rintro σ' H1 ⟨rfl,x,y,z,h1,k1⟩;show aq ?_;walk_at "rd";simp only[bB,h1,dv];show oy (fun _=>?_) (fun _=>?_)
    ·show aq ?_;walk_at "rd";simp only[bB,h1,dv];show#[gO,aq ?_];walk_at "rd";simp only[bB,h1,dv,xL,aaF,List.set_cons_zero];show#[#[gO,pF],?_];show q _ [_,_,_] _ (Jad _ ∅) (_V _ gO) rfl ay (k1.trans d9.upd)
    ·show aq ?_;walk_at "rd";simp only[bB,h1,Gm,xL,_d,Wx,List.set_cons_zero,List.set_cons_succ];show aq ?_;walk_at "rd";simp only[bB,ay,uX,Gm];show#[.inl #[⋯,⋯],.inr #[⋯,⋯],⋯,aq ?_];walk_at "rd";generalize hm:(y+7919 * (z+1)+1) * 48271 % 2147483647=m;have m0:0<=m:=by rw[<- hm];show Jad _ ⋯
     have m1:m < 2147483647:=by rw[<- hm];show _V _ ⋯
     show#[#[⋯,⋯],.inl #[∅,∅],⋯,?_];generalize hn:m * (m / 1009+69621) % 2147483647=n;have n0:0<=n:=by rw[<- hn];show Jad _ ⋯
     have n1:n < 2147483647:=by rw[<- hn];show _V _ ⋯
     show#[#[⋯,⋯],.inl #[∅,∅],⋯,gO,?_];show q _ [_,_,_] _ (Jad _ ∅) (_V _ gO) rfl ay (k1.trans d9.upd)
  ·show h.elim
def  Dr(st:Addr)(H:Hp):Prop:=∃ zs:List Int,H st=!.lst (zs.map V.int)/\(zs.length=1\/zs.length=3)
def Dr.same{st:Addr}{H H':Hp}(h:Dr st H)(s:ag H H'):Dr st H':=let ⟨zs,e,l⟩:=h;#[zs,s _ _ e,l]
def Dr.ne{st p:Addr}{H:Hp}(h:Dr st H)(hp:H p=none):p≠st:=let ⟨zs,e,l⟩:=h;fun z=>by rw[z,e]at hp;cases hp
def wC{st:Addr}{b:Int}{H:Hp}{Q:VK}{E:XK}(h:Dr st H)(gO:0 < b)(pF:b<=1000)(q:∀ d H',0<=d->d < b->Dr st H'->d9 st H H'->Q (.int d) H'):qr [-st,.int b] H Q E:=by
 let⟨zs,e,l⟩:=h;show#[zs,e,l,gO,∅,fun d zs' H' d0 d1 l' e' k=>q d H' d0 d1 #[zs',e',.inr l'] k]
def pick{xs:List V}{d:Int}(h0:0<=d)(h1:d < xs.length):∃ v∈xs,cR xs d=!v:=by
 let⟨n,rfl⟩:=_r h0;have hn:n < xs.length:=∅
 show#[xs[n],_o hn,jR (sw hn)]
def ye{H:Hp}{st:Addr}{xs:List V}{Q:VK}{E:XK}{b:Int}(h:Dr st H)(hb:b=xs.length)(hn:xs.length<=1000)(h0:0 < xs.length)(q:∀ v H',v∈xs->Dr st H'->d9 st H H'->Q v H') :
  xs.length<=sizeLine/\∀ p,H p=none->qr [-st,.int b] (upd H p (.lst xs)) (fun y H2=>og K (-p) y H2 Q) E:=by
 show#[fits hn,fun p hp=>?_];show cI hp fun H1 s1 b1=>?_;have np:=h.ne hp;show wC (h.same s1) ∅ ∅ fun d H2 d0 d1 h2 k2=>?_;let⟨v,hv,e⟩:=pick (xs:=xs) d0 ∅;simp only[og,bB,k2 _ _ np b1,e];show q v H2 hv h2 ((s1.keep st).trans k2)
def  aau(CH CS CT:Addr):Sp:=jo fun x n H Q _=>X4 fun A L M (k:Nat)=>A6 (aH CH CS CT H A L M) (A.a=x) (n=(k:Int)) (M.tr=[(("main":Str),0)]) (M.un=[]) (∀ H',ag H H'->Q (.int (k:Int)) H')
def Du{M:Hs}(h:M.tr=[(("main":Str),0)]):z8 M=[("main":Str)]:=by
 unfold z8;rw[h];show Xi _
def ra:T.et.k P w base 4 (aau T.aJ T.aP T.aV):=by
 show T.et.F.ok LG (fun _ _ _ _ h=>cN h fun _ _ _=>rfl) fun ax A _ s H vs Q E hr h=>cN h fun x n h=>?_;let⟨AA,L,M,k,i,rfl,rfl,dC,y4,q⟩:=h;let⟨fs,c,hx,aS,sf⟩:=i.h;show bS (b:=aW Bc) ((al (ly FM rfl (iJ (K:=K) rfl (qT T.aK T.lA.h (D6 T) hr.m T.lA.b .nil aw (ad 0))) (dm 2 LG.nd) (aj (aX (bf eD (Lu<*T.oS (ad 0) (aa (ad 2) ae)) (ad 1)) (aj gp) ce)))
 (aj (aN (ad 1))))) ?_
 exists 1;right;show(mI hx sf #[AA,L,M,i,rfl,by rw[dC];simp,fun l hl=>?_]);rw[Du dC];show cI hl fun H1 s1 b1=>?_;have i1:=i.same s1;let⟨gU,c1,bJ,iF,cS⟩:=i1.h;show#[#[_,aB.of b1],qR (xs:=[("main":Str)].map V.str) (fun jj σ' H'=>H'=H1/\∃ t,σ'=[!V.ref AA.a,!V.int (k:Int),t]) #[rfl,_,rfl] (fun jj σ' H' _ h=>by rw[h.1];show aB.of b1) ?_ (fun σ' H' h=>?_)]
 ·rintro jj v σ' H' hv ⟨rfl,t,rfl⟩;obtain rfl:v=V.str ("main":Str):=by
   have:=Go hv
   simpa using this
  left;show(mI bJ cS #[AA,L,M,0,i1,rfl,by rw[dC];rfl,?_]);rw[y4];show#[rfl,bI (kt (by nofun)) #[rfl,_,rfl]]
 ·let⟨rfl,t,rfl⟩:=h;left;show q _ s1
def  aae(CH CS CT:Addr):Sp:=jo fun x n H Q _=>X4 fun A L M (k:Nat)=>A6 (aH CH CS CT H A L M) (A.a=x) (n=(k:Int)) (M.tr=[(("main":Str),0)]) (M.un=[]) (∀ l H',ag H H'->H' l=!.lst [.int (k:Int)]->Q (-l) H')
def xp:T.gi.k P w base 5 (aae T.aJ T.aP T.aV):=by
 show T.gi.F.ok wX (fun _ _ _ _ h=>cN h fun _ _ _=>rfl) fun ax A _ s H vs Q E hr h=>cN h fun x n h=>?_;let⟨AA,L,M,k,i,rfl,rfl,dC,y4,q⟩:=h;show bS (b:=aW BW) ((al (aR 2 wX.nd (db (aa (ad 1) ae)))
 (al (ly FM rfl (iJ (K:=K) rfl (qT T.aK T.lA.h (D6 T) hr.m T.lA.b .nil aw (ad 0))) (dm 3 wX.nd) (aj (ly FM rfl (iJ (K:=K) rfl (qT T.aK T.lA.h (D6 T) hr.m T.lA.b .nil aw (ad 0))) (dm 4 wX.nd) (aj (aX (dZ (gl (bf eD (Mp<*T.oA (ad 0) (aa (ad 4) ae)) (bv (bF (K:=K) rfl) (ad 2) bi)) (ka (bf n8 (Lu<*T.oS (ad 0) (aa (ad 4) ae)) ao)))) (aj gp) ce)))))
 (al (kX FM (bf jg (ra<$>T.et (aa (ad 0) (aa (bv (bF (K:=K) rfl) (ad 2) (im jJ bi)) ae))) (bv (bF (K:=K) rfl) (ad 2) (im jJ bi))) (aj gp))
 (aj (aN (ad 2))))))) ?_
 exists 3;right;show#[fits (),fun lf l7=>?_];show cI l7 fun H0 s0 b0=>?_;show hJ (fun σ' H'=>ag H0 H'/\∃ t1 t2,σ'=[!V.ref AA.a,!V.int (k:Int),!V.ref lf,t1,t2]) ?_ ?_
 ·have i1:=i.same s0;let⟨gU,c1,bJ,iF,cS⟩:=i1.h;left;show(mI bJ cS #[AA,L,M,i1,rfl,by rw[dC];simp,fun l hl=>?_]);rw[Du dC];show cI hl fun H1 s1 b1=>?_;show#[#[_,aB.of b1],qR (xs:=[("main":Str)].map V.str) (fun jj σ' H'=>ag H1 H'/\∃ t1 t2,σ'=[!V.ref AA.a,!V.int (k:Int),!V.ref lf,t1,t2]) #[fun _ _ e=>e,_,_,rfl] (fun jj σ' H' _ h=>aB.of (h.1 _ _ b1)) ?_ (fun σ' H' h=>#[s1.trans h.1,h.2])];rintro jj v σ' H2 hv ⟨s2,t1,t2,rfl⟩;have i2:=i.same ((s0.trans s1).trans s2);let⟨iB,c2,bT,gT,cj⟩:=i2.h;left;show(mI bT cj #[AA,L,M,i2,rfl,by rw[dC];simp,fun l3 gC=>?_]);rw[Du dC];show cI gC fun H3 s3 b3=>?_;have Nl:=s1.trans (s2.trans s3);have i3:=i.same (s0.trans Nl);let⟨gZ,c3,dq,fY,dO⟩:=i3.h;have b03:=Nl _ _ b0;show#[#[_,aB.of b3],qR (xs:=[("main":Str)].map V.str) (fun jj σ' H'=>H'=H3/\∃ t1 t2,σ'=[!V.ref AA.a,!V.int (k:Int),!V.ref lf,t1,t2]) #[rfl,_,_,rfl] (fun jj σ' H' _ h=>by rw[h.1];show aB.of b3) ?_ (fun σ' H' h=>by rw[h.1];show#[s2.trans s3,h.2])];rintro jj v σ' H' hv ⟨rfl,t1,t2,rfl⟩;obtain rfl:v=V.str ("main":Str):=by
   have:=Go hv
   simpa using this
  left;show(mI dq dO #[AA,L,M,0,i3,rfl,by rw[dC];rfl,?_]);simp only[bB,b03,dv];show oy (fun _=>?_) (fun _=>bb #[by trivial,_,_,rfl]);show(mI dq dO #[AA,L,M,0,i3,rfl,by rw[dC];rfl,?_]);rw[y4];show#[by trivial,bI (On not (u8 rfl)) #[rfl,_,_,rfl]]
 ·rintro σ' H1 ⟨s1,t1,t2,rfl⟩;have i1:=i.same (s0.trans s1);have b1:=s1 _ _ b0;have e1:([V.int (k:Int)]:List V)=[]++[V.int (k:Int)]:=rfl;show aq #[fun m σ' H'=>σ'=[!V.ref AA.a,!V.int (k:Int),!V.ref lf,t1,t2]/\H'=H1,#[0,rfl,rfl],?_];rintro m σ' H' ⟨rfl,rfl⟩;left;rw[e1]at b1;simp only[bB,b1,lS];show#[AA,L,M,k,i1,rfl,rfl,dC,y4,fun H2 s2=>?_];simp only[s2 _ _ b1,lS];show bI () ?_;left;show q lf H2 ((s0.trans s1).trans s2) (s2 _ _ b1)
def  TY(CH CS CT:Addr):Sp:=nG fun x z n H Q _=>X6 fun A L M (k:Nat) (r:Nat) (t:Th)=>A8 (aH CH CS CT H A L M) (A.a=x) (n=(k:Int)) (aG (sD M.ro) (.inr z)=!.int (r:Int)) (Gd M) (M.ts[k]?=!t) (cU M r k) (∀ H',ag H H'->Q (.bl true) H')
def R0:T.qJ.k P w base 6 (TY T.aJ T.aP T.aV):=by
 show T.qJ.F.ok uE (fun _ _ _ _ h=>gG h fun _ _ _ _=>rfl) fun ax A _ s H vs Q E hr h=>gG h fun x z n h=>?_;let⟨AA,L,M,k,r,t,i,rfl,rfl,hz,g,ht,hb,q⟩:=h;show bS (b:=aW Af) ((al (kX FM (dZ (gl (bf n8 (ad 2) ao) (ka (bf eD (ra<$>T.et (aa (ad 0) (aa (ad 2) ae))) (ad 2))))) (al (aR 3 uE.nd (xp<$>T.gi (aa (ad 0) (aa (ad 2) ae))))
 (al (aX (bf (uu (K:=K) rfl) (oI<*T.fF (ad 0) (aa (ad 1) ae)) (ad 3)) (aj (aN em)) ce)
 (al (aR 4 uE.nd (nI<*T.fB (ad 0) (aa (bv (bF (K:=K) rfl) (ad 3) bi) ae)))
 (al (aR 2 uE.nd ao)
 (aj (aX (bf n8 (ad 4) ao) (aj (aR 2 uE.nd (bv (bF (K:=K) rfl) (ad 4) bi))) ce)))))))
 (aj (aN em)))) ?_
 exists 2;show aq #[fun m σ' H'=>ag H H'/\∃ t t1 t2,M.ts[m]?=!t/\cU M r m/\σ'=[!V.ref AA.a,!V.str z,!V.int (m:Int),t1,t2],#[k,fun _ _ e=>e,t,_,_,ht,hb,rfl],?_];clear ht hb;rintro m σ' H1 ⟨s1,t,t1,t2,ht,hb,rfl⟩;have i1:=i.same s1;let⟨a,ha⟩:=adr i1.len ht;left;show#[by trivial,cv (On not (kt (by nofun))) ?_];show#[AA,L,M,m,i1,rfl,rfl,g.tr,g.un,fun H2 s2=>cv (u8 rfl) #[_,fun _ _ h=>h,aq ?_]];have i2:=i1.same s2;left;show#[AA,L,M,m,i2,rfl,rfl,g.tr,g.un,fun l H3 s3 hl=>aq ?_];have i3:=i2.same s3;let⟨fs,c,hx,aS,sf⟩:=i3.h;left;show(mI hx sf #[AA,L,M,r,i3,rfl,hz,?_]);simp only[bB,hl];show#[rfl,by simp[cE],?_];rw[show([V.int (m:Int)]:List V)=nV [m] from rfl,kO,jY];by_cases h0:m=r
 ·rw[u8 h0];show bY (q _ ((s1.trans s2).trans s3))
 ·rw[kt h0];show bb (aq ?_);let⟨f,nm,tf,hf,hp,_,cf,_,hb'⟩:=g.par ht hb h0;left;simp only[bB,hl,dv];show(mI hx sf #[AA,L,M,m,a,t,i3,rfl,rfl,ha,ht,.inr #[f,nm,hp,fun p ni=>aq ?_]]);left;show#[by trivial,cv (On not (kt (by nofun))) ?_];simp only[bB,ni,dv];show#[f,hf,(s1.trans s2).trans s3,tf,_,_,cf,hb',rfl]
def  abb(CH CS CT:Addr):Sp:=Ks fun x z n nv H Q _=>X8 fun A L M (k:Nat) (r:Nat) (t:Th) (ns:List Str) (bV:List Str)=>IY (aH CH CS CT H A L M) (A.a=x) (n=(k:Int)) (aG (sD M.ro) (.inr z)=!.int (r:Int)) (Gd M) (M.ts.length<=90) (M.ts[k]?=!t) (nv=.ao/\bV=[]\/∃ nm:Str,nv=.str nm/\bV=[nm]/\nm.length<=8) (∃ m,ia M L r m k ns) (ns.length<=99) (∀ s∈ns,s.length<=8) (∀ H',ag H H'->Q (.str (ir (ns++bV))) H')
def aaH:T.qY.k P w base 6 (abb T.aJ T.aP T.aV):=by
 show T.qY.F.ok uK (fun _ _ _ _ h=>Kf h fun _ _ _ _ _=>rfl) fun ax A _ s H vs Q E hr h=>Kf h fun x z n nv h=>?_;let⟨AA,L,M,k,r,t,ns,bV,i,rfl,rfl,hz,g,hn,ht,E5,bK,hl99,h8,q⟩:=h;show bS (b:=aW Ba) ((al (aR 4 uK.nd (ii (mC (K:=K) rfl) (db (aa (ad 3) ae)) jc (jr (mj Di T.xw xR (aa (f8 n8 (ad 3) ao) ae)))))
 (al (kX FM (bf (uq (K:=K) rfl) (oI<*T.fF (ad 0) (aa (ad 1) ae)) (xp<$>T.gi (aa (ad 0) (aa (ad 2) ae)))) (al (qu (nI<*T.fB (ad 0) (aa (bv (bF (K:=K) rfl) (xp<$>T.gi (aa (ad 0) (aa (ad 2) ae))) bi) ae)) (qS (K:=K) (n:=2) rfl rfl (iR (dm 2 uK.nd) (iR (dm 5 uK.nd) pR))))
 (aj (aR 4 uK.nd (cr dA (db (aa (ad 5) ae)) (ad 4))))))
 (aj (aN (cr dA ap (oT PySem.F.slot_str_join PySem.F.type_str_join (Jn (K:=K) rfl) ap (aa (ad 4) ae)))))))) ?_
 exists 2;show hJ (fun σ' H'=>ag H H'/\∃ l,σ'=[!V.ref AA.a,!V.str z,!V.int (k:Int),!nv,!V.ref l,none]/\H' l=!.lst (bV.map V.str)) ?_ ?_
 ·left;show#[fits (),fun p hp=>#[by trivial,_,aB.of ay,fun p1 pC=>#[(ag.upd hp).trans (ag.upd pC),p1,rfl,?_]]];rw[ay];rcases E5 with ⟨rfl,rfl⟩ | ⟨nm,rfl,rfl,_⟩
  ·rw[u8 rfl];rfl
  ·rw[kt (by nofun)];rfl
 rintro σ' H1 ⟨s1,l,rfl,b1⟩;let⟨m0,bK⟩:=bK;have kG:bV.length<=1:=by rcases E5 with ⟨_,rfl⟩ | ⟨nm,_,rfl,_⟩ <;> simp
 show aq #[fun m σ' H'=>ag H H'/\∃ (j:Nat) (t':Th) (pre vt:List Str) (l':Addr) (o:Option V),σ'=[!V.ref AA.a,!V.str z,!V.int (j:Int),!nv,!V.ref l',o]/\H' l'=!.lst (vt.map V.str)/\M.ts[j]?=!t'/\ia M L r m j pre/\pre++vt=ns++bV,#[m0,s1,k,t,ns,bV,l,none,rfl,b1,ht,bK,rfl],?_];clear s1 b1 ht bK;rintro m σ' H1 ⟨s1,j,t',pre,vt,l',o,rfl,b1,ht,bK,ej⟩;have i1:=i.same s1;let⟨a,ha⟩:=adr i1.len ht;let⟨fs,c,hx,aS,sf⟩:=i1.h;have hlen:pre.length+vt.length<=100:=by
  have:=On List.length ej;rw[mo,mo]at this;omega
 let⟨b',r',a',t'',ha',ht',iT,oZ⟩:=(by unfold ia at bK;show bK:∃ b r a t,L[j]?=!a/\M.ts[j]?=!t/\dB M j b r/\_);let⟨rfl,rfl⟩:=g.jh iT;rw[ht]at ht';cases ht';left;show(mI hx sf #[AA,L,M,r,i1,rfl,hz,AA,L,M,b',i1,rfl,rfl,g.tr,g.un,fun l2 H2 s2 cB=>?_]);have i2:=i1.same s2;let⟨iB,c2,bT,gT,cj⟩:=i2.h;have b2:=s2 _ _ b1;show#[_,.inl (aB.of cB),rfl,by simp[cE],?_];rw[show([V.int (b':Int)]:List V)=nV [b'] from rfl,kO];rw[jY]at oZ ⊢;by_cases h0:b'=r
 ·rw[u8 h0]at oZ ⊢;rw[At rfl]at oZ;rw[oZ,List.nil_append]at ej;subst ej;have hn8':∀ s∈ns++bV,s.length<=8:=fun s hs=>by
   rcases AC.mp hs with hs | hs
   ·show h8 s hs
   ·rcases E5 with ⟨_,rfl⟩ | ⟨nm,_,rfl,h⟩
    ·cases hs
    ·rw[wn.mp hs];show h
  let⟨pF,pz⟩:=JI hn8' (by rw[mo];omega);have lj:(Str.ofString "/").length=1:=by symm
  show bb #[_,aB.of b2,_,rfl,fits ∅,fits ∅,q _ (s1.trans s2)]
 ·rw[kt h0]at oZ ⊢;rw[wT (by nofun)]at oZ;let⟨ab,tb,f,zz,fW,m8,bx,hm⟩:=oZ;rw[ht]at m8;cases m8;cases m with
  | zero=>show hm.elim
  | succ m =>
   let⟨ns',rfl,hm⟩:=hm;let⟨f',nm',tf,_,hp',_,cf,_⟩:∃ (f:Nat) (nm:Str) (tf:Th),f < b'/\t'.bZ=[(f,nm)]/\nm.length<=8/\M.ts[f]?=!tf/\tf.kd=("folder":Str):=by
    rcases (g.th b' t' ht).pl with ⟨_,e⟩ | h
    ·rw[e]at bx;cases bx
    ·show h
   rw[bx]at hp';cases hp';show bY #[_,fun _ _ h=>h,aq ?_];left;show(mI bT cj #[AA,L,M,b',i2,rfl,rfl,g.tr,g.un,fun l3 H3 s3 gC=>?_]);have i3:=i2.same s3;let⟨gZ,c3,dq,fY,dO⟩:=i3.h;have b3:=s3 _ _ b2;simp only[bB,gC,dv];show#[AA,L,M,b',a,t',i3,rfl,rfl,ha,ht,.inr #[f,zz,bx,fun p hp=>#[p,_,rfl,bE.of hp,rfl,_,_,rfl,_,_,rfl,rfl,fits (),fun p4 iV=>?_]]];show cI iV fun H4 s4 c4=>?_;have b4:=s4 _ _ b3;simp only[b4,c4];show#[fits (by rw[mo]at hlen;simp at hlen ⊢;omega),fun p5 rQ=>#[m,GT m,(((s1.trans s2).trans s3).trans s4).trans (ag.upd rQ),f,tf,ns',zz::vt,p5,_,rfl,ay,cf,hm,by rw[<- ej];simp]]
def  WH:Sp:=mX fun pt H Q _=>X1 fun t=>A4 (pt=Tx.S t) (gq t) (t.length<=400) (∀ l H',ag H H'->H' l=!.lst (PV (told (Tx.words 47 t) t))->Q (-l) H')
def II:T.kF.k P w base 1 WH:=by
 show T.kF.F.ok Ir (fun _ _ _ _ h=>gF h fun _ _=>rfl) fun ax A _ s H vs Q E hr h=>gF h fun pt h=>?_;let⟨t,rfl,pt,hl,q⟩:=h;show bS (b:=aW zQ) ((al (zM 1 rfl Ir.nd (x:=("_law_part":Str)) (iJ (K:=K) rfl (oT _4 _5 Am (ad 0) (aa ap ae))) (fun _ _ _ _=>by show(Ju (bf jg (ad 0) ap))) (fun _ _ _ _=>by show(dm 0 (show List.Nodup (["_law_part"]:List Str) by decide))) (fun _ _ _ _=>by show(ad 0)) (.of rfl (by show trivial) (by walk_at "c") rfl (by show trivial)))
 (al (aX (dZ (gl (bf (Lw hr.fU) (ad 1) (db ae)) (ka (bf eD (bv (bF (K:=K) rfl) (ad 0) (im jJ bi)) ap)))) (aj (bj (gf GE GM lb (ad 1) (aa ap ae)))) ce)
 (aj (aN (ad 1)))))) ?_
 exists 1;have yZ:Str.ofString "/" = Tx.S [47]:=by symm
 have e0:Str.ofString "" = Tx.S []:=by symm
 let⟨N8,c,ht⟩:∃ N8 c,t=N8++[c]:=#[_,_,(List.dropLast_concat_getLast (l:=t) (fun e=>by have:=pt.l1;rw[e]at this;simp at this)).symm];right;have vW:=Tx.uc 47 t;simp only[yZ,e0];show#[rfl,by rw[Tx.c9];show fits ∅,?_,?_]
 ·rw[Tx.yn,Tx.lU,Tx.xH,Tx.qd,pi];show fits ∅
 intro l hl;rw[Tx.Bt t 47 ⋯];show cI hl fun H1 s1 b1=>?_;show#[#[_,aB.of b1],BL (fun x=>match x with | .str z=>Bool.not (decide (z=Tx.S [])) | _=>false) id (aB.of b1) (by rw[pi,pi];show fits ∅) ?_ ?_ ?_]
 ·intro x hx H2 _ R hR;let⟨z,_,rfl⟩:=Do.mp hx;left;show hR H2 (ag.refl H2)
 ·intro x hx _ H2 _ R hR;left;show hR H2 (ag.refl H2)
 intro H2 s2 l2 cB;have ew:((((Tx.cut 47 t).map Tx.S).map V.str).filter (fun x=>match x with | .str z=>Bool.not (decide (z=Tx.S [])) | _=>false)).map id=PV (Tx.words 47 t):=by
  rw[List.map_id,List.filter_map];change((((Tx.cut 47 t).map Tx.S)).filter _).map V.str=_
  congr 1
  rw[<- Tx.GD];show List.filter_congr fun z _=>?_;change(Bool.not (decide (z=Tx.S [])))=decide (z≠Tx.S []);by_cases h:z=Tx.S [] <;> simp[h]
 rw[ew];show cI cB fun H3 s3 b3=>?_;have gW:H l2=none:=mH (s1.trans s2) cB;have km:ag H H3:=(s1.trans s2).trans s3;have lZ:(Tx.words 47 t).length<=401:=tz (_E _ _) ∅;have MZ:t.getLast?=!c:=by rw[ht];simp
 show hJ (fun σ' H'=>ag H H'/\σ'=[!V.str (Tx.S t),!V.ref l2]/\H' l2=!.lst (PV (told (Tx.words 47 t) t))) ?_ ?_
 ·left;show#[fits (),fun p hp=>?_];show cI hp fun H4 s4 b4=>?_;have zw:=s4 _ _ b3;show#[(Tx.words 47 t).map Tx.S,[],zw,b4,?_];by_cases h0:Tx.words 47 t=[]
  ·show bI (by rw[u8 (by rw[h0];rfl)];rfl) (bb #[km.trans s4,by trivial,?_]);unfold told;rw[wT (fun z=>z.1 h0)];show zw
  ·show cv (by rw[kt (fun e=>h0 (List.map_eq_nil_iff.mp e))];rfl) #[by rw[Tx.c9];show fits ∅,?_];rw[Tx.j9];rw[show cR t ((unop% Neg.neg (1)))=!c by rw[ht];show lS _ _];by_cases hc:c=47
   ·show cv (u8 (by rw[hc];rfl)) ?_;simp only[zw];show#[kb (by simp[PV];omega),fun x o e=>?_,by trivial,?_]
    ·rw[ah (fun z=>by rw[z,gW]at e;cases e)];show(km.trans s4) x o e
    ·rw[ay];unfold told;rw[At #[h0,by rw[MZ,hc]],show Str.ofString "." = Tx.S [46] by symm];simp[PV]
   ·show bI (kt (fun e=>hc ?_)) #[km.trans s4,by trivial,?_]
    ·have:=Tx.ic (a:=[c]) (b:=[47]) e;injection this
    ·unfold told;rw[wT (fun z=>hc (by rw[MZ]at z;show Id z.2))];show zw
 ·rintro σ' H4 ⟨s4,rfl,b4⟩;left;show q l2 H4 s4 b4
def  PF(CH CS CT:Addr):Sp:=Mi fun x z pt n H Q _=>X6 fun A L M t (k:Nat) (r:Nat)=>A8 (pt=Tx.S t) (gq t) (aH CH CS CT H A L M) (A.a=x) (n=(k:Int)) (aG (sD M.ro) (.inr z)=!.int (r:Int)) (Gd M) (∀ H',ag H H'->Q (.int ((if cu t=true then r else k:Nat):Int)) H')
def G7:T.kP.k P w base 5 (PF T.aJ T.aP T.aV):=by
 show T.kP.F.ok Q2 (fun _ _ _ _ h=>KN h fun _ _ _ _ _=>rfl) fun ax A _ s H vs Q E hr h=>KN h fun x z pt n h=>?_;let⟨AA,L,M,t,k,r',rfl,hp,i,rfl,rfl,hz,g,q⟩:=h;show bS (b:=aW BB) ((al (aX (bf eD (bv (bF (K:=K) rfl) (ad 2) bi) ap) (aj (aN (ra<$>T.et (aa (ad 0) (aa (oI<*T.fF (ad 0) (aa (ad 1) ae)) ae))))) ce)
 (aj (aN (ad 3))))) ?_
 exists 0;let⟨c,r,ht⟩:∃ c r,t=c::r:=by
  cases t with
  | nil=>show absurd hp.l1 ()
  | cons c r=>show#[c,r,rfl]
 let⟨fs,cc,hx,aS,sf⟩:=i.h;right;show#[by rw[Tx.c9];show tz hp.l2 ⋯,?_];rw[Tx.j9,show cR t 0=!c by rw[ht];show jR (j:=0) rfl];have hh:cu t=decide (c=47):=by unfold cu;rw[ht];simp
 rw[hh]at q;by_cases hc:c=47
 ·rw[At (u8 hc)]at q;show cv (u8 (by rw[hc];symm)) (mI hx sf #[AA,L,M,r',i,rfl,hz,AA,L,M,r',i,rfl,rfl,g.tr,g.un,q])
 ·rw[wT (by rw[kt hc];nofun)]at q;show bI (kt (fun e=>hc ?_)) (q _ fun _ _ e=>e);have:=Tx.ic (a:=[c]) (b:=[47]) (e.trans (by symm));injection this
def  qf(r:Nat)(t:Th)(k:Nat):Nat:=if k=r then k else match t.bZ with
 | (f,_)::_=>f
 | []=>k
def  Wk(CH CS CT:Addr):Sp:=nG fun x z n H Q _=>X6 fun A L M t (k:Nat) (r:Nat)=>A8 (aH CH CS CT H A L M) (A.a=x) (n=(k:Int)) (aG (sD M.ro) (.inr z)=!.int (r:Int)) (Gd M) (M.ts[k]?=!t) (cU M r k) (∀ H',ag H H'->Q (.int ((qf r t k:Nat):Int)) H')
def Vi:T.pS.k P w base 6 (Wk T.aJ T.aP T.aV):=by
 show T.pS.F.ok F6 (fun _ _ _ _ h=>gG h fun _ _ _ _=>rfl) fun ax A _ s H vs Q E hr h=>gG h fun x z n h=>?_;let⟨AA,L,M,t,k,r,i,rfl,rfl,hz,g,ht,hb,q⟩:=h;let⟨a,ha⟩:=adr i.len ht;show bS (b:=aW Bv) ((al (aR 3 F6.nd (xp<$>T.gi (aa (ad 0) (aa (ad 2) ae))))
 (al (aX (bf (uu (K:=K) rfl) (oI<*T.fF (ad 0) (aa (ad 1) ae)) (ad 3)) (aj (aN (ad 2))) ce)
 (aj (aN (ra<$>T.et (aa (ad 0) (aa (bv (bF (K:=K) rfl) (nI<*T.fB (ad 0) (aa (bv (bF (K:=K) rfl) (ad 3) bi) ae)) bi) ae)))))))) ?_
 exists 1;right;show#[AA,L,M,k,i,rfl,rfl,g.tr,g.un,fun l H1 s1 hl=>aq ?_];have i1:=i.same s1;let⟨fs,c,hx,aS,sf⟩:=i1.h;left;show(mI hx sf #[AA,L,M,r,i1,rfl,hz,?_]);simp only[bB,hl];show#[rfl,by simp[cE],?_];rw[show([V.int (k:Int)]:List V)=nV [k] from rfl,kO,jY];unfold qf at q;by_cases h0:k=r
 ·rw[u8 h0];rw[At h0]at q;show bY (q H1 s1)
 ·let⟨f,nm,tf,hf,hp,_,cf,_,_⟩:=g.par ht hb h0;rw[kt h0];rw[wT h0,hp]at q;show bb ?_;simp only[nV,Fr,_N,dv];show(mI hx sf #[AA,L,M,k,a,t,i1,rfl,rfl,ha,ht,.inr #[f,nm,hp,fun p ni=>?_]]);simp only[ni,dv];show#[AA,L,M,f,i1,rfl,rfl,g.tr,g.un,fun H2 s2=>q _ (s1.trans s2)]
def  eM(r:Nat)(t:Th)(k:Nat)(p:Str):V:=if p=("..":Str) then .int (qf r t k:Nat) else if p=(".":Str) then .int (k:Nat) else (aG (sD t.aO) (.inr p)).getD .ao
def  VZ(CH CS CT:Addr):Sp:=J0 fun x z n p H Q _=>X6 fun A L M t (k:Nat) (r:Nat)=>A9 (aH CH CS CT H A L M) (A.a=x) (n=(k:Int)) (aG (sD M.ro) (.inr z)=!.int (r:Int)) (Gd M) (M.ts[k]?=!t) (cU M r k) (gE p) (∀ H',ag H H'->Q (eM r t k p) H')
def TZ:T.pP.k P w base 7 (VZ T.aJ T.aP T.aV):=by
 show T.pP.F.ok Yb (fun _ _ _ _ h=>Kx h fun _ _ _ _ _=>rfl) fun ax A _ s H vs Q E hr h=>Kx h fun x z n p h=>?_;let⟨AA,L,M,t,k,r,i,rfl,rfl,hz,g,ht,hb,hp,q⟩:=h;let⟨a,ha⟩:=adr i.len ht;let⟨fs,c,hx,aS,sf⟩:=i.h;show bS (b:=aW zY) ((al (aX (bf eD (ad 3) ap) (aj (aN (Vi<$>T.pS (aa (ad 0) (aa (ad 1) (aa (ad 2) ae)))))) ce)
 (al (aX (bf eD (ad 3) ap) (aj (aN (ad 2))) ce)
 (aj (aN (B0<*T.kN (ad 0) (aa (ad 2) (aa (ad 3) ae)))))))) ?_
 exists 0;right;unfold eM at q;by_cases h1:p=("..":Str)
 ·rw[At h1]at q;show cv (u8 h1) #[AA,L,M,t,k,r,i,rfl,rfl,hz,g,ht,hb,q]
 ·rw[wT h1]at q;show bI (kt h1) (aq ?_);left;by_cases h2:p=(".":Str)
  ·rw[At h2]at q;show cv (u8 h2) (q _ fun _ _ e=>e)
  ·rw[wT h2]at q;rcases hp with hp | hp | ⟨hp,h8⟩
   ·show absurd hp h2
   ·show absurd hp h1
   show bI (kt h2) (mI hx sf #[AA,L,M,k,a,t,i,rfl,rfl,ha,ht,hp,∅,q])
def  T3:Sp:=jo fun c n H Q _=>X2 fun (ns:List Nat) (k:Nat)=>A5 (n=(k:Int)) (H c=!.tup (nV ns)) (k∈ns) (ns.length<=400) (∀ l H',ag H H'->H' l=!.lst (nV (eB (ns.drop (ns.idxOf k))))->Q (-l) H')
def XN:T.ql.k P w base 1 T3:=by
 show T.ql.F.ok BU (fun _ _ _ _ h=>cN h fun _ _ _=>rfl) fun ax A _ s H vs Q E hr h=>cN h fun cc n h=>?_;let⟨ms,k,rfl,hc,hk,hlen,q⟩:=h;show bS (b:=aW BV) ((al (aR 2 BU.nd (mj (CL (K:=K) rfl) T.mx tq (aa (ii (Qu (K:=K) rfl) (ad 0) (jr (Sz PySem.F.slot_tuple_index PySem.F.type_tuple_index (QZ (K:=K) rfl) (ad 0) (aa (ad 1) ae))) jc) ae)))
 (al (aR 3 BU.nd (gf _p _X (Ek (K:=K) rfl) (ad 2) (aa (cA (Cj (K:=K) rfl rfl) T.xO DC (aa (ad 2) ae)) ae)))
 (aj (aN (cr dA (ii (mC (K:=K) rfl) (ad 2) (jr (ad 3)) jc) (ii (mC (K:=K) rfl) (ad 2) jc (jr (ad 3))))))))) ?_
 exists 2;have hj:ms.idxOf k < ms.length:=_k.mpr hk;show hJ (fun σ' H'=>∃ l,σ'=[!V.ref cc,!V.int (k:Int),!V.ref l,none]/\ag H H'/\H' l=!.lst (nV (ms.drop (ms.idxOf k)))) ?_ ?_
 ·left;simp only[hc];show#[_,bE.of (by rw[hc,uM]),mem_cast hk,nV ms,bE.of hc,fun hw=>?_,fun p hp=>?_]
  ·rw[qp]at hw;have h0:ms.idxOf k=0:=by
    have:=hw.1;rw[HT.CB]at this;have e:(nV ms).length=ms.length:=pi _;omega
   simp only[bB,hc];show fun l hl=>#[l,rfl,ag.upd hl,by rw[ay,h0];rfl]
  ·rw[qp,yt];simp only[bB,ay];show fun l hl=>#[l,rfl,(ag.upd hp).trans (ag.upd hl),by rw[ay];unfold nV;rw[Jat]]
 rintro σ' H1 ⟨l,rfl,s0,hl⟩;have cX:ms.drop (ms.idxOf k)≠[]:=fun e=>by have:=On List.length e;simp at this;omega
 have cB:(ms.drop (ms.idxOf k)).length<=400:=by simp;omega
 generalize ms.drop (ms.idxOf k)=ns at hl cX cB q;right;simp only[hl];have hS:aB K H1 l ((ns.map (fun k:Nat=>(k:Int))).map V.int):=aB.of (by rw[hl,uM]);show#[_,_,hS,mem_cast (mq cX),fun k hk=>?_,_,hS,mem_cast (mq cX),nV ns,aB.of hl,fun p hp=>?_]
 ·let⟨k',hk',rfl⟩:=Do.mp hk;have:=nZ hk';omega
 rw[qp,yt];show cI hp fun H2 s1 b1=>?_;show#[nV ns,aB.of (s1 _ _ hl),fun p2 cH=>?_];rw[D3];show cI cH fun H3 s2 b2=>?_;simp only[s2 _ _ b1,b2];show#[fits (by simp[nV];omega),fun p3 iy=>?_];show q p3 _ (((s0.trans s1).trans s2).trans (ag.upd iy)) ?_;rw[ay];unfold eB nV;rw[Fa,Jat,List.map_take]
def  dW:List (Sum Nat Str)->List Nat->List (Str×List Nat)
 | [],_=>[]
 | .inr p::l,r=>(p,r)::dW l r
 | .inl _::l,r=>dW l r.dropLast
def AZ(r:List Nat)(l:List (Sum Nat Str)):∀ ps:List Str,dW (ps.map Sum.inr++l) r=ps.map (fun p=>(p,r))++dW l r
 | []=>rfl
 | p::ps=>by change(p,r)::dW (ps.map Sum.inr++l) r=_;rw[AZ r l ps];rfl
def Mh(ps:List Str):(bH ps).reverse=ps.map Sum.inr:=by unfold bH;rw[List.reverse_reverse]
def YK(l:List (Sum Nat Str))(k:Nat)(ps:List Str)(ch:List Nat):dW (((l++[Sum.inl k])++bH ps).reverse) (ch++[k])=ps.map (fun p=>(p,ch++[k]))++dW l.reverse ch:=by
 rw[Wp,Mh,AZ,Wp];change _++dW l.reverse (ch++[k]).dropLast=_;rw[Ja6]
def Dh:∀ l:List (Sum Nat Str),di l.reverse=di l
 | []=>rfl
 | .inl k::l=>by rw[List.reverse_cons,gK,Dh l];rfl
 | .inr k::l=>by rw[List.reverse_cons,gK,Dh l];rfl
def Jz{l:List (Sum Nat Str)}{ch:List Nat}(hc:di l=ch.length):l=[] ↔ dW l.reverse ch=[]/\ch=[]:=by
 constructor
 ·rintro rfl;show#[rfl,Pi.mp hc.symm]
 ·rintro⟨h,rfl⟩;rw[<- Dh]at hc;have:l.reverse=[]:=by
   generalize l.reverse=m at h hc
   match m,h,hc with
   | [],_,_=>rfl
   | .inr p::m,h,_=>cases h
   | .inl p::m,_,hc=>cases hc
  rw[<- List.reverse_reverse l,this];rfl
section
variable {d:Wd}{S S' S1:Ws}{o:Option Tl}{n:Nat}{p:Str}
def My(h:cQ d n S S' o):(dW S.left.reverse S.aI=[]->o=none/\S'.here=S.here/\S'.place=S.place/\S'.step=S.step/\S'.asked=S.asked) /\
  ∀ p ch ts,dW S.left.reverse S.aI=(p,ch)::ts->∃ l S1 o1,du d { S with left:=l,aI:=ch } p S1 o1/\dW l.reverse ch=ts/\(di S.left=S.aI.length->di l=ch.length)/\(∀ q,Sum.inr q∈l->Sum.inr q∈S.left)/\Sum.inr p∈S.left/\l.length < S.left.length/\ch.length<=S.aI.length /\
   ((∃ n',n' < n/\o1=none/\cQ d n' S1 S' o)\/∃ y,o1=!y/\o=!y/\S'=S1):=by
 induction h with
 | @done S e =>
  rw[e];show#[fun _=>#[rfl,rfl,rfl,rfl,rfl],fun p ch ts h=>by cases h]
 | @pop n S k l r j S' o e er _ ih =>
  have hu:dW S.left.reverse S.aI=dW l.reverse r:=by
   rw[e,er,Wp];change dW l.reverse (r++[j]).dropLast=_;rw[Ja6]
  rw[hu];show#[ih.1,fun p ch ts h=>?_];let⟨l2,S1,o1,h1,h2,h3,h4,h5,h6,h7,h8⟩:=ih.2 p ch ts h;show#[l2,S1,o1,h1,h2,fun hc=>h3 ?_,fun q hq=>by rw[e];show xz _ (h4 q hq),by rw[e];show xz _ h5,by rw[e,mo];show _H h6,by rw[er,mo];show Nat.le_succ_of_le h7,?_]
  ·rw[e,gK,er,mo]at hc;have h1:di [Sum.inl (β:=Str) k]=1:=rfl;rw[h1]at hc;change di l=r.length;simp at hc;show hc
  ·rcases h8 with ⟨n',hn,a,b⟩ | h8
   ·show .inl #[n',∅,a,b]
   ·show .inr h8
 | @step n S p l S1 S' o e hs hr ih =>
  have hu:dW S.left.reverse S.aI=(p,S.aI)::dW l.reverse S.aI:=by
   rw[e,Wp];rfl
  rw[hu];show#[fun h=>(by cases h),fun p' ch ts h=>?_];cases h;show#[l,S1,none,hs,rfl,fun hc=>?_,fun q hq=>by rw[e];show xz _ hq,by rw[e];simp,by rw[e];simp,lm _,.inl #[n,∅,rfl,hr]];rw[e,gK]at hc;show hc
 | @fail S p l S1 y e hs =>
  have hu:dW S.left.reverse S.aI=(p,S.aI)::dW l.reverse S.aI:=by
   rw[e,Wp];rfl
  rw[hu];show#[fun h=>(by cases h),fun p' ch ts h=>?_];cases h;show#[l,S1,!y,hs,rfl,fun hc=>?_,fun q hq=>by rw[e];show xz _ hq,by rw[e];simp,by rw[e];simp,lm _,.inr #[y,rfl,rfl,rfl]];rw[e,gK]at hc;show hc
def KH{t:Th}{o1:Option Tl}(h:du d S p S1 o1)(ht:d.M.ts[S.here]?=!t)(hk:t.kd≠("folder":Str)):o1=!.fail "flat"/\S1.step=S.step+1/\S1.asked=S.asked:=by
 cases h with
 | flat h1 h2 h3=>show#[rfl,rfl,rfl]
 | kM h1 h2 h3=>rw[ht]at h2;cases h2;show absurd h3 hk
 | dot hA=>have h2:=hA.e;rw[ht]at h2;cases h2;show absurd hA.k hk
 | up hA=>have h2:=hA.e;rw[ht]at h2;cases h2;show absurd hA.k hk
 | go hA=>have h2:=hA.e;rw[ht]at h2;cases h2;show absurd hA.k hk
def GQ{t:Th}{o1:Option Tl}(h:du d S p S1 o1)(ht:d.M.ts[S.here]?=!t)(hk:t.kd=("folder":Str))(hm:ee ("g":Str) (dj t d.z)=false):o1=!.fail "shut"/\S1.step=S.step+1/\S1.asked=S.asked++[S.here]:=by
 cases h with
 | flat h1 h2 h3=>rw[ht]at h2;cases h2;show absurd hk h3
 | kM h1 h2 h3 h4=>show#[rfl,rfl,rfl]
 | dot hA=>have h2:=hA.e;rw[ht]at h2;cases h2;have:=hA.g;rw[hm]at this;cases this
 | up hA=>have h2:=hA.e;rw[ht]at h2;cases h2;have:=hA.g;rw[hm]at this;cases this
 | go hA=>have h2:=hA.e;rw[ht]at h2;cases h2;have:=hA.g;rw[hm]at this;cases this
inductive rn(d:Wd)(S:Ws)(t:Th)(p:Str)(S1:Ws):Option Tl->Prop
 | none:eM d.root t S.here p=.ao->rn d S t p S1 (!.fail "none")
 | folder {k tc}:eM d.root t S.here p=.int ((k:Nat):Int)->d.M.ts[k]?=!tc->tc.kd=("folder":Str)->cU d.M d.root k->S1.here=k->S1.left=S.left->S1.aI=S.aI->S1.read=S.read->rn d S t p S1 none
 | fin {k tc}:eM d.root t S.here p=.int ((k:Nat):Int)->d.M.ts[k]?=!tc->tc.kd≠("folder":Str)->(tc.kd=("file":Str)\/S.left=[]/\d.last=false)->S1.here=k->S1.place=!(S.here,p)->p.length<=8->S1.left=S.left->S1.aI=S.aI->S1.read=S.read->rn d S t p S1 none
 | lead {k tc o}:eM d.root t S.here p=.int ((k:Nat):Int)->d.M.ts[k]?=!tc->tc.kd=("lead":Str)->¬ (S.left=[]/\d.last=false)->my d { dQ S with look:=S.look+1 } k S1 o->rn d S t p S1 o
def my.keep{k:Nat}(h:my d S k S1 o):S1.step=S.step/\S1.asked=S.asked:=by
 cases h with
 | ring=>show#[rfl,rfl]
 | many=>show#[rfl,rfl]
 | read _ _ h=>cases h;show#[rfl,rfl]
def toStep{o1:Option Tl}{t:Th}(g:Gd d.M)(h:du d S p S1 o1)(ht:d.M.ts[S.here]?=!t)(hk:t.kd=("folder":Str))(hm:ee ("g":Str) (dj t d.z)=true)(hp:gE p)(hb:cU d.M d.root S.here) :
  S1.step=S.step+1/\S1.asked=S.asked++[S.here]/\rn d S t p S1 o1:=by
 cases h with
 | flat h1 h2 h3=>rw[ht]at h2;cases h2;show absurd hk h3
 | kM h1 h2 h3 h4=>rw[ht]at h2;cases h2;rw[hm]at h4;cases h4
 | dot hA h5 =>
  show#[rfl,rfl,.folder (k:=S.here) ?_ ht hk hb rfl rfl rfl rfl];unfold eM;rw[wT (by rw[h5];symm),At h5]
 | up hA h5 hu =>
  cases hu with
  | gL h1 h2 h6 h7 =>
   show#[rfl,rfl,.folder (k:=S.here) ?_ ht hk hb rfl rfl rfl rfl];let⟨rfl,rfl⟩:=g.jh h6;rw[jY]at h7;unfold eM qf;rw[At h5,At (_h h7)]
  | up h1 h2 h6 h7 h8 h9 mf zb vY sd =>
   let⟨rfl,rfl⟩:=g.jh h6;let⟨rfl,rfl⟩:=g.jh sd;rw[ht]at h9;cases h9;rw[jY]at h7;have h0:=of_decide_eq_false h7;let⟨f,nm,tf,hf,bx,_,cf,fq,hb'⟩:=g.par ht hb h0;rw[bx]at mf;cases mf;show#[rfl,rfl,.folder ?_ cf fq hb' rfl rfl rfl rfl];unfold eM qf;rw[At h5,wT h0,bx]
 | go hA h5 h6 h7 h8 pz =>
  have h2:=hA.e;rw[ht]at h2;cases h2;have jC:eM d.root t S.here p=(aG (sD t.aO) (.inr p)).getD .ao:=by
   unfold eM;rw[wT h5,wT h6]
  have h88:p.length<=8:=by
   rcases hp with e | e | e
   ·show absurd e h6
   ·show absurd e h5
   ·show e.2
  cases pz with
  | no hv=>show#[rfl,rfl,.none (by rw[jC,hv];rfl)]
  | folder hv cW bU dP aQ =>
   let⟨rfl,rfl⟩:=g.jh aQ;let⟨c',tc',e1,e2,e3⟩:=(g.th _ t ht).ch _ _ hv;obtain rfl:_=c':=by injection e1 with e1;show NE e1
   show#[rfl,rfl,.folder (by rw[jC,hv];rfl) bU dP (.up e2 e3 hb) rfl rfl rfl rfl]
  | fin hv cW bU dP hf=>show#[rfl,rfl,.fin (by rw[jC,hv];rfl) bU dP hf rfl rfl h88 rfl rfl rfl]
  | lead hv cW bU dP eY eI hm =>
   have eG:=(g.th _ _ bU).kd;let⟨e1,e2⟩:=hm.keep;show#[e1,e2,.lead (by rw[jC,hv];rfl) bU ?_ eI hm];rcases eG with h | h | h
   ·show absurd h dP
   ·show absurd h eY
   ·show h
def stepOk{t:Th}(g:Gd d.M)(hr:∃ t,d.M.ts[d.root]?=!t/\t.kd=("folder":Str))(w:dw d S)(ht:d.M.ts[S.here]?=!t)(hk:t.kd=("folder":Str))(hb:cU d.M d.root S.here)(h:rn d S t p S1 none):dw d S1:=by
 cases h with
 | folder h1 h2 h3 h4 h5 h6 h7 h8=>show#[#[_,by rw[h5];show h2,.inl #[h3,by rw[h5];show h4]],by rw[h6];show w.ps,by rw[h6,h7];show w.cn,by rw[h8];show w.rl]
 | fin h1 h2 h3 h4 h5 h6 h7 h8 h9 mf=>show#[#[_,by rw[h5];show h2,.inr #[h3,_,_,t,h6,h7,ht,hb]],by rw[h8];show w.ps,by rw[h8,h9];show w.cn,by rw[mf];show w.rl]
 | @lead k tc _ h1 h2 h3 h4 hm =>
  have df:=w.rl;cases hm with
  | read hn kj hR =>
   have h40':S.read≠40:=kj;cases hR with
   | @mk a tc2 tl ar tr b r cW bU rG l1 l2 ju hlen vD dC aQ =>
    let⟨rfl,rfl⟩:=g.jh aQ;show#[?_,fun q hq=>?_,?_,?_]
    ·let⟨Ff,EB,ph⟩:=hr;unfold gA;by_cases eF:cu tl=true
     ·rw[At eF];show#[Ff,EB,.inl #[ph,.refl]]
     ·rw[wT eF];show#[t,ht,.inl #[hk,hb]]
    ·unfold gA at hq;rcases AC.mp hq with hq | hq
     ·rcases AC.mp hq with hq | hq
      ·show w.ps q hq
      ·cases wn.mp hq
     ·show tE ju q (sS hq)
    ·change di ((S.left++[.inl k])++bH (cC tl))=(S.aI++[k]).length;rw[gK,gK,sR,w.cn,mo];rfl
    ·change S.read+1<=40;omega
end
def  Due(H:Hp)(d:Addr):Res->Prop
 | .found k ns=>H d=!.tup [.str "found",.int (k:Int),.str (ir ns)]
 | .failed k y=>H d=!.tup [.str "failed",.int (k:Int),.str y]
 | .ring ns=>∃ rl,H d=!.tup [.str "ring",-rl]/\H rl=!.lst (nV ns)
def Due.same{H H':Hp}{d:Addr}(s:ag H H'):∀ {r:Res},Due H d r->Due H' d r
 | .found _ _,e=>s _ _ e
 | .failed _ _,e=>s _ _ e
 | .ring _,⟨l,e,f⟩=>#[l,s _ _ e,s _ _ f]
def  je(H:Hp)(v:V)(pc:Str×List Nat):Prop:=∃ a c,v=-a/\H a=!.tup [.str pc.1,-c]/\H c=!.tup (nV pc.2)
def  Toks(H:Hp):List V->List (Str×List Nat)->Prop
 | [],[]=>True
 | v::vs,p::ps=>je H v p/\Toks H vs ps
 | _,_=>False
def je.same{H H':Hp}(s:ag H H'){v:V}{p:Str×List Nat}(h:je H v p):je H' v p:=let ⟨a,c,e,x,y⟩:=h;#[a,c,e,s _ _ x,s _ _ y]
def je.upd{H:Hp}{tk:Addr}{xs:List V}{o:HO}(hk:H tk=!.lst xs){v:V}{p:Str×List Nat}(h:je H v p):je (upd H tk o) v p :=
 let ⟨a,c,e,x,y⟩:=h;#[a,c,e,by rw[ah (cT x hk (by nofun))];show x,by rw[ah (cT y hk (by nofun))];show y]
def Toks.imp{H H':Hp}(f:∀ v p,je H v p->je H' v p):∀ {vs:List V}{ps:List (Str×List Nat)},Toks H vs ps->Toks H' vs ps
 | [],[],_=>trivial
 | v::vs,p::ps,h=>#[f _ _ h.1,Toks.imp f h.2]
 | [],_::_,h=>h.elim
 | _::_,[],h=>h.elim
def Toks.same{H H':Hp}(s:ag H H'){vs:List V}{ps:List (Str×List Nat)}(h:Toks H vs ps):Toks H' vs ps:=h.imp fun _ _=>je.same s
def Toks.upd{H:Hp}{tk:Addr}{xs:List V}{o:HO}(hk:H tk=!.lst xs){vs:List V}{ps:List (Str×List Nat)}(h:Toks H vs ps):Toks (upd H tk o) vs ps:=h.imp fun _ _=>je.upd hk
def Toks.app{H:Hp}{ws:List V}{qs:List (Str×List Nat)}(hw:Toks H ws qs):∀ {vs:List V}{ps:List (Str×List Nat)},Toks H vs ps->Toks H (vs++ws) (ps++qs)
 | [],[],_=>hw
 | w::vs,q::ps,h=>#[h.1,Toks.app hw h.2]
 | [],_::_,h=>h.elim
 | _::_,[],h=>h.elim
def Toks.len{H:Hp}:∀ {vs:List V}{ps:List (Str×List Nat)},Toks H vs ps->vs.length=ps.length
 | [],[],_=>rfl
 | v::vs,p::ps,h=>by rw[xL,xL,Toks.len h.2]
 | [],_::_,h=>h.elim
 | _::_,[],h=>h.elim
def Ul{lp:Addr}{ps:List Str}{Q:VK}{H:Hp}(de:aB K H lp (ps.map V.str))(hz:ps.length<=500)(q:∀ tk vs H',ag H H'->H tk=none->H' tk=!.lst vs->Toks H' vs (ps.map fun p=>(p,[]))->Q (-tk) H') :
  qX (jq K lp) hZ (kQ (fP (eX 0) (fP (kQ f9) f9))) Q H:=by
 have hl:(ps.map V.str).length=ps.length:=pi _;show#[fun i ys m H1=>ag H H1/\Toks H1 ys ((ps.take i).map fun p=>(p,[]))/\i<=ps.length/\m=ps.length - i,#[_,ag.refl H,by trivial,wS _,rfl],?_];rintro i ys m H1 ⟨s1,hy,hi,rfl⟩;have hlen:=hy.len;rw[pi,Tm]at hlen;show#[fits ∅,?_];by_cases h:i < ps.length
 ·have hx:(ps.map V.str)[i]?=!.str ps[i]:=by rw[Da,sw h];rfl
  show .inr #[#[_,_,s1.seq de,hx],kb ∅,?_];rintro y H' ⟨rfl,hy'⟩;have jy:(ps.map V.str)[i]?=!y:=hy' _ (s1.seq de);rw[hx]at jy;cases jy;unfold hZ;show cv rfl ?_;left;show#[fits (),fun p hp=>#[fits (),fun p2 cH=>#[_,?_,?_,?_,h,rfl]]]
  ·omega
  ·show(s1.trans (ag.upd hp)).trans (ag.upd cH)
  ·rw[_f,sw h,Fa];show Toks.app (ws:=[-p2]) (qs:=[(ps[i],[])]) #[#[p2,p,rfl,ay,ag.upd cH _ _ ay],by trivial] (hy.same ((ag.upd hp).trans (ag.upd cH)))
 ·show .inl #[?_,fun l hl=>?_]
  ·show#[_,s1.seq de,by rw[hl];omega]
  ·have e:ps.take i=ps:=Op ∅;rw[e]at hy;show q l ys _ (s1.trans (ag.upd hl)) (mH s1 hl) ay (hy.same (ag.upd hl))
def RN{lp cc:Addr}{ps:List Str}{Q:VK}{H:Hp}{ch:List Nat}{k:Nat}(de:aB K H lp (ps.map V.str))(hz:ps.length<=500)(hc:H cc=!.tup (nV ch))(iG:ch.length<=400)(q:∀ tk vs H',ag H H'->H tk=none->H' tk=!.lst vs->Toks H' vs (ps.map fun p=>(p,ch++[k]))->Q (-tk) H') :
  sA (jq K lp) 1 [V.ref cc,V.int (k:Int)] (fi 0) hZ (kQ (fP (eX 0) (fP (iM (xN K) (eX 1) (kQ (fP (eX 2) f9))) f9))) Q H:=by
 have hl:(ps.map V.str).length=ps.length:=pi _;show#[fun i ys m H1=>ag H H1/\Toks H1 ys ((ps.take i).map fun p=>(p,ch++[k]))/\i<=ps.length/\m=ps.length - i,#[_,ag.refl H,by trivial,wS _,rfl],?_];rintro i ys m H1 ⟨s1,hy,hi,rfl⟩;have hlen:=hy.len;rw[pi,Tm]at hlen;show#[fits ∅,?_];by_cases h:i < ps.length
 ·have hx:(ps.map V.str)[i]?=!.str ps[i]:=by rw[Da,sw h];rfl
  show .inr #[#[_,_,s1.seq de,hx],kb ∅,?_];rintro y H' ⟨rfl,hy'⟩ σ0 hσ0;let⟨a,rfl⟩:=Bx hσ0;have jy:(ps.map V.str)[i]?=!y:=hy' _ (s1.seq de);rw[hx]at jy;cases jy;show#[#[[!_],rfl,rfl],?_];change hZ _ _ _;unfold hZ;dsimp only;rw[At rfl];change kQ _ [!V.str ps[i],!V.ref cc,!V.int (k:Int)] H' _;left;show#[fits (),fun p hp=>?_];have s2:=ag.upd (o:=.tup [V.int (k:Int)]) hp;have b2:upd H' p (.tup [V.int (k:Int)]) p=!.tup [V.int (k:Int)]:=ay;generalize upd H' p (.tup [V.int (k:Int)])=H2 at s2 b2 ⊢;have jx:=s2 _ _ (s1 _ _ hc);have fin:∀ (H3:Hp) (c:Addr),ag H' H3->H3 c=!.tup (nV (ch++[k]))->[V.str ps[i],V.ref c].length<=sizeLine/\∀ p2,H3 p2=none->∃ m',m' < ps.length - i/\ag H (upd H3 p2 (.tup [V.str ps[i],V.ref c]))/\Toks (upd H3 p2 (.tup [V.str ps[i],V.ref c])) (ys++[-p2]) ((ps.take (i+1)).map fun p=>(p,ch++[k]))/\i+1<=ps.length/\m'=ps.length - (i+1):=fun H3 c s3 hc3=>by
   show#[fits (),fun p2 cH=>#[_,?_,?_,?_,h,rfl]]
   ·omega
   ·show(s1.trans s3).trans (ag.upd cH)
   ·rw[_f,sw h,Fa];show Toks.app (ws:=[-p2]) (qs:=[(ps[i],ch++[k])]) #[#[p2,c,rfl,ay,ag.upd cH _ _ hc3],by trivial] (hy.same (s3.trans (ag.upd cH)))
  show#[nV ch,[V.int (k:Int)],bE.of jx,bE.of b2,fits (by simp[nV];omega),?_];by_cases he:ch=[]
  ·subst he;show .inl #[rfl,fin _ _ s2 b2]
  ·show .inr #[fun z=>he (List.map_eq_nil_iff.mp z),(),fun p3 iy=>?_];show fin _ _ (s2.trans (ag.upd iy)) (by rw[ay,lG];rfl)
 ·show .inl #[?_,fun l hl=>?_]
  ·show#[_,s1.seq de,by rw[hl];omega]
  ·have e:ps.take i=ps:=Op ∅;rw[e]at hy;show q l ys _ (s1.trans (ag.upd hl)) (mH s1 hl) ay (hy.same (ag.upd hl))
def Ax:∀ (l:List (Sum Nat Str)) (r:List Nat),(dW l r).length<=l.length
 | [],_=>lm _
 | .inr _::l,r=>Ja0 (Ax l r)
 | .inl _::l,r=>Nat.le_succ_of_le (Ax l _)
def  ZU(N:Cn):Sp:=rm fun x z pt fin H Q _=>X6 fun A L M root t e=>A9 (pt=Tx.S t) (aH N.CH N.CS N.CT H A L M) (A.a=x) (z∈AS) (Gd M) (M.ts.length<=90) (t.length<=400) (fg #[L,M,z,fin,root] t e) (∀ p d av H',ag H H'->H' p=!.tup [-d,-av]->Due H' d e.res->H' av=!.lst (nV e.asked)->Q (-p) H')
def  IL(M:Hs)(r:Nat)(S:Ws)(k:Nat)(nv tv:V):Prop:=∃ t,M.ts[S.here]?=!t/\(t.kd=("folder":Str)/\k=S.here/\nv=.ao/\cU M r S.here\/t.kd≠("folder":Str)/\∃ (nm:Str) (tf:Th),S.place=!(k,nm)/\nv=.str nm/\nm.length<=8/\tv=.int (S.here:Int)/\M.ts[k]?=!tf)
def  ZI(H:Hp)(a:Addr)(d:Wd)(pt:Str)(av:Addr)(S':Ws)(o:Option Tl)(m:Nat)(σ:L2.St)(H':Hp):Prop :=
 ∃ (S:Ws) (vs:List V) (k:Nat) (nv tv:V) (tk:Addr) (o1 o2 o3:Option V),ag H H'/\H tk=none/\av≠tk/\σ=[!-a,!.str d.z,!.str pt,!.bl d.last,!-av,!.int (k:Int),!-tk,!nv,!tv,!.int (S.step:Int),!.int (S.read:Int),o1,o2,o3] /\
  H' av=!.lst (nV S.asked)/\H' tk=!.lst vs/\Toks H' vs (dW S.left.reverse S.aI)/\dw d S/\Bd S/\cQ d m S S' o/\IL d.M d.root S k nv tv
def pM{H3:Hp}{vs:List V}{av:Addr}{xs:List V}{Q:VK}(hv:vs.length<=10)(ha:H3 av=!.lst xs)(q:∀ p d H',ag H3 H'->H' p=!.tup [-d,-av]->H' d=!.tup vs->H' av=!.lst xs->Q (-p) H') :
  vs.length<=sizeLine/\∀ d,H3 d=none->[V.ref d,V.ref av].length<=sizeLine/\∀ p,upd H3 d (.tup vs) p=none->Q (-p) (upd (upd H3 d (.tup vs)) p (.tup [-d,-av])):=by
 show#[fits ∅,fun d hd=>#[fits (),fun p hp=>?_]];have s:=(ag.upd (o:=.tup vs) hd).trans (ag.upd (o:=.tup [-d,-av]) hp);show q p d _ s ay (ag.upd hp _ _ ay) (s _ _ ha)
def ck{A B:TS}{D:Ends}{σ:L2.St}{H:Hp}(h:∀ N:L2.St->Hp->Prop,(∀ σ' H',B D σ' H'->N σ' H')->A { D with nx:=N } σ H):lK A B D σ H:=aq (h _ fun _ _ x=>x)
def OK{A:TS}{D:Ends}{σ:L2.St}{H:Hp}(h:∀ D':Ends,(∀ σ' H',D.nx σ' H'->D'.nx σ' H')->(∀ v H',D.rt v H'->D'.rt v H')->A D' σ H):A D σ H:=h D (fun _ _ x=>x) fun _ _ x=>x
def IS{c:TT}{t u:TS}{D:Ends}{σ:L2.St}{H:Hp}(h:∀ U:TS,(∀ σ' H',u D σ' H'->U D σ' H')->tK c t U D σ H):tK c t u D σ H:=h u fun _ _ x=>x
def Uj{a b c e:Nat}(h:a+b+c<=8000)(hl:e < b):a+1+e+c<=8000:=∅
def Ss{a b c e v:Nat}(h:a+b+c<=8000)(hl:e < b)(h2:v<=e):v<=8000:=∅
def aah:T.qk.k P w base 8 (ZU T.cn):=by
 show T.qk.F.ok fh (fun _ _ _ _ h=>jM h fun _ _ _ _ _=>rfl) fun ax A _ s H vs Q E hr h=>jM h fun x z pt fin h=>?_;let⟨AA,L,M,r0,t,e,rfl,i,rfl,hz,g,hn,hl,pw,q⟩:=h;show bS (b:=aW C1) ((al (aR 4 fh.nd (db ae))
 (al (aR 5 fh.nd (G7<$>T.kP (aa (ad 0) (aa (ad 1) (aa (ad 2) (aa (ra<$>T.et (aa (ad 0) (aa (Jy<*T.oF (ad 0) (aa (ad 1) ae)) ae))) ae))))))
 (al (aX (da (cK (R0<$>T.qJ (aa (ad 0) (aa (ad 1) (aa (ad 5) ae)))))) (aj gp) ce)
 (al (zM 6 rfl fh.nd (x:=("_law_part":Str)) (iJ (K:=K) rfl (II<$>T.kF (aa (ad 2) ae))) (fun _ _ _ _=>by show ux) (fun _ _ _ _=>by show(dm 0 (show List.Nodup (["_law_part"]:List Str) by decide))) (fun _ _ _ _=>by show(dL (aa (ad 0) (aa (dL ae) ae)))) (.of rfl (by show trivial) (by walk_at "c") rfl (by show trivial)))
 (al (aR 7 fh.nd ao)
 (al (aR 8 fh.nd ao)
 (al (aR 9 fh.nd bi)
 (al (aR 10 fh.nd bi)
 (al (kX FM (bf (IP (K:=K) rfl hr.fU) (ad 6) (db ae)) (al (qu (gf _8 _9 QU (ad 6) (aa bi ae)) (qS (K:=K) (n:=2) rfl rfl (iR (dm 11 fh.nd) (iR (dm 12 fh.nd) pR))))
 (al (aR 9 fh.nd (cr dA (ad 9) bi))
 (al (aX (bf n8 (ad 7) ao) (aj (aN (dL (aa (dL (aa ap (aa (ad 9) (aa ap ae)))) (aa (ad 4) ae))))) ce)
 (al (bj (gf GE GM lb (ad 4) (aa (ad 5) ae)))
 (al (aR 13 fh.nd (TZ<$>T.pP (aa (ad 0) (aa (ad 1) (aa (ad 5) (aa (ad 11) ae))))))
 (al (aX (da (cK (eJ T.aK T.lQ.h (C4 T) hr.m T.lQ.b .nil fk (ad 0) (aa (ad 1) (aa (ad 5) (aa ap ae)))))) (aj (aN (dL (aa (dL (aa ap (aa (ad 9) (aa ap ae)))) (aa (ad 4) ae))))) ce)
 (al (aX (bf rj (ad 13) ao) (aj (aN (dL (aa (dL (aa ap (aa (ad 9) (aa ap ae)))) (aa (ad 4) ae))))) ce)
 (aj (aX (bf eD (tM<*T.il (ad 0) (aa (ad 13) ae)) ap) (aj (aR 5 fh.nd (ra<$>T.et (aa (ad 0) (aa (ad 13) ae))))) (aj (aX (dZ (ge (bf eD (tM<*T.il (ad 0) (aa (ad 13) ae)) ap) (iN (dZ (gl (da (cK (ad 3))) (gl (bf (Jl (K:=K) rfl hr.fU) (ad 6) (db ae)) (ka (bf (QY (K:=K) rfl hr.fU) (ad 12) (dL ae))))))))) (al (aR 7 fh.nd (ad 11))
 (aj (aR 8 fh.nd (ad 13)))) (aj (aX (bf (xl (K:=K) rfl) (ad 13) (ad 12)) (aj (aN (dL (aa (dL (aa ap (aa (XN<$>T.ql (aa (ad 12) (aa (ad 13) ae))) ae))) (aa (ad 4) ae))))) (aj (aX (bf eD (ad 10) bi) (aj (aN (dL (aa (dL (aa ap (aa (ad 9) (aa ap ae)))) (aa (ad 4) ae))))) (al (aR 10 fh.nd (cr dA (ad 10) bi))
 (al (aR 5 fh.nd (G7<$>T.kP (aa (ad 0) (aa (ad 1) (aa (xy<*T.ji (ad 0) (aa (ad 13) ae)) (aa (ad 5) ae))))))
 (aj (aR 6 fh.nd (cr dA (AQ rfl (TN:=["_law_one"]) (caps:=["_law_chain","_law_number"]) (ix:=[12,13]) (iJ (K:=K) rfl (II<$>T.kF (aa (xy<*T.ji (ad 0) (aa (ad 13) ae)) ae))) (fun _ _ _ _=>by show ux) (fun _ _ _ _=>by show(dm 0 (show List.Nodup (["_law_one","_law_chain","_law_number"]:List Str) by decide))) (fun _ _ _ _=>by show(dL (aa (ad 0) (aa (cr (Wj (K:=K) rfl) (ad 1) (dL (aa (ad 2) ae))) ae)))) (.of rfl (by show#[rfl,rfl,trivial]) (by walk_at "c") rfl (by show#[#[rfl,rfl,rfl,rfl],#[rfl,rfl,rfl,rfl],trivial]))) (ad 6))))))))))))))))))))))
 (aj (aN (dL (aa (dL (aa ap (aa (bv (bF (K:=K) rfl) (db (aa (ad 8) (aa (ad 5) ae))) (mj Di T.xw xR (aa (f8 rj (ad 7) ao) ae))) (aa (aaH<$>T.qY (aa (ad 0) (aa (ad 1) (aa (ad 5) (aa (ad 7) ae))))) ae)))) (aa (ad 4) ae))))))))))))))) ?_
 let⟨gO,bw,hps25,n0,S',o,fZ,f1,f2⟩:∃ h,mW ⟨L,M,z,fin,r0⟩ (cu t) h/\(cC t).length<=2500/\∃ n S' o,cQ ⟨L,M,z,fin,r0⟩ n ⟨h,none,0,[],bH (cC t),[],0,0⟩ S' o/\(∀ y,o=!y->e=⟨S'.asked,yj S'.step y⟩)/\(o=none->∃ ns bV,tY M L r0 S' ns bV/\e=⟨S'.asked,.found S'.here (ns++bV)⟩):=by
  cases pw.g with
  | told b hp hr=>show#[_,b,hp,_,_,_,hr,fun y hy=>(by cases hy;rfl),fun z=>(by cases z)]
  | found b hp hr ht=>show#[_,b,hp,_,_,_,hr,fun y hy=>(by cases hy),fun _=>#[_,_,ht,rfl]]
 let⟨st,b,r,a,t0,aQ,ha,gy,iT,oW,hb00⟩:=bw.ex;have FK:=bw.z;dsimp only at aQ ha gy iT oW FK;let⟨r1,f6,ga⟩:=g.as z hz;rw[ga.ro]at FK;obtain rfl:r1=r0:=jO FK;let⟨rfl,rfl⟩:=g.jh iT;obtain rfl:b=gO:=hb00.symm;have hb:(if cu t=true then r1 else f6)=b:=by
  rcases aQ with ⟨e1,e2⟩ | ⟨e1,e2⟩
  ·rw[At e1,e2]
  ·rw[wT (by rw[e1];nofun)];rw[ga.st]at e2;show jO e2
 have zt:t0.kd=("folder":Str)/\cU M r1 b:=by
  rcases aQ with ⟨e1,e2⟩ | ⟨e1,e2⟩
  ·let⟨t',h1,h2⟩:=ga.tr;rw[e2,h1]at gy;cases gy;show#[h2,e2 ▸ .refl]
  ·rw[ga.st]at e2;obtain rfl:f6=b:=jO e2;let⟨t',h1,h2⟩:=ga.tk;rw[h1]at gy;cases gy;show#[h2,ga.b]
 have pL:=ga.ro;exists 10;show ck fun N hN=>?_;left;show#[fits (),fun av fX=>hN _ _ (ck fun N hN=>?_)];have s1:=ag.upd (o:=.lst []) fX;have b1:upd H av (.lst []) av=!.lst (nV []):=ay;generalize upd H av (.lst [])=H1 at s1 b1 ⊢;have i1:=i.same s1;let⟨fs,c,hx,aS,sf⟩:=i1.h;left;show(mI hx sf #[AA,L,M,f6,i1,rfl,by rw[pL];rfl,ga.st,AA,L,M,f6,i1,rfl,rfl,g.tr,g.un,fun H2 s2=>?_]);have i2:=i1.same s2;show#[AA,L,M,t,f6,r1,rfl,#[pw.l1,pw.l2,pw.all],i2,rfl,rfl,pL,g,fun H3 s3=>hN _ _ (ck fun N hN=>?_)];rw[hb];have i3:=i2.same s3;left;show#[AA,L,M,b,r1,t0,i3,rfl,rfl,pL,g,gy,zt.2,fun H4 s4=>bI rfl (hN _ _ (ck fun N hN=>?_))];have i4:=i3.same s4;left;show#[t,rfl,#[pw.l1,pw.l2,pw.all],hl,fun lp H5 s5 de=>#[#[_,aB.of de],?_]];have iW:=((s2.trans s3).trans s4).trans s5;have b5:=iW _ _ b1;rw[yo]at de;have ej:=tE pw.all;have Er:(cC t).length<=402:=by
  have h1:=@AU (Tx.words 47 t) t;have h2:=B9 47 t;unfold cC;rw[pi];omega
 replace de:H5 lp=!.lst ((cC t).map V.str):=de
 generalize cC t=ps at de fZ Er ej;show Ul (aB.of de) (tz Er ⋯) fun tk vs H6 s6 Ew eN jC=>hN _ _ (ck fun N hN=>?_);have NF:=iW.trans s6;have b6:=s6 _ _ b5;left;show hN _ _ (ck fun N hN=>?_);left;show hN _ _ (ck fun N hN=>?_);left;show hN _ _ (ck fun N hN=>?_);left;have nat:av≠tk:=bt b5 Ew;have ftk':H tk=none:=mH (s1.trans iW) Ew;have rH:=wI ps;show hN _ _ (ck fun N hN=>#[ZI H AA.a #[L,M,z,fin,r1] (Tx.S t) av S' o,#[n0,#[b,none,0,[],bH ps,[],0,0],vs,b,.ao,.ao,tk,none,none,none,s1.trans NF,ftk',nat,rfl,b6,eN,by dsimp only;rw[Mh,<- FB (ps.map _),AZ];show(FB (ps.map fun p=>(p,([]:List Nat)))).symm ▸ jC,#[#[t0,gy,.inl zt],fun q hq=>ej q (sS hq),sR ps,wS _],#[wS _,by dsimp only;omega,wS _,wS _],fZ,t0,gy,.inl #[zt.1,rfl,rfl,zt.2]],?_]);clear jC eN b6 NF s6 Ew de b5 iW s5 i4 s4 i3 s3 i2 s2 hx aS sf i1 b1 fZ ej Er nat ftk' rH vs tk;rintro m σ' H1 ⟨S,vs,k,nv,tv,tk,o1,o2,o3,s1',ftk',nat,rfl,b1,eN,jC,hw,iY,fZ,en⟩;have i1:=i.same s1';let⟨fs,c,hx,aS,sf⟩:=i1.h;left;show#[fits (),fun pn hpn=>?_];show cI hpn fun H2 s2 c2=>?_;have i2:=i1.same s2;have b2:=s2 _ _ b1;have t2:=s2 _ _ eN;show#[vs,[],aB.of t2,aB.of c2,.inl #[rfl,?_]];have y3:=jC.same s2;have Ot:=s1'.trans s2;let⟨iz,vC⟩:=My fZ;generalize htoks:dW S.left.reverse S.aI=toks at y3 iz vC;cases toks with
 | nil =>
  cases vs with
  | cons v vs=>show y3.elim
  | nil =>
   let⟨ho,eh,zh,es,ea⟩:=iz rfl;show bI rfl (hN _ _ ?_);left;let⟨ns,bV,⟨f,a',t',ha',ht',hk',bK,hn99,ng⟩,MV⟩:=f2 ho;rw[eh]at ht' hk';rw[zh]at hk';show#[fits (),fun pl bx=>#[by trivial,?_]];show cI bx fun H3 s3 c3=>?_;simp only[bB,c3];let⟨tt,jz,en⟩:=en;rw[jz]at ht';cases ht';have hq:cR [tv,V.int (k:Int)] (if decide (nv=V.ao)=true then 1 else 0)=!V.int (S.here:Int)/\k=f/\(nv=.ao/\bV=[]\/∃ nm:Str,nv=.str nm/\bV=[nm]/\nm.length<=8)/\∃ tk,M.ts[k]?=!tk:=by
    rcases en with ⟨h1,rfl,rfl,_⟩ | ⟨h1,nm,tf,h2,rfl,h3,rfl,h4⟩
    ·rcases hk' with ⟨_,rfl,rfl⟩ | ⟨h,_⟩
     ·show#[by rw[At (u8 rfl)];show jR (j:=1) rfl,rfl,.inl #[rfl,rfl],_,jz]
     ·show absurd h1 h
    ·rcases hk' with ⟨h,_⟩ | ⟨_,nm',h5,rfl,h6⟩
     ·show absurd h h1
     ·rw[h2]at h5;cases h5;show#[by rw[wT (by rw[kt (by nofun)];nofun)];show jR (j:=0) rfl,rfl,.inr #[_,rfl,rfl,h3],tf,h4]
   let⟨e1,rfl,e2,tk',e3⟩:=hq;rw[e1];show#[AA,L,M,k,r1,tk',ns,bV,i2.same s3,rfl,rfl,pL,g,hn,e3,e2,bK,hn99,ng,fun H4 s4=>?_];show pM () ((s3.trans s4) _ _ b2) fun p d H' s' hp hd ha=>q p d av H' ((Ot.trans (s3.trans s4)).trans s') hp (by rw[MV,eh];show hd) (by rw[MV,ea];show ha)
 | cons pc ts =>
  let⟨p,ch⟩:=pc;cases vs with
  | nil=>show y3.elim
  | cons v vs =>
   let⟨l,S1,o1',aQ,ny,iS,hsub,hpin,rH,NH,iA⟩:=vC p ch ts rfl;let⟨⟨pa,pc,rfl,Ni,yJ⟩,MW⟩:=y3;have ni:=hw.ps p hpin;have rL:dw #[L,M,z,fin,r1] { S with left:=l,aI:=ch }:=#[hw.v,fun q hq=>hw.ps q (hsub q hq),iS hw.cn,hw.rl];have bA:=iY.a;have bP:=iY.p;have bR:=iY.r;have bQ:=iY.q;have Fu:Bd S1:=du.Ka (S:={ S with left:=l,aI:=ch }) bA (Uj bP rH) (tz NH bR) bQ aQ;have OG:ch.length<=40:=tz NH (tz bR bQ);have Fg:vs.length<=8000:=by
    have h2:=Ax l.reverse ch;rw[ny,_R,<- MW.len]at h2;show Ss bP rH h2
   show cv rfl #[_,fun _ _ h=>h,OK fun D hnx eF=>ck fun N hN=>?_];left;have t3:upd H2 tk (.lst vs) tk=!.lst vs:=ay;have MM:=MW.upd (o:=.lst vs) t2;have Oc:upd H2 tk (.lst vs) pa=!.tup [V.str p,-pc]:=by rw[ah (cT Ni t2 (by nofun))];show Ni
   have E8:upd H2 tk (.lst vs) pc=!.tup (nV ch):=by rw[ah (cT yJ t2 (by nofun))];show yJ
   have b3:upd H2 tk (.lst vs) av=!.lst (nV S.asked):=by rw[ah nat];show b2
   have km:ag H (upd H2 tk (.lst vs)):=Ot.fE ftk';simp only[t2];show#[_,_,rfl,pa,_,rfl,bE.of Oc,rfl,_,_,rfl,_,_,rfl,rfl,hN _ _ (ck fun N hN=>?_)];generalize upd H2 tk (.lst vs)=H3 at t3 MM Oc E8 b3 km ⊢;left;show hN _ _ (ck fun N hN=>?_);have i3:=i.same km;let⟨gZ,c3,dq,fY,dO⟩:=i3.h;let⟨tt,jz,en⟩:=en;left;show#[by trivial,?_];rcases en with ⟨fq,rfl,rfl,y8⟩ | ⟨fq,nm,tf,bx,rfl,_⟩
   ·show bI (On not (u8 rfl)) (hN _ _ (ck fun N hN=>?_));left;simp only[b3];show#[ww (GT _) (tW (by simp;omega)),hN _ _ (ck fun N hN=>?_)];have b4:upd H3 av (.lst (nV S.asked++[V.int (S.here:Int)])) av=!.lst (nV (S.asked++[S.here])):=by rw[ay,lG];rfl
    have t4:upd H3 av (.lst (nV S.asked++[V.int (S.here:Int)])) tk=!.lst vs:=by rw[ah (ut nat)];show t3
    have MG:=MM.upd (o:=.lst (nV S.asked++[V.int (S.here:Int)])) b3;have OH:upd H3 av (.lst (nV S.asked++[V.int (S.here:Int)])) pc=!.tup (nV ch):=by rw[ah (cT E8 b3 (by nofun))];show E8
    have FH:ag H (upd H3 av (.lst (nV S.asked++[V.int (S.here:Int)]))):=km.fE fX;generalize upd H3 av (.lst (nV S.asked++[V.int (S.here:Int)]))=H4 at b4 t4 MG OH FH ⊢;have i4:=i.same FH;left;show#[AA,L,M,tt,S.here,r1,i4,rfl,rfl,pL,g,jz,y8,ni,fun H5 s5=>hN _ _ (ck fun N hN=>?_)];have b5:=s5 _ _ b4;have t5:=s5 _ _ t4;have ED:=s5 _ _ OH;have v9:=MG.same s5;have ki:=FH.trans s5;have i5:=i.same ki;let⟨vT,c5,gN,hfl5,rE⟩:=i5.h;left;show(mI gN rE (Bs i5 (by rw[pL];rfl) (by symm) jz ?_));cases hm:ee ("g":Str) (dj tt z) with
    | false =>
     show cv rfl ?_;let⟨rfl,e2,e3⟩:=GQ aQ jz fq hm;rcases iA with ⟨_,_,e,_⟩ | ⟨y,e,rfl,rfl⟩
     ·cases e
     cases e;show pM () b5 fun p d H' s' hp hd ha=>eF _ _ (q p d av H' (ki.trans s') hp ?_ (by rw[f1 _ rfl,e3];show ha));rw[f1 _ rfl,e2];show hd
    | true =>
     show bI rfl (hN _ _ (ck fun N hN=>?_));left;show#[by trivial,?_];let⟨e2,e3,hto7⟩:=toStep (d:=#[L,M,z,fin,r1]) g aQ jz fq hm ni y8;dsimp only at e2 e3;have aA:=stepOk (d:=#[L,M,z,fin,r1]) (S1:=S1) (p:=p) g ga.tr rL jz fq y8;cases hto7 with
     | none e1 =>
      rw[show eM r1 tt S.here p=V.ao from e1];rcases iA with ⟨_,_,e,_⟩ | ⟨y,e,rfl,rfl⟩
      ·cases e
      cases e;show cv (u8 rfl) ?_;show pM () b5 fun p d H' s' hp hd ha=>eF _ _ (q p d av H' (ki.trans s') hp ?_ (by rw[f1 _ rfl,e3];show ha));rw[f1 _ rfl,e2];show hd
     | @folder cn tc e1 bU dP hbc e4 e5 e6 e7 =>
      have o6:=aA (.folder e1 bU dP hbc e4 e5 e6 e7);rw[show eM r1 tt S.here p=V.int (cn:Int) from e1];let⟨n',hn',_,hrun'⟩:∃ n',n' < m/\True/\cQ ⟨L,M,z,fin,r1⟩ n' S1 S' o:=by
       rcases iA with ⟨n',h1,_,h⟩ | ⟨y,e,_⟩
       ·show#[n',h1,trivial,h]
       ·cases e
      show bI (kt (by nofun)) (hN _ _ ?_);let⟨ac,cW⟩:=adr i5.len bU;left;show(mI gN rE #[AA,L,M,cn,ac,tc,i5,rfl,rfl,cW,bU,?_]);simp only[kZ];show cv (u8 dP) ?_;show#[AA,L,M,cn,i5,rfl,rfl,g.tr,g.un,fun H6 s6=>hnx _ _ #[n',hn',S1,vs,cn,.ao,tv,tk,_,_,_,ki.trans s6,ftk',nat,by rw[e2,e7];rfl,by rw[e3];show s6 _ _ b5,s6 _ _ t5,by rw[e5,e6];dsimp only;rw[ny];show v9.same s6,o6,Fu,hrun',tc,by rw[e4];show bU,.inl #[dP,e4.symm,rfl,by rw[e4];show hbc]]]
     | @fin cn tc e1 bU dP hf e4 zh h8 e5 e6 e7 =>
      have o6:=aA (.fin e1 bU dP hf e4 zh h8 e5 e6 e7);rw[show eM r1 tt S.here p=V.int (cn:Int) from e1];let⟨n',hn',_,hrun'⟩:∃ n',n' < m/\True/\cQ ⟨L,M,z,fin,r1⟩ n' S1 S' o:=by
       rcases iA with ⟨n',h1,_,h⟩ | ⟨y,e,_⟩
       ·show#[n',h1,trivial,h]
       ·cases e
      show bI (kt (by nofun)) (hN _ _ ?_);let⟨ac,cW⟩:=adr i5.len bU;left;show(mI gN rE #[AA,L,M,cn,ac,tc,i5,rfl,rfl,cW,bU,?_]);simp only[kZ];show bI (kt dP) ?_;show(mI gN rE #[AA,L,M,cn,ac,tc,i5,rfl,rfl,cW,bU,?_]);simp only[kZ];have MC:∀ H6,ag H5 H6->lK (jU (eX 11) (fi 7)) (jU (eX 13) (fi 8)) D [!V.ref AA.a,!V.str z,!V.str (Tx.S t),!V.bl fin,!V.ref av,!V.int (S.here:Int),!V.ref tk,!V.ao,!tv,!V.int ((S.step:Int)+1),!V.int (S.read:Int),!V.str p,!V.ref pc,!V.int (cn:Int)] H6:=fun H6 s6=>by
       right;show hnx _ _ #[n',hn',S1,vs,S.here,.str p,.int (cn:Int),tk,_,_,_,ki.trans s6,ftk',nat,by rw[e2,e7];rfl,by rw[e3];show s6 _ _ b5,s6 _ _ t5,by rw[e5,e6];dsimp only;rw[ny];show v9.same s6,o6,Fu,hrun',tc,by rw[e4];show bU,.inr #[dP,p,tt,zh,rfl,h8,by rw[e4],jz]]
      by_cases aS:tc.kd=("file":Str)
      ·show cv (u8 aS) ((At trivial).mpr (MC _ (ag.refl _)))
      let⟨hle,FY⟩:l=[]/\fin=false:=hf.resolve_left aS;let⟨hts0,hch0⟩:=(Jz (iS hw.cn)).mp hle;show bI (kt aS) ?_;have we:vs=[]:=Pi.mp (by rw[v9.len,<- ny,hts0];rfl);show cv (by rw[FY];rfl) #[fits (),fun d1 eZ=>#[vs,[],aB.of (ag.upd eZ _ _ t5),aB.of ay,.inl #[rfl,cv (by rw[we];rfl) #[fits (),fun d2 hd2=>#[nV ch,bE.of (ag.upd hd2 _ _ (ag.upd eZ _ _ ED)),bE.of ay,cv (by rw[hch0];rfl) (MC _ ((ag.upd eZ).trans (ag.upd hd2)))]]]]]
     | @lead cn tc _ e1 bU eG eI nh =>
      have dP:tc.kd≠("folder":Str):=Vc (.inr eG);rw[show eM r1 tt S.here p=V.int (cn:Int) from e1];show bI (kt (by nofun)) (hN _ _ (IS fun U hU=>?_));let⟨ac,cW⟩:=adr i5.len bU;left;show(mI gN rE #[AA,L,M,cn,ac,tc,i5,rfl,rfl,cW,bU,?_]);simp only[kZ];show bI (kt dP) (hU _ _ (IS fun U2 hU2=>?_));have rest:∀ H6,ag H5 H6->U2 D [!V.ref AA.a,!V.str z,!V.str (Tx.S t),!V.bl fin,!V.ref av,!V.int (S.here:Int),!V.ref tk,!V.ao,!tv,!V.int ((S.step:Int)+1),!V.int (S.read:Int),!V.str p,!V.ref pc,!V.int (cn:Int)] H6:=fun H6 s6=>hU2 _ _ (by
       have b6:=s6 _ _ b5;have t6:=s6 _ _ t5;have FN:=s6 _ _ ED;have hto8:=v9.same s6;have vP:=ki.trans s6;have i6:=i.same vP;let⟨fs6,c6,zi,hfl6,zm⟩:=i6.h;left;show#[nV ch,.inr (bE.of FN),rfl,by simp[cE],?_];rw[kO];cases nh with
       | ring hk =>
        replace hk:cn∈ch:=hk
        rw[Lx hk];rcases iA with ⟨_,_,e,_⟩ | ⟨y,e,rfl,rfl⟩
        ·cases e
        cases e;show bY #[ch,cn,rfl,FN,hk,tz OG ⋯,fun rl H7 s7 df=>?_];show pM () (s7 _ _ b6) fun p d H' s' hp hd ha=>eF _ _ (q p d av H' ((vP.trans s7).trans s') hp ?_ (by rw[f1 _ rfl];show ha));rw[f1 _ rfl];show#[rl,hd,s' _ _ df]
       | many hk kj =>
        rw[xV (show cn ∉ ch from hk)];rcases iA with ⟨_,_,e,_⟩ | ⟨y,e,rfl,rfl⟩
        ·cases e
        cases e;have h40':S.read=40:=kj;show bb (cv (u8 (by rw[h40'];rfl)) ?_);show pM () b6 fun p d H' s' hp hd ha=>eF _ _ (q p d av H' (vP.trans s') hp ?_ (by rw[f1 _ rfl];show ha));rw[f1 _ rfl];show hd
       | read hk kj hR =>
        rw[xV (show cn ∉ ch from hk)];have h40':S.read≠40:=kj;have o6:=aA (.lead e1 bU eG eI (.read hk kj hR));let⟨n',hn',_,hrun'⟩:∃ n',n' < m/\True/\cQ ⟨L,M,z,fin,r1⟩ n' S1 S' o:=by
         rcases iA with ⟨n',h1,_,h⟩ | ⟨y,e,_⟩
         ·show#[n',h1,trivial,h]
         ·cases e
        show bb (bI (kt fun e=>h40' (NE e)) ?_);cases hR with
        | @mk a2 tc2 tl ar tr b2' r2' hac2 htc2 rG l1 l2 ju hlen vD dC rM =>
        rw[bU]at htc2;cases htc2;let⟨tl',e5,yT,Ol⟩:=(g.th _ tc bU).ld eG;obtain rfl:tl=tl':=Tx.ic (rG.symm.trans e5);let⟨eb,rfl⟩:=g.jh rM
        replace eb:=eb.symm
        dsimp only at eb;subst eb;right;right;show(mI zi zm #[AA,L,M,cn,ac,tc,i6,rfl,rfl,cW,bU,?_]);simp only[sE,rG];show#[AA,L,M,tl,S.here,r1,rfl,yT,i6,rfl,rfl,pL,g,fun H7 s7=>?_];have i7:=i6.same s7;let⟨Nn,c7,vy,ND,sf7⟩:=i7.h;left;show#[[V.ref pc,V.int (cn:Int)],#[rfl,fun i j v h1 h2=>?_],?_]
        ·match i,h1,h2 with
         | 0,h1,h2=>cases h1;cases h2;rfl
         | 1,h1,h2=>cases h1;cases h2;rfl
        show(mI vy sf7 #[AA,L,M,cn,ac,tc,i7,rfl,rfl,cW,bU,?_]);simp only[sE,rG];show#[tl,rfl,yT,∅,fun lp H8 s8 de=>?_];rw[yo]at de;show#[#[_,aB.of de],RN (k:=cn) (ch:=ch) (aB.of de) (by have:=hlen;unfold cC at this;show tz this ⋯) ((s7.trans s8) _ _ FN) (tz OG ⋯) fun tk2 MY H9 s9 ftk2 htk2 ML=>?_];have yV:=(s7.trans s8).trans s9;have t9:=yV _ _ t6;simp only[htk2,t9];have hl9:=ML.len;show#[tW (by rw[hl9,pi];unfold cC at hlen;omega),fun p9 hp9=>?_];have FO:=yV.trans (ag.upd (o:=.lst (MY++vs)) hp9);show hnx _ _ #[n',hn',_,MY++vs,(if cu tl=true then r1 else S.here:Nat),.ao,tv,p9,_,_,_,vP.trans FO,mH (vP.trans yV) hp9,bt (yV _ _ b6) hp9,by rfl,by show FO _ _ b6,ay,?_,o6,Fu,hrun',?_]
        ·change Toks _ _ (dW (((l++[Sum.inl cn])++bH (cC tl)).reverse) (ch++[cn]));rw[YK,ny];show Toks.app ((hto8.same FO)) (ML.same (ag.upd hp9))
        ·let⟨Ff,EB,ph⟩:=ga.tr;change IL M r1 (gA _ _ _ (if cu tl=true then r1 else S.here)) _ _ _;by_cases eF:cu tl=true
         ·rw[At eF];show#[Ff,EB,.inl #[ph,rfl,rfl,.refl]]
         ·rw[wT eF];show#[tt,jz,.inl #[fq,rfl,rfl,y8]])
      have hff:tc.kd≠("file":Str):=Xe eG;left;show(mI gN rE #[AA,L,M,cn,ac,tc,i5,rfl,rfl,cW,bU,?_]);simp only[kZ];show bI (kt hff) ?_;cases rY:fin with
      | true =>
       rw[rY]at rest;show bb (bb (rest _ (ag.refl _)))
      | false =>
       rw[rY]at rest;show bY #[fits (),fun d1 eZ=>#[vs,[],aB.of (ag.upd eZ _ _ t5),aB.of ay,.inl #[rfl,?_]]];by_cases we:vs=[]
       ·show cv (by rw[we];rfl) #[fits (),fun d2 hd2=>#[nV ch,bE.of (ag.upd hd2 _ _ (ag.upd eZ _ _ ED)),bE.of ay,bI ?_ (rest _ ((ag.upd eZ).trans (ag.upd hd2)))]];cases iG:ch with
        | cons _ _=>rfl
        | nil =>
         have iZ:l=[]:=(Jz (iS hw.cn)).mpr #[by rw[ny];show Pi.mp (by rw[<- v9.len,we];rfl),iG];show absurd #[iZ,rY] eI
       ·show bI (by cases hv:vs with | nil=>show absurd hv we | cons _ _=>rfl) (bb (rest _ (ag.upd eZ)))
   ·show cv (On not (kt (by nofun))) ?_;let⟨rfl,e2,e3⟩:=KH aQ jz fq;rcases iA with ⟨_,_,e,_⟩ | ⟨y,e,rfl,rfl⟩
    ·cases e
    cases e;show pM () b3 fun p d H' s' hp hd ha=>eF _ _ (q p d av H' (km.trans s') hp ?_ (by rw[f1 _ rfl,e3];show ha));rw[f1 _ rfl,e2];show hd
def vk(l:List Nat):(nV l).all cE=true:=by
 rw[Ix];intro x hx;let⟨n,_,rfl⟩:=Do.mp hx;rfl
def  Ux(N:Cn):Sp:=oG fun fd d H Q _=>X2 fun e H0=>A3 (gH N H0 H fd e) (Due H d e) (∀ H',ag H H'->Q (.bl true) H')
def  KG(w0:Str):List V:=[("found":Str),("failed":Str),("ring":Str)].map fun y=>V.bl (decide (w0=y))
def BX{w0:Str}{r:List V}{fd d p:Addr}{H:Hp}{xs:List V}{C Q:Hp->Prop}(hd:H d=!.tup (.str w0::r))(hp:H p=!.lst xs)(hx:xs=KG w0)(q:∀ H',ag H H'->Q H') :
  kI [("_law_word":Str)].length [1] (xq K (wZ (fP (tC (V.str "found")) (fP (tC (V.str "failed")) (fP (tC (V.str "ring")) f9))))) (fi 0) hZ (iM (qo false) (iM (og K) (eX 1) (tC (V.int 0))) (eX 0))
   [!V.ref fd,!V.ref d,!V.ref p] H (fun y H2=>fT K true (-p) y H2 (fun v H3=>match v with | .bl b=>if b=true then C H3 else Q H3 | _=>False)):=by
 rw[DI];show#[[V.ref d],#[rfl,fun i j v h1 h2=>?_],?_]
 ·match i,h1,h2 with
  | 0,h1,h2=>cases h1;cases h2;rfl
 left;show#[fits (),fun l hl=>?_];show cI hl fun H1 s1 b1=>?_;have eZ:=s1 _ _ hd;show#[#[_,aB.of b1],Z5 (fun x=>match x with | .str y=>V.bl (decide (w0=y)) | _=>.ao) (aB.of b1) () (fun x hx R hR=>?_) (fun l2 cB=>?_)]
 ·simp only[lv,sK,AT]at hx;simp only[Fr,_N];left;simp only[bB,eZ,dv];rcases hx with rfl | rfl | rfl <;> show hR
 ·have s2:=s1.trans (ag.upd (o:=.lst ([V.str "found",V.str "failed",V.str "ring"].map fun x=>match x with | .str y=>V.bl (decide (w0=y)) | _=>.ao)) cB);subst hx;show fT.same (K:=K) (neg:=true) (Q:=fun v H3=>match v with | .bl b=>if b=true then C H3 else Q H3 | _=>False) (xs:=KG w0) (.inl #[aB.of (s2 _ _ hp),aB.of ay]) rfl ?_;show bI rfl (q _ s2)
def LU:T.lH.k P w base 1 (Ux T.cn):=by
 show T.lH.F.ok KW (fun _ _ _ _ h=>iP h fun _ _ _=>rfl) fun ax A _ s H vs Q E hr h=>iP h fun fd d h=>?_;let⟨e,H0,bh,hd,q⟩:=h;show bS (b:=aW Bf) ((al (aR 2 KW.nd (db (aa (cA (oz (K:=K) rfl) T.fN fR (aa (ad 0) (aa (dl (-T.dY) T.Dz rfl) ae))) (aa (cA (oz (K:=K) rfl) T.fN fR (aa (ad 0) (aa (dl (-T.ef) T.GY rfl) ae))) (aa (cA (oz (K:=K) rfl) T.fN fR (aa (ad 0) (aa (dl (-T.dF) T.xX rfl) ae))) ae)))))
 (al (aX (dZ (ge (da (cK (cA (oz (K:=K) rfl) T.fN fR (aa (ad 0) (aa (dl (-T.v8) T.RQ rfl) ae))))) (iN (bf (Aw (K:=K) rfl hr.fU) (ad 2) (AQ rfl (TN:=["_law_word"]) (caps:=["_law_due"]) (ix:=[1]) (iJ (K:=K) rfl (db (aa ap (aa ap (aa ap ae))))) (fun _ _ _ _=>by show ux) (fun _ _ _ _=>by show(dm 0 (show List.Nodup (["_law_word","_law_due"]:List Str) by decide))) (fun _ _ _ _=>by show(f8 (eD) (bv (bF (K:=K) rfl) (ad 1) bi) (ad 0))) (.of rfl (by show#[rfl,trivial]) (by walk_at "c") rfl (by show#[#[rfl,rfl,rfl,rfl],trivial]))))))) (aj (aN em)) ce)
 (al (aX (bf eD (bv (bF (K:=K) rfl) (ad 1) bi) ap) (aj (aN (f8 (ug (K:=K) rfl hr.fU) (dL (aa (am T.jl T.Cf (ad 0)) (aa (am T.jl T.F9 (ad 0)) ae))) (ii (Gf (K:=K) rfl) (ad 1) (jr bi) jc)))) ce)
 (al (aX (bf eD (bv (bF (K:=K) rfl) (ad 1) bi) ap) (aj (aN (f8 (ug (K:=K) rfl hr.fU) (dL (aa (am T.jS T.JE (ad 0)) (aa (am T.jS T.Ja (ad 0)) ae))) (ii (Gf (K:=K) rfl) (ad 1) (jr bi) jc)))) ce)
 (aj (aN (BH (cA kU T.fN fR (aa (am T.g8 T.rf (ad 0)) (aa (lz (.ty "list") T.mx tq rfl) ae))) (Dv.one (f8 (ug (K:=K) rfl hr.fU) (am T.g8 T.rf (ad 0)) (bv (bF (K:=K) rfl) (ad 1) bi))))))))))) ?_
 exists 1;right;cases e with
 | found k ns =>
  let⟨bC,bh⟩:=bh
  replace hd:H d=!.tup [.str "found",.int (k:Int),.str (ir ns)]:=hd
  show#[_,_,_,.of (.ins bh T.jl T.q1 T.q2 T.q3 T.q4),.cls T.q5,_,_,_,.of (.ins bh T.jl T.q1 T.q2 T.q3 T.q4),.cls T.q9,_,_,_,.of (.ins bh T.jl T.q1 T.q2 T.q3 T.q4),.cls T.kJ,fits (),fun p hp=>aq ?_];show cI hp fun H1 s1 b1=>?_;have m9:=s1 _ _ bh;have eZ:=s1 _ _ hd;left;show#[_,_,_,.of (.ins m9 T.jl T.q1 T.q2 T.q3 T.q4),.cls T.Wh,bb ?_];show BX (w0 := "found") (r:=[V.int (k:Int),V.str (ir ns)]) eZ b1 rfl fun H2 s2=>aq ?_;left;have hd2:=s2 _ _ eZ;have nu:=s2 _ _ m9;simp only[bB,hd2,dv];show cv (u8 (by trivial)) ?_;show#[fd,_,_,_,rfl,nu,rfl,fd,_,_,_,rfl,nu,rfl,?_];show#[fits (),fun p2 cH=>?_];have s3:=s2.trans (ag.upd (o:=.tup [V.int (k:Int),V.str (ir ns)]) cH);have c3:upd H2 p2 (.tup [V.int (k:Int),V.str (ir ns)]) p2=!.tup [V.int (k:Int),V.str (ir ns)]:=ay;have wm:=(ag.upd (o:=.tup [V.int (k:Int),V.str (ir ns)]) cH) _ _ hd2;generalize upd H2 p2 (.tup [V.int (k:Int),V.str (ir ns)])=H3 at s3 c3 wm ⊢;show#[d,_,rfl,bE.of wm,fun z=>(by have:=z.1;simp[HT.bg]at this),fun p4 iV=>?_];have s4:=ag.upd (o:=.tup [V.int (k:Int),V.str (ir ns)]) iV;show fT.same (K:=K) (neg:=false) (xs:=[V.int (k:Int),V.str (ir ns)]) (.inr #[bE.of (s4 _ _ c3),bE.of ay]) rfl (q _ ((s1.trans s3).trans s4))
 | failed k y =>
  let⟨bC,bh⟩:=bh
  replace hd:H d=!.tup [.str "failed",.int (k:Int),.str y]:=hd
  show#[_,_,_,.of (.ins bh T.jS T.q6 T.q2 T.q3 T.q7),.cls T.q8,_,_,_,.of (.ins bh T.jS T.q6 T.q2 T.q3 T.q7),.cls T.SW,_,_,_,.of (.ins bh T.jS T.q6 T.q2 T.q3 T.q7),.cls T.Gu,fits (),fun p hp=>aq ?_];show cI hp fun H1 s1 b1=>?_;have m9:=s1 _ _ bh;have eZ:=s1 _ _ hd;left;show#[_,_,_,.of (.ins m9 T.jS T.q6 T.q2 T.q3 T.q7),.cls T.Vs,bb ?_];show BX (w0 := "failed") (r:=[V.int (k:Int),V.str y]) eZ b1 rfl fun H2 s2=>aq ?_;left;have hd2:=s2 _ _ eZ;have nu:=s2 _ _ m9;simp only[bB,hd2,dv];show bI (kt (by symm)) (aq ?_);left;simp only[bB,hd2,dv];show cv (u8 (by trivial)) ?_;show#[fd,_,_,_,rfl,nu,rfl,fd,_,_,_,rfl,nu,rfl,?_];show#[fits (),fun p2 cH=>?_];have s3:=s2.trans (ag.upd (o:=.tup [V.int (k:Int),V.str y]) cH);have c3:upd H2 p2 (.tup [V.int (k:Int),V.str y]) p2=!.tup [V.int (k:Int),V.str y]:=ay;have wm:=(ag.upd (o:=.tup [V.int (k:Int),V.str y]) cH) _ _ hd2;generalize upd H2 p2 (.tup [V.int (k:Int),V.str y])=H3 at s3 c3 wm ⊢;show#[d,_,rfl,bE.of wm,fun z=>(by have:=z.1;simp[HT.bg]at this),fun p4 iV=>?_];have s4:=ag.upd (o:=.tup [V.int (k:Int),V.str y]) iV;show fT.same (K:=K) (neg:=false) (xs:=[V.int (k:Int),V.str y]) (.inr #[bE.of (s4 _ _ c3),bE.of ay]) rfl (q _ ((s1.trans s3).trans s4))
 | ring ns =>
  let⟨bC,rl,bh,df,_⟩:=bh;let⟨ku,hd,hrl2⟩:=hd;show#[_,_,_,.of (.ins bh T.g8 T.oh T.q2 T.q3 T.n9),.cls T.KZ,_,_,_,.of (.ins bh T.g8 T.oh T.q2 T.q3 T.n9),.cls T.Pr,_,_,_,.of (.ins bh T.g8 T.oh T.q2 T.q3 T.n9),.cls T.Ap,fits (),fun p hp=>aq ?_];show cI hp fun H1 s1 b1=>?_;have m9:=s1 _ _ bh;have eZ:=s1 _ _ hd;left;show#[_,_,_,.of (.ins m9 T.g8 T.oh T.q2 T.q3 T.n9),.cls T.Yn,bb ?_];show BX (w0 := "ring") (r:=[V.ref ku]) eZ b1 rfl fun H2 s2=>aq ?_;left;have hd2:=s2 _ _ eZ;have nu:=s2 _ _ m9;simp only[bB,hd2,dv];show bI (kt (by symm)) (aq ?_);left;simp only[bB,hd2,dv];show bI (kt (by symm)) ?_;left;have vC:=(s1.trans s2) _ _ df;show#[fd,bC,_,-rl,rfl,nu,rfl,⋯,?_];rw[show clsName H2 (-rl)=some "list" from by simp[clsName,vC]];show cv ⋯ #[fd,bC,_,-rl,rfl,nu,rfl,?_];rw[uX];show fT.same (K:=K) (neg:=false) (Q:=Q) (.inl #[aB.of vC,aB.of ((s1.trans s2) _ _ hrl2)]) (vk _) (q _ (s1.trans s2))
def  Xs(N:Cn):Sp:=rm fun x z pt fin H Q _=>X4 fun A L M t=>A9 (pt=Tx.S t) (aH N.CH N.CS N.CT H A L M) (A.a=x) (z∈AS) (Gd M) (M.ts.length<=90) (gq t) (t.length<=300) (∀ H',ag H H'->Q (.bl true) H')
structure uf(a:Addr)(z pt:Str)(fin:Bool)(d av:Addr)(wh:Int)(H1:Hp)(σ:L2.St)(H':Hp):Prop where
 e:σ=[!V.ref a,!V.str z,!V.str pt,!V.bl fin,!V.ref d,!V.ref av,!V.int wh]
 s:ag H1 H'
def IZ:T.kS.k P w base 15 (Xs T.cn):=by
 show T.kS.F.ok xm (fun _ _ _ _ h=>jM h fun _ _ _ _ _=>rfl) fun ax A _ s H vs Q E hr h=>jM h fun x z pt fin h=>?_;let⟨AA,L,M,t,rfl,i,rfl,hz,g,hn,hp,hl,q⟩:=h;let⟨root,e,_,pw,_⟩:=sN (L:=L) g i.len hn hz fin hp;show bS (b:=aW Ed) ((al (qu (aah<$>T.qk (aa (ad 0) (aa (ad 1) (aa (ad 2) (aa (ad 3) ae))))) (qS (K:=K) (n:=2) rfl rfl (iR (dm 4 xm.nd) (iR (dm 5 xm.nd) pR))))
 (al (aR 6 xm.nd (cr mv (cr dA (cA (iI (K:=K) rfl) T.gz No (aa (ad 2) ae)) (mj Di T.xw xR (aa (ad 3) ae))) bi))
 (al (aX (dZ (gl (bf Bh (ad 6) bi) (ka (bf (Aw (K:=K) rfl hr.fU) (bn (Hn T) hr.m T.GZ T.tS.kp T.xP .nil aw (aa (ad 0) (aa (ad 1) (aa (ad 2) (aa (ad 3) ae))))) (ad 5))))) (aj (aN em)) ce)
 (al (aX (bf eD (ad 6) bi) (aj (bj (bn (mz T) hr.m T.mw T.iL.kp T.mJ (.cons (show RelV (.bl true) _ from rfl) .nil) aw (aa (ad 0) (aa ap (aa ap ae)))))) ce)
 (al (aX (da (cK (LU<$>T.lH (aa (aba (mz T) hr.m T.mw T.iL.kp (QL T.iL rfl (fun _ _ _ _ _ _ _ _ _ _ _=>#[_,rfl,rfl])) aw (aa (ad 0) (aa (ad 1) (aa (ad 2) ae))) (ad 3)) (aa (ad 4) ae))))) (aj (aN em)) ce)
 (al (aX (dZ (gl (cK (ad 3)) (ka (da (cK (LU<$>T.lH (aa (bn (mz T) hr.m T.mw T.iL.kp T.mJ (.cons (show RelV (.bl true) _ from rfl) .nil) aw (aa (ad 0) (aa (ad 1) (aa (ad 2) ae)))) (aa (ad 4) ae)))))))) (aj (aN em)) ce)
 (al (bj (bn (mz T) hr.m T.mw T.iL.kp T.z6 .nil aw (aa (ad 0) (aa ap (aa ap (aa em ae))))))
 (aj (aN (f8 (ug (K:=K) rfl hr.fU) (bn (Hn T) hr.m T.GZ T.tS.kp T.xP .nil aw (aa (ad 0) (aa (ad 1) (aa (ad 2) (aa (ad 3) ae))))) (ad 5)))))))))))) ?_
 exists 3;right;show#[AA,L,M,root,t,e,rfl,i,rfl,hz,g,hn,∅,pw,fun p d av H1 s1 pC hd fX=>?_];show#[p,_,rfl,bE.of pC,rfl,_,_,rfl,_,_,rfl,rfl,aq ?_];have i1:=i.same s1;left;show#[by rw[Tx.c9];show fits ∅,⋯,?_];generalize (((Tx.S t).length:Int)+if fin=true then 1 else 0) % 3=wh;show hJ (uf AA.a z (Tx.S t) fin d av wh H1) ?_ ?_
 ·left;show oy (fun _=>?_) (fun _=>bb #[rfl,fun _ _ e=>e]);show#[AA,L,M,root,t,e,rfl,i1,rfl,pw,fun av2 H2 s2 hav2=>?_];show fT.same (K:=K) (neg:=true) (Q:=fun v H3=>match v with | .bl b=>if b=true then Q (.bl false) H3 else uf AA.a z (Tx.S t) fin d av wh H1 _ H3 | _=>False) (.inl #[aB.of hav2,aB.of (s2 _ _ fX)]) (vk _) (bI rfl #[rfl,s2])
 rintro σ' H2 ⟨rfl,s2⟩;have nB:("ann":Str)∈AS:=by symm
 show hJ (uf AA.a z (Tx.S t) fin d av wh H1) ?_ ?_
 ·left;let⟨rt2,e2,_,pw2,_⟩:=sN (L:=L) g i1.len hn nB true (t:=[47,97,47,46,46]) #[⋯,⋯,by symm];show oy (fun _=>#[AA,L,M,rt2,_,e2,by symm,i1.same s2,rfl,pw2,fun fd H3 s3 _=>#[rfl,s2.trans s3]]) (fun _=>#[rfl,s2])
 clear s2 H2;rintro σ' H2 ⟨rfl,s2⟩;show hJ (uf AA.a z (Tx.S t) fin d av wh H1) ?_ ?_
 ·left;show#[AA,L,M,root,t,e,rfl,i1.same s2,rfl,pw,fun fd H3 s3 bh=>#[e.res,_,bh,hd.same (s2.trans s3),fun H4 s4=>bI rfl #[rfl,(s2.trans s3).trans s4]]]
 clear s2 H2;rintro σ' H2 ⟨rfl,s2⟩;show hJ (uf AA.a z (Tx.S t) fin d av wh H1) ?_ ?_
 ·left;cases fin with
  | false=>show bI rfl (bb #[rfl,s2])
  | true =>
   show cv rfl ?_;show#[AA,L,M,root,t,e,rfl,i1.same s2,rfl,pw,fun fd H3 s3 bh=>#[e.res,_,bh,hd.same (s2.trans s3),fun H4 s4=>bI rfl #[rfl,(s2.trans s3).trans s4]]]
 clear s2 H2;rintro σ' H2 ⟨rfl,s2⟩;right;let⟨rt3,e3,_,pw3,_⟩:=sN (L:=L) g i1.len hn nB false (t:=[98,47,46,46,47,97]) #[⋯,⋯,by symm];show#[AA,L,M,rt3,_,e3,by symm,i1.same s2,rfl,pw3,fun fd H3 s3 _=>?_];left;show#[AA,L,M,root,t,e,rfl,i1.same (s2.trans s3),rfl,pw,fun av2 H4 s4 hav2=>?_];show fT.same (K:=K) (neg:=false) (Q:=Q) (.inl #[aB.of hav2,aB.of (((s2.trans s3).trans s4) _ _ fX)]) (vk _) (q _ (s1.trans ((s2.trans s3).trans s4)))
structure jG(d:Wd)(h:Nat)(t:Th):Prop where
 e:d.M.ts[h]?=!t
 k:t.kd=("folder":Str)
 g:ee ("g":Str) (dj t d.z)=true
 b:cU d.M d.root h
def  Pl(d:Wd)(h:Nat)(p:Str)(h1:Nat):Prop:=gE p/\∃ t tc,jG d h t/\eM d.root t h p=.int ((h1:Nat):Int)/\d.M.ts[h1]?=!tc/\tc.kd=("folder":Str)
def  Ld(d:Wd)(h:Nat)(p:Str)(k h1:Nat)(qs:List Str):Prop:=gE p/\∃ t tc tl,jG d h t/\eM d.root t h p=.int ((k:Nat):Int)/\d.M.ts[k]?=!tc/\tc.kd=("lead":Str)/\tc.tx=Tx.S tl/\h1=(if cu tl=true then d.root else h)/\qs=cC tl
inductive Ev(d:Wd):List Nat->Nat->List Str->Nat->List Nat->Prop
 | nil {ch h}:Ev d ch h [] h []
 | pl {ch h p h1 ps h' vs}:Pl d h p h1->Ev d ch h1 ps h' vs->Ev d ch h (p::ps) h' vs
 | ld {ch h p k h1 qs h2 us ps h' vs}:Ld d h p k h1 qs->k ∉ ch->Ev d (ch++[k]) h1 qs h2 us->Ev d ch h2 ps h' vs->Ev d ch h (p::ps) h' (k::(us++vs))
def  Sk(d:Wd)(ch:List Nat)(h:Nat)(ps:List Str)(vs:List Nat)(y h':Nat)(qs:List Str):Prop:=∃ as p bs h1,ps=as++p::bs/\Ev d ch h as h1 vs/\Ld d h1 p y h' qs
inductive Ch(d:Wd):List Nat->Nat->List Str->List Nat->Nat->Nat->Prop
 | last {ch h ps vs k h' qs}:Sk d ch h ps vs k h' qs->k∈ch->Ch d ch h ps [] k vs.length
 | cons {ch h ps vs y h' qs cs k n}:Sk d ch h ps vs y h' qs->y ∉ ch->Ch d (ch++[y]) h' qs cs k n->Ch d ch h ps (y::cs) k (vs.length+1+n)
section
variable {d:Wd}{ch:List Nat}{h h' k:Nat}{ps:List Str}{vs cs:List Nat}
def Ev.off(e:Ev d ch h ps h' vs):∀ v∈vs,v ∉ ch:=by
 induction e with
 | nil=>show fun v hv=>by cases hv
 | pl _ _ ih=>show ih
 | ld _ hk _ _ i1 i2 =>
  intro v hv;rcases lv.mp hv with rfl | hv
  ·show hk
  ·rcases AC.mp hv with hv | hv
   ·show fun z=>i1 v hv (xz _ z)
   ·show i2 v hv
def Ev.lift(e:Ev d ch h ps h' vs):∀ {jv:List Nat},(∀ v∈vs,v ∉ jv)->Ev d jv h ps h' vs:=by
 induction e with
 | nil=>show fun _=>.nil
 | pl a _ ih=>show fun z=>.pl a (ih z)
 | @ld ch h p k h1 qs h2 us ps h' vs a hk e1 e2 i1 i2 =>
  intro jv z;show .ld a (z k ()) (i1 fun v hv hm=>?_) (i2 fun v hv=>z v (by simp[hv]));rcases AC.mp hm with hm | hm
  ·show z v (by simp[hv]) hm
  ·show e1.off v hv (wE _ hm)
def Pl.fn{p:Str}{h1 h2:Nat}(a:Pl d h p h1)(b:Pl d h p h2):h1=h2:=by
 let⟨_,t,_,a1,a2,_⟩:=a;let⟨_,t',_,b1,b2,_⟩:=b;have e:=a1.e;rw[b1.e]at e;cases e;rw[a2]at b2;injection b2 with b2;show NE b2
def Ld.fn{p:Str}{k2 h1 h2:Nat}{qs qs2:List Str}(a:Ld d h p k h1 qs)(b:Ld d h p k2 h2 qs2):k=k2/\h1=h2/\qs=qs2:=by
 let⟨_,t,tc,tl,a1,a2,a3,a4,a5,a6,a7⟩:=a;let⟨_,t',tc',tl',b1,b2,b3,b4,b5,b6,b7⟩:=b;have e:=a1.e;rw[b1.e]at e;cases e;rw[a2]at b2;injection b2 with b2;obtain rfl:=NE b2;rw[a3]at b3;cases b3;rw[a5]at b5;obtain rfl:=Tx.ic b5;show#[rfl,a6.trans b6.symm,a7.trans b7.symm]
def Ld.Bm{p:Str}{h1 h2:Nat}{qs:List Str}(a:Ld d h p k h1 qs)(b:Pl d h p h2):False:=by
 let⟨_,t,tc,tl,a1,a2,a3,a4,_⟩:=a;let⟨_,t',tc',b1,b2,b3,b4⟩:=b;have e:=a1.e;rw[b1.e]at e;cases e;rw[a2]at b2;injection b2 with b2;obtain rfl:=NE b2;rw[a3]at b3;cases b3;rw[a4]at b4;show absurd b4 (by symm)
def Ev.fn{as bs:List Str}{h1:Nat}{us:List Nat}(e:Ev d ch h as h1 us):∀ {jv:List Nat}{vs:List Nat},Ev d jv h (as++bs) h' vs->∃ ws,vs=us++ws/\Ev d jv h1 bs h' ws:=by
 induction e generalizing bs h' with
 | nil=>show fun e2=>#[_,rfl,e2]
 | pl a _ ih =>
  intro jv vs e2;cases e2 with
  | pl b e3=>rw[a.fn b]at ih;show ih e3
  | ld b=>show(b.Bm a).elim
 | @ld ch h p k h1 qs h2 us ps h3 ws a hk e1 _ i1 i2 =>
  intro jv vs e2;cases e2 with
  | pl b=>show(a.Bm b).elim
  | ld b zp e3 e4 =>
   let⟨rfl,rfl,rfl⟩:=a.fn b;let⟨xs,ex,e5⟩:=i1 (bs:=[]) (by rw[FB];show e3);cases e5;rw[FB]at ex;subst ex;let⟨ys,rfl,e6⟩:=i2 e4;show#[ys,(),e6]
def  St(d:Wd)(x h:Nat)(ps:List Str):Prop:=∃ t f nm tl,d.M.ts[x]?=!t/\t.bZ=[(f,nm)]/\t.tx=Tx.S tl/\h=(if cu tl=true then d.root else f)/\ps=cC tl/\t.kd=("lead":Str)
def St.fn{x h1 h2:Nat}{ps qs:List Str}(a:St d x h1 ps)(b:St d x h2 qs):h1=h2/\ps=qs:=by
 let⟨t,f,nm,tl,a1,a2,a3,a4,a5,_⟩:=a;let⟨t',f',nm',tl',b1,b2,b3,b4,b5,_⟩:=b;rw[a1]at b1;cases b1;rw[a2]at b2;cases b2;rw[a3]at b3;obtain rfl:=Tx.ic b3;show#[a4.trans b4.symm,a5.trans b5.symm]
def Ld.nm(g:Gd d.M){p:Str}{h1:Nat}{qs:List Str}(a:Ld d h p k h1 qs):p≠(".":Str)/\∃ tc,d.M.ts[k]?=!tc/\tc.bZ=[(h,p)]:=by
 let⟨_,t,tc,tl,a1,a2,a3,a4,_⟩:=a;have kf:∀ {u:Th},d.M.ts[k]?=!u->u.kd≠("folder":Str):=fun {u} hu=>by rw[a3]at hu;cases hu;rw[a4];symm
 unfold eM at a2;split at a2
 ·injection a2 with a2;have e:=NE a2;unfold qf at e;split at e
  ·rw[<- e]at kf;show absurd a1.k (kf a1.e)
  ·rename_i h0;let⟨f,nm,tf,_,hp,_,cf,fq,_⟩:=g.par a1.e a1.b h0;rw[hp]at e;obtain rfl:f=k:=e;show absurd fq (kf cf)
 ·split at a2
  ·injection a2 with a2;rw[<- NE a2]at kf;show absurd a1.k (kf a1.e)
  ·rename_i h2;cases hv:aG (sD t.aO) (.inr p) with
   | none=>rw[hv]at a2;cases a2
   | some v =>
    rw[hv]at a2;obtain rfl:v=.int (k:Int):=a2;let⟨c,tc',e1,e2,e3⟩:=(g.th _ t a1.e).ch _ _ hv;injection e1 with e1;obtain rfl:=NE e1;show#[h2,tc',e2,e3]
def Ld.st(g:Gd d.M){p:Str}{h1:Nat}{qs:List Str}(a:Ld d h p k h1 qs):St d k h1 qs:=by
 let⟨_,tc,e1,e2⟩:=a.nm g;let⟨_,t,tc',tl,a1,a2,a3,a4,a5,a6,a7⟩:=a;rw[a3]at e1;cases e1;show#[_,_,_,tl,a3,e2,a5,a6,a7,a4]
def Ev.QK(g:Gd d.M)(e:Ev d ch h ps h' vs):∀ x∈vs,∃ hx px jv h2 ws,St d x hx px/\Ev d jv hx px h2 ws/\∀ w∈ws,w∈vs:=by
 induction e with
 | nil=>show fun v hv=>by cases hv
 | pl _ _ ih=>show ih
 | @ld ch h p k h1 qs h2 us ps h3 ws a hk e1 _ i1 i2 =>
  intro x hx;rcases lv.mp hx with rfl | hx
  ·show#[_,_,_,_,_,a.st g,e1,fun w hw=>by simp[hw]]
  ·rcases AC.mp hx with hx | hx
   ·let⟨a1,a2,a3,a4,a5,a6,a7,a8⟩:=i1 x hx;show#[a1,a2,a3,a4,a5,a6,a7,fun w hw=>by simp[a8 w hw]]
   ·let⟨a1,a2,a3,a4,a5,a6,a7,a8⟩:=i2 x hx;show#[a1,a2,a3,a4,a5,a6,a7,fun w hw=>by simp[a8 w hw]]
def  jI(d:Wd)(k:Nat)(R:Nat->Prop)(x y:Nat)(vs:List Nat):Prop:=∃ hx px C h' qs,St d x hx px/\k∈C/\Sk d C hx px vs y h' qs/\∀ v∈vs,¬ R v
def jI.on(g:Gd d.M){R:Nat->Prop}{q x y:Nat}{us:List Nat}(a:jI d q R x y us)(e:Ev d ch h ps h' vs)(hx:x∈vs):y∈vs:=by
 let⟨hx',px,C,h2,qs,s1,_,⟨as,p,bs,h1,e1,e2,e3⟩,_⟩:=a;let⟨bT,px2,jv,h3,ws,s2,e4,hw⟩:=e.QK g x hx;let⟨rfl,rfl⟩:=s1.fn s2;rw[e1]at e4;let⟨zs,rfl,e5⟩:=e2.fn e4;show hw y (wE _ ?_);cases e5 with
 | pl b=>show(e3.Bm b).elim
 | ld b =>
  let⟨rfl,_⟩:=e3.fn b;simp
inductive cx(d:Wd)(k:Nat)(R:Nat->Prop):Nat->List Nat->Nat->Nat->Prop
 | one {x y vs}:jI d k R x y vs->cx d k R x [] y vs.length
 | cons {x z y vs xs n}:jI d k R x z vs->cx d k R z xs y n->cx d k R x (z::xs) y (vs.length+1+n)
def Ch.Pg(g:Gd d.M){q n:Nat}(c:Ch d ch h ps cs k n):∀ {x:Nat},St d x h ps->q∈ch->cx d q (fun _=>False) x cs k n:=by
 induction c with
 | last s _=>show fun hs hq=>.one #[_,_,_,_,_,hs,hq,s,fun _ _ z=>z]
 | cons s _ _ ih =>
  let⟨_,_,_,_,_,_,l⟩:=id s;show fun hs hq=>.cons #[_,_,_,_,_,hs,hq,s,fun _ _ z=>z] (ih (l.st g) (xz _ hq))
def Ch.sub(g:Gd d.M){B:List Nat}:∀ {A:List Nat}{ch:List Nat}{h:Nat}{ps:List Str}{n q:Nat},Ch d ch h ps (A++q::B) k n->∃ h' ps' ch' m,m+1<=n/\St d q h' ps'/\q∈ch'/\Ch d ch' h' ps' B k m
 | [],ch,h,ps,n,q,c=>by
  cases c with
  | cons s _ c =>
   let⟨_,_,_,_,_,_,l⟩:=id s;show#[_,_,_,_,∅,l.st g,(),c]
 | a::A,ch,h,ps,n,q,c=>by
  cases c with
  | cons s _ c =>
   let⟨h',ps',ch',m,e,r⟩:=Ch.sub g c;show#[h',ps',ch',m,∅,r]
def Ch.nd{n:Nat}(c:Ch d ch h ps cs k n)(hn:ch.Nodup):(ch++cs).Nodup:=by
 induction c with
 | last=>rw[FB];show hn
 | cons _ hy _ ih =>
  rw[_P];show ih (Db.mpr #[hn,(),fun a ha b hb=>?_]);rw[wn.mp hb];show fun z=>hy (z ▸ ha)
section
variable {q:Nat}{R:Nat->Prop}{x y n:Nat}{xs:List Nat}
def cx.on(g:Gd d.M)(a:cx d q R x xs y n)(e:Ev d ch h ps h' vs)(hx:x∈vs):y∈vs:=by
 induction a with
 | one a=>show a.on g e hx
 | cons a _ ih=>show ih (a.on g e hx)
def cx.tail(a:cx d q R x xs y n):∀ v∈x::xs,∃ ys m,cx d q R v ys y m:=by
 induction a with
 | one a=>intro v hv;rw[wn.mp hv];show#[_,_,.one a]
 | cons a b ih =>
  intro v hv;rcases lv.mp hv with rfl | hv
  ·show#[_,_,.cons a b]
  ·show ih v hv
def cx.imp{R2:Nat->Prop}(a:cx d q R x xs y n)(f:∀ x y vs,jI d q R x y vs->jI d q R2 x y vs):cx d q R2 x xs y n:=by
 induction a with
 | one a=>show .one (f _ _ _ a)
 | cons a _ ih=>show .cons (f _ _ _ a) ih
def cx.own(g:Gd d.M)(a:cx d q (fun _=>False) q xs q n):cx d q (fun v=>v∈q::xs) q xs q n:=by
 show a.imp fun x y vs b=>?_;let⟨hx,px,C,h',qs,s,hq,sk,_⟩:=b;show#[hx,px,C,h',qs,s,hq,sk,fun v hv hm=>?_];let⟨as,p,bs,h1,e1,e2,e3⟩:=sk;let⟨ys,m,c⟩:=a.tail v hm;show e2.off q (c.on g e2 hv) hq
def cx.cut{r:Nat}{Y:List Nat}:∀ {X:List Nat}{x n:Nat},cx d q R x (X++r::Y) y n->∃ m1 m2,cx d q R x X r m1/\cx d q R r Y y m2/\n=m1+1+m2
 | [],x,n,a=>by
  cases a with
  | cons a b=>show#[_,_,.one a,b,rfl]
 | z::X,x,n,a=>by
  cases a with
  | cons a b =>
   let⟨m1,m2,h1,h2,rfl⟩:=cx.cut b;show#[_,_,.cons a h1,h2,∅]
def cx.app{r m:Nat}{Y:List Nat}(a:cx d q R x xs r n)(b:cx d q R r Y y m):cx d q R x (xs++r::Y) y (n+1+m):=by
 induction a with
 | one a=>show .cons a b
 | @cons x z y vs xs n a _ ih =>
  have:=cx.cons a (ih b);rw[show vs.length+1+n+1+m=vs.length+1+(n+1+m) by omega];show this
def cx.turn{r:Nat}(a:cx d q R q xs q n)(hr:r∈q::xs):∃ ys,cx d q R r ys r n/\∃ X Y,q::xs=X++r::Y/\r::ys=r::Y++X:=by
 rcases lv.mp hr with rfl | hr
 ·show#[xs,a,[],xs,rfl,(FB _).symm]
 ·let⟨X,Y,rfl⟩:=_A hr;let⟨m1,m2,h1,h2,rfl⟩:=a.cut;show#[Y++q::X,?_,q::X,Y,rfl,rfl];rw[show m1+1+m2=m2+1+m1 by omega];show h2.app h1
def cx.ZP(g:Gd d.M)(a:cx d q R x xs y n):∀ {ch:List Nat},(∀ v∈ch++xs,R v)->(ch++xs).Nodup->y∈ch->∃ h ps,St d x h ps/\Ch d ch h ps xs y n:=by
 induction a with
 | one a =>
  intro ch hR _ hy;let⟨hx,px,C,h',qs,s,_,⟨as,p,bs,h1,e1,e2,e3⟩,off⟩:=a;show#[hx,px,s,.last #[as,p,bs,h1,e1,e2.lift fun v hv hm=>off v hv (hR v (xz _ hm)),e3] hy]
 | @cons x z y vs xs n a _ ih =>
  intro ch hR nd hy;let⟨hx,px,C,h',qs,s,_,⟨as,p,bs,h1,e1,e2,e3⟩,off⟩:=a;rw[_P]at hR nd;let⟨h2,ps2,s2,c⟩:=ih hR nd (xz _ hy);let⟨rfl,rfl⟩:=s2.fn (e3.st g);show#[hx,px,s,.cons #[as,p,bs,h1,e1,e2.lift fun v hv hm=>off v hv (hR v (by simp[hm])),e3] (fun hm=>?_) c];rw[IR,Db]at nd;show nd.2.2 z hm z () rfl
end
end
section
variable {d:Wd}{ch:List Nat}{h h' k n:Nat}{ps:List Str}{vs cs:List Nat}
def Ch.ext{p:Str}{h1:Nat}{us:List Nat}(f:∀ as h2 vs,Ev d ch h1 as h2 vs->Ev d ch h (p::as) h2 (us++vs))(c:Ch d ch h1 ps cs k n):Ch d ch h (p::ps) cs k (us.length+n):=by
 have sk:∀ {vs y h' qs},Sk d ch h1 ps vs y h' qs->Sk d ch h (p::ps) (us++vs) y h' qs:=fun #[as,p',bs,h2,e1,e2,e3]=>#[p::as,p',bs,h2,by rw[e1];rfl,f _ _ _ e2,e3];cases c with
 | last s hk =>
  have:=Ch.last (sk s) hk;rw[mo]at this;show this
 | @cons _ _ _ vs y h' qs cs k m s hy c =>
  have:=Ch.cons (sk s) hy c;rw[mo]at this;rw[show us.length+(vs.length+1+m)=us.length+vs.length+1+m by omega];show this
def vg(p:Str)(ps:List Str):bH (p::ps)=bH ps++[.inr p]:=by
 unfold bH;rw[Fr,List.reverse_cons]
def Ji(as bs:List Str):bH (as++bs)=bH bs++bH as:=by
 unfold bH;rw[Fa,Wp]
def dw.at_{S:Ws}{l:List (Sum Nat Str)}{p:Str}(w:dw d S)(e:S.left=l++[.inr p]):dw d { S with left:=l }/\gE p:=by
 have hc:=w.cn;rw[e,gK]at hc;show#[#[w.v,fun q hq=>w.ps q (by rw[e];show xz _ hq),hc,w.rl],w.ps p (by rw[e];simp)]
def dw.back{S:Ws}{l:List (Sum Nat Str)}{r:List Nat}{j k:Nat}(w:dw d S)(e:S.left=l++[.inl k])(er:S.aI=r++[j]):dw d { S with left:=l,aI:=r }:=by
 have hc:=w.cn;rw[e,gK,er,mo]at hc;show#[w.v,fun q hq=>w.ps q (by rw[e];show xz _ hq),by change di l=r.length;have:di [Sum.inl (β:=Str) k]=1:=rfl;simp at hc;omega,w.rl]
def CQ{tc:Th}(h:tc.kd=("lead":Str))(h2:tc.kd=("folder":Str)):False:=by rw[h]at h2;show absurd h2 (by symm)
def Ge(g:Gd d.M){S S1:Ws}{tc:Th}(hR:qG d S k S1)(hk:d.M.ts[k]?=!tc){tl:List Nat}(e:tc.tx=Tx.S tl):S1.left=(S.left++[.inl k])++bH (cC tl)/\S1.aI=S.aI++[k]/\S1.read=S.read+1/\S1.here=(if cu tl=true then d.root else S.here):=by
 cases hR with
 | mk a1 a2 a3 a4 a5 a6 a7 a8 a9 vU =>
  rw[hk]at a2;cases a2;rw[e]at a3;obtain rfl:=Tx.ic a3;let⟨rfl,rfl⟩:=g.jh vU;show#[rfl,rfl,rfl,rfl]
section
variable (g:Gd d.M)(hL:d.L.length=d.M.ts.length)(hr:∃ t,d.M.ts[d.root]?=!t/\t.kd=("folder":Str))(hl:d.last=true)
include g hL hr
def SY{S:Ws}{p:Str}{h1:Nat}(w:dw d S)(a:Pl d S.here p h1):∃ S1,du d S p S1 none/\dw d S1/\S1.here=h1/\S1.left=S.left/\S1.aI=S.aI/\S1.read=S.read:=by
 let⟨hp,t,tc,a1,a2,a3,a4⟩:=a;let⟨S1,o,hs,_⟩:=CU g hL hr w hp;let⟨_,_,ht⟩:=toStep g hs a1.e a1.k a1.g hp a1.b;have aA:=stepOk (S1:=S1) (p:=p) g hr w a1.e a1.k a1.b;cases ht with
 | none e=>rw[a2]at e;cases e
 | folder e b3 b4 b5 b6 b7 b8 b9 =>
  have e':=e;rw[a2]at e';injection e' with e';obtain rfl:=NE e';show#[S1,hs,aA (.folder e b3 b4 b5 b6 b7 b8 b9),b6,b7,b8,b9]
 | fin e b3 b4=>rw[a2]at e;injection e with e;obtain rfl:=NE e;rw[a3]at b3;cases b3;show absurd a4 b4
 | lead e b3 b4=>rw[a2]at e;injection e with e;obtain rfl:=NE e;rw[a3]at b3;cases b3;show(CQ b4 a4).elim
include hl
def BD{S:Ws}{p:Str}{h1:Nat}{qs:List Str}(w:dw d S)(a:Ld d S.here p k h1 qs)(kj:k ∉ S.aI->S.read < 40) :
  (k∈S.aI/\∃ S1,du d S p S1 (!.ring (eB (S.aI.drop (S.aI.idxOf k)))))\/k ∉ S.aI/\∃ S1,du d S p S1 none/\dw d S1/\S1.here=h1/\S1.left=(S.left++[.inl k])++bH qs/\S1.aI=S.aI++[k]/\S1.read=S.read+1:=by
 let⟨hp,t,tc,tl,a1,a2,a3,a4,a5,a6,a7⟩:=a;let⟨S1,o,hs,_⟩:=CU g hL hr w hp;let⟨_,_,ht⟩:=toStep g hs a1.e a1.k a1.g hp a1.b;have aA:=stepOk (S1:=S1) (p:=p) g hr w a1.e a1.k a1.b;cases ht with
 | none e=>rw[a2]at e;cases e
 | folder e b3 b4=>rw[a2]at e;injection e with e;obtain rfl:=NE e;rw[a3]at b3;cases b3;show(CQ a4 b4).elim
 | fin e b3 b4 b5 =>
  rw[a2]at e;injection e with e;obtain rfl:=NE e;rw[a3]at b3;cases b3;rcases b5 with b5 | b5
  ·rw[a4]at b5;show absurd b5 (by symm)
  ·rw[hl]at b5;cases b5.2
 | lead e b3 b4 b5 hm =>
  have e':=e;rw[a2]at e';injection e' with e';obtain rfl:=NE e';have b3':=b3;rw[a3]at b3';cases b3';cases hm with
  | ring hk=>show .inl #[hk,_,hs]
  | many hk h4=>have:=kj hk;have:S.read=40:=h4;omega
  | read hk h4 hR =>
   show .inr #[hk,S1,hs,aA (.lead e b3 b4 b5 (.read hk h4 hR)),?_];let⟨c1,c2,c3,c4⟩:=Ge g hR a3 a5;show#[c4.trans a6.symm,by rw[a7];show c1,c2,c3]
def C9(e:Ev d ch h ps h' vs):∀ {S:Ws}{l:List (Sum Nat Str)},dw d S->S.left=l++bH ps->S.aI=ch->S.here=h->S.read+vs.length<=40 ->
  ∃ S1,dw d S1/\S1.left=l/\S1.aI=ch/\S1.here=h'/\S1.read=S.read+vs.length/\∀ n S' o,cQ d n S1 S' o->∃ n',cQ d n' S S' o:=by
 induction e with
 | nil=>show fun {S l} w e1 e2 e3 _=>#[S,w,e1.trans (FB _),e2,e3,rfl,fun n S' o r=>#[n,r]]
 | @pl ch h p h1 ps h' vs a _ ih =>
  intro S l w e1 e2 e3 e4;rw[vg,<- IR]at e1;let⟨w0,_⟩:=w.at_ e1;subst e3;let⟨S2,hs,w2,f1,f2,f3,f4⟩:=SY g hL hr (S:={ S with left:=l++bH ps }) w0 a;let⟨S1,w1,g1,g2,g3,g4,g5⟩:=ih w2 f2 (f3.trans e2) f1 (by rw[f4];show e4);show#[S1,w1,g1,g2,g3,by rw[g4,f4],fun n S' o r=>?_];let⟨n',r'⟩:=g5 n S' o r;show#[_,.step e1 hs r']
 | @ld ch h p k h1 qs h2 us ps h' vs a hk _ _ i1 i2 =>
  intro S l w e1 e2 e3 e4;rw[vg,<- IR]at e1;let⟨w0,_⟩:=w.at_ e1;subst e3;subst e2;simp only[xL,mo]at e4;rcases BD g hL hr hl (S:={ S with left:=l++bH ps }) w0 a (fun _=>by change S.read < 40;omega) with ⟨h1,_⟩ | ⟨_,S2,hs,w2,f1,f2,f3,f4⟩
  ·show absurd h1 hk
  let⟨S3,w3,g1,g2,g3,g4,g5⟩:=i1 w2 f2 f3 f1 (by rw[f4];change S.read+1+us.length<=40;omega);rw[f4]at g4;let⟨S1,w1,j1,j2,j3,j4,j5⟩:=i2 (S:={ S3 with left:=l++bH ps,aI:=S.aI }) (w3.back g1 g2) rfl rfl g3 (by change S3.read+vs.length<=40;rw[g4];change S.read+1+us.length+vs.length<=40;omega);show#[S1,w1,j1,j2,j3,?_,fun n S' o r=>?_]
  ·rw[j4];change S3.read+vs.length=_;rw[g4];simp only[xL,mo];change S.read+1+us.length+vs.length=_;omega
  ·let⟨n1,r1⟩:=j5 n S' o r;let⟨n2,r2⟩:=g5 _ S' o (.pop g1 g2 r1);show#[_,.step e1 hs r2]
def aaS(c:Ch d ch h ps cs k n):∀ {S:Ws}{l:List (Sum Nat Str)},dw d S->S.left=l++bH ps->S.aI=ch->S.here=h->S.read+n<=40->∃ m S',cQ d m S S' (!.ring (eB ((ch++cs).drop ((ch++cs).idxOf k)))):=by
 induction c with
 | @last ch h ps vs k h' qs s hk =>
  intro S l w e1 e2 e3 e4;let⟨as,p,bs,h1,rfl,ev,ld⟩:=s;rw[Ji,<- IR]at e1;let⟨S1,w1,g1,g2,g3,g4,g5⟩:=C9 g hL hr hl ev w e1 e2 e3 e4;rw[vg,<- IR]at g1;let⟨w0,_⟩:=w1.at_ g1;subst g3;subst g2;rcases BD g hL hr hl (S:={ S1 with left:=l++bH bs }) w0 ld (fun h=>absurd hk h) with ⟨_,S2,hs⟩ | ⟨h1,_⟩
  ·let⟨n2,r2⟩:=g5 _ _ _ (.fail g1 hs);rw[FB];show#[_,_,r2]
  ·show absurd hk h1
 | @cons ch h ps vs y h' qs cs k n s hy _ ih =>
  intro S l w e1 e2 e3 e4;let⟨as,p,bs,h1,rfl,ev,ld⟩:=s;rw[Ji,<- IR]at e1;let⟨S1,w1,g1,g2,g3,g4,g5⟩:=C9 g hL hr hl ev w e1 e2 e3 ∅;rw[vg,<- IR]at g1;let⟨w0,_⟩:=w1.at_ g1;subst g3;subst g2;rcases BD g hL hr hl (S:={ S1 with left:=l++bH bs }) w0 ld (fun _=>by change S1.read < 40;omega) with ⟨h1,_⟩ | ⟨_,S2,hs,w2,f1,f2,f3,f4⟩
  ·show absurd h1 hy
  let⟨m,S',r⟩:=ih w2 f2 f3 f1 (by rw[f4];change S1.read+1+n<=40;omega);let⟨n2,r2⟩:=g5 _ _ _ (.step g1 hs r);rw[<- _P]at r2;show#[_,_,r2]
def  zJ(d:Wd)(ns:List Nat)(n:Nat):Prop:=∀ ⦃S S':Ws⦄ ⦃ps:List Str⦄ ⦃l:List (Sum Nat Str)⦄,cQ d n S S' (!.ring ns)->dw d S->S.left=l++bH ps ->
  (∃ vs h2 S1 n1,n1<=n/\Ev d S.aI S.here ps h2 vs/\cQ d n1 S1 S' (!.ring ns)/\dw d S1/\S1.left=l/\S1.aI=S.aI/\S1.here=h2/\S1.read=S.read+vs.length) \/
  ∃ cs k m,Ch d S.aI S.here ps cs k m/\S.read+m<=40/\ns=eB ((S.aI++cs).drop ((S.aI++cs).idxOf k))
def Pt(hf:∀ (k:Nat) (t:Th),d.M.ts[k]?=!t->t.kd≠("file":Str)){ns:List Nat}{n:Nat}(IH:∀ m,m < n->zJ d ns m):zJ d ns n:=by
 intro S S' ps l r w e;cases ps with
 | nil=>show .inl #[[],S.here,S,n,lm _,.nil,r,w,e.trans (FB _),rfl,rfl,rfl]
 | cons p ps =>
  rw[vg,<- IR]at e;let⟨w0,hp⟩:=w.at_ e;let⟨n0,S1,o,hs,iA⟩:∃ n0 S1 o,du d { S with left:=l++bH ps } p S1 o/\(o=none/\n0 < n/\cQ d n0 S1 S' (!.ring ns)\/o=!.ring ns):=by
   cases r with
   | pop e2=>rw[e]at e2;have:=(UV e2 rfl).2;cases this
   | step e2 hs r2 =>
    rw[e]at e2;let⟨rfl,e3⟩:=UV e2 rfl;cases e3;show#[_,_,_,hs,.inl #[rfl,GT _,r2]]
   | fail e2 hs =>
    rw[e]at e2;let⟨rfl,e3⟩:=UV e2 rfl;cases e3;show#[0,_,_,hs,.inr rfl]
  have no:∀ y:Str,o≠!.fail y:=fun y z=>by
   subst z;rcases iA with ⟨z,_⟩ | z <;> cases z
  let⟨t,ht,hv⟩:=w.v;have cz:t.kd=("folder":Str):=Decidable.byContradiction fun z=>no _ (KH hs ht z).1;have hb:cU d.M d.root S.here:=by
   rcases hv with hv | hv
   ·show hv.2
   ·show absurd cz hv.1
  have hm:ee ("g":Str) (dj t d.z)=true:=by
   cases z:ee ("g":Str) (dj t d.z) with
   | true=>rfl
   | false=>show absurd (GQ hs ht cz z).1 (no _)
  have hA:jG d S.here t:=#[ht,cz,hm,hb];let⟨_,_,jC⟩:=toStep g hs ht cz hm hp hb;have aA:=stepOk (S1:=S1) (p:=p) g hr w0 ht cz hb;cases jC with
  | none=>show absurd rfl (no _)
  | folder b1 b2 b3 b4 b5 b6 b7 b8 =>
   rcases iA with ⟨_,hn,r2⟩ | z
   ·have a:Pl d S.here p _:=#[hp,t,_,hA,b1,b2,b3];rcases IH n0 hn r2 (aA (.folder b1 b2 b3 b4 b5 b6 b7 b8)) b6 with ⟨vs,h2,S2,n1,i1,i2,i3,i4,i5,i6,i7,i8⟩ | ⟨cs,k,m,i1,i2,i3⟩
    ·rw[b7,b5]at i2;show .inl #[vs,h2,S2,n1,∅,.pl a i2,i3,i4,i5,i6.trans b7,i7,by rw[i8,b8]]
    ·rw[b7,b5]at i1;rw[b8]at i2;rw[b7]at i3;have:=Ch.ext (us:=[]) (fun as h2 vs e=>Ev.pl a e) i1;rw[_d,Nat.zero_add]at this;show .inr #[cs,k,m,this,i2,i3]
   ·cases z
  | fin b1 b2 b3 b4 =>
   rcases b4 with b4 | b4
   ·show absurd b4 (hf _ _ b2)
   ·rw[hl]at b4;cases b4.2
  | @lead k tc _ b1 b2 b3 b4 hM =>
   let⟨tl,t1,t2,t3⟩:=(g.th _ tc b2).ld b3;have a:Ld d S.here p k _ _:=#[hp,t,tc,tl,hA,b1,b2,b3,t1,rfl,rfl];cases hM with
   | ring hk =>
    rcases iA with ⟨z,_⟩ | z
    ·cases z
    ·cases z;show .inr #[[],k,0,.last (vs:=[]) #[[],p,ps,S.here,rfl,.nil,a] hk,w.rl,by rw[FB];rfl]
   | many=>show absurd rfl (no _)
   | read hk h4 hR =>
    rcases iA with ⟨_,hn,r2⟩ | z
    ·let⟨c1,c2,c3,c4⟩:=Ge g hR b2 t1;have w1:=aA (.lead b1 b2 b3 b4 (.read hk h4 hR));change S1.aI=S.aI++[k]at c2;change S1.read=S.read+1 at c3;change S1.here=(if cu tl=true then d.root else S.here) at c4;rcases IH n0 hn r2 w1 c1 with ⟨us,h2,S2,n1,i1,i2,i3,i4,i5,i6,i7,i8⟩ | ⟨cs,j,m,i1,i2,i3⟩
     ·rw[c2,c4]at i2;rw[c2]at i6;cases i3 with
      | pop e2 er r3 =>
       rw[i5]at e2;let⟨rfl,e3⟩:=UV e2 rfl;rw[i6]at er;let⟨rfl,e4⟩:=UV er rfl;have w3:=i4.back i5 i6;rcases IH _ ∅ r3 w3 (ps:=ps) (l:=l) rfl with ⟨vs,h3,S3,n3,j1,j2,j3,j4,j5,j6,j7,j8⟩ | ⟨cs,j,m,j1,j2,j3⟩
       ·show .inl #[k::(us++vs),h3,S3,n3,∅,.ld a hk i2 (by rw[<- i7];show j2),j3,j4,j5,j6,j7,?_];rw[j8];change S2.read+vs.length=_;rw[i8,c3];simp only[xL,mo];omega
       ·change S2.read+m<=40 at j2;change Ch d S.aI S2.here ps cs j m at j1;rw[i7]at j1;have:=Ch.ext (us:=k::us) (fun as h2 vs e=>Ev.ld a hk i2 e) j1;show .inr #[cs,j,_,this,?_,j3];rw[xL];omega
      | step e2=>rw[i5]at e2;have:=(UV e2 rfl).2;cases this
      | fail e2=>rw[i5]at e2;have:=(UV e2 rfl).2;cases this
     ·rw[c2,c4]at i1;rw[c2,<- _P]at i3;rw[c3]at i2;have:Ch d S.aI S.here (p::ps) (k::cs) j _:=.cons (vs:=[]) #[[],p,ps,S.here,rfl,.nil,a] hk i1;show .inr #[k::cs,j,_,this,by rw[_d];omega,i3]
    ·cases z
def R3(hf:∀ (k:Nat) (t:Th),d.M.ts[k]?=!t->t.kd≠("file":Str)){ns:List Nat}(n:Nat):zJ d ns n:=Nat.strongRecOn n fun n IH=>Pt g hL hr hl hf IH
end
end
def GG{l:List Nat}{m:Nat}(hm:m∈l)(h:∀ k∈l,m<=k):gg l=m :=
 Nat.le_antisymm (nZ hm) (h _ (mq (List.ne_nil_of_mem hm)))
def qz{A B:List Nat}{m:Nat}(hA:m ∉ A)(h:gg (A++m::B)=m):eB (A++m::B)=m::B++A:=by
 have e:(A++m::B).idxOf m=A.length:=by rw[List.idxOf_append,wT hA,Ja7,Nat.zero_add]
 unfold eB;rw[h,e,List.drop_left,List.take_left]
def US{X Y:List Nat}(nd:(X++Y).Nodup)(cX:X++Y≠[]):eB (X++Y)=eB (Y++X):=by
 have hm:=mq cX;have hle:=fun k hk=>@nZ (X++Y) k hk;generalize gg (X++Y)=m at hm hle;have f1:∀ l:List Nat,(∀ k,k∈l ↔ k∈X++Y)->gg l=m:=fun l hl=>GG ((hl m).mpr hm) fun k hk=>hle k ((hl k).mp hk);rcases AC.mp hm with hx | hy
 ·let⟨X1,X2,rfl⟩:=_A hx;have n1:m ∉ X1/\m ∉ Y:=by
   simp only[Db,Gc,AC,lv]at nd;show#[fun z=>nd.1.2.2 m z m (.inl rfl) rfl,fun z=>nd.2.2 m (.inr (.inl rfl)) m z rfl]
  rw[show X1++m::X2++Y=X1++m::(X2++Y) by simp,qz n1.1 (f1 _ fun k=>by simp),show Y++(X1++m::X2)=(Y++X1)++m::X2 by simp,qz (by simp[n1.1,n1.2]) (f1 _ fun k=>by simp[or_comm,or_assoc,or_left_comm])];simp
 ·let⟨Y1,Y2,rfl⟩:=_A hy;have n1:m ∉ Y1/\m ∉ X:=by
   simp only[Db,Gc,AC,lv]at nd;show#[fun z=>nd.2.1.2.2 m z m (.inl rfl) rfl,fun z=>nd.2.2 m z m (.inr (.inl rfl)) rfl]
  rw[show X++(Y1++m::Y2)=(X++Y1)++m::Y2 by simp,qz (by simp[n1.1,n1.2]) (f1 _ fun k=>by simp),show Y1++m::Y2++X=Y1++m::(Y2++X) by simp,qz n1.1 (f1 _ fun k=>by simp[or_comm,or_assoc,or_left_comm])];simp
structure jk(d:Wd)(ns:List Nat):Prop where
 nd:ns.Nodup
 ex:∃ q r ys m,ns=r::ys/\gg ns=r/\cx d q (fun v=>v∈ns) r ys r m/\m+1<=40
section
variable {d:Wd}{ns:List Nat}
def Ch.mem{ch:List Nat}{h k n:Nat}{ps:List Str}{cs:List Nat}(c:Ch d ch h ps cs k n):k∈ch++cs:=by
 induction c with
 | last _ hk=>show xz _ hk
 | cons _ _ _ ih=>rw[_P];show ih
def cx.iff{q:Nat}{R R2:Nat->Prop}(e:∀ v,R2 v->R v){x y n:Nat}{xs:List Nat}(a:cx d q R x xs y n):cx d q R2 x xs y n :=
 a.imp fun _ _ _ #[a1,a2,a3,a4,a5,a6,a7,a8,a9]=>#[a1,a2,a3,a4,a5,a6,a7,a8,fun v hv z=>a9 v hv (e v z)]
def R7(g:Gd d.M)(hL:d.L.length=d.M.ts.length)(hr:∃ t,d.M.ts[d.root]?=!t/\t.kd=("folder":Str))(hl:d.last=true)(hf:∀ (k:Nat) (t:Th),d.M.ts[k]?=!t->t.kd≠("file":Str)){n h0:Nat}{S':Ws}{ps:List Str}(r:cQ d n #[h0,none,0,[],bH ps,[],0,0] S' (!.ring ns))(w:dw d #[h0,none,0,[],bH ps,[],0,0]):jk d ns:=by
 rcases R3 g hL hr hl hf n r w (ps:=ps) (l:=[]) rfl with ⟨vs,h2,S1,n1,i1,i2,i3,i4,i5,i6,i7,i8⟩ | ⟨cs,k,m,c,i2,i3⟩
 ·cases i3 with
  | pop e=>rw[i5]at e;show absurd e.symm ()
  | step e=>rw[i5]at e;show absurd e.symm ()
  | fail e=>rw[i5]at e;show absurd e.symm ()
 ·change Ch d [] h0 ps cs k m at c;have nd:=c.nd .nil;have hk:=c.mem;rw[List.nil_append]at nd hk;let⟨A,B,rfl⟩:=_A hk;let⟨h',ps',ch',m',e1,s1,q1,c1⟩:=c.sub g;have hA:k ∉ A:=by
   simp only[Db,lv]at nd;show fun z=>nd.2.2 k z k (.inl rfl) rfl
  have pH:(k::B).Nodup:=(Db.mp nd).2.1;have e:(A++k::B).idxOf k=A.length:=by rw[List.idxOf_append,wT hA,Ja7,Nat.zero_add]
  have eT:ns=eB (k::B):=by
   rw[i3];change eB ((A++k::B).drop ((A++k::B).idxOf k))=_;rw[e,List.drop_left]
  have hp:=(c1.Pg g s1 q1).own g;have MJ:=mq (ns:=k::B) ();let⟨ys,hq,X,Y,e2,e3⟩:=hp.turn MJ;generalize hmn:gg (k::B)=mn at MJ hq e2 e3;have hX:mn ∉ X:=by
   intro z;rw[e2]at pH;simp only[Db,lv]at pH;show pH.2.2 _ z _ (.inl rfl) rfl
  have e4:eB (k::B)=mn::ys:=by
   rw[e3];rw[e2]at hmn ⊢;show qz hX hmn
  have EU:∀ v,v∈ns ↔ v∈k::B:=fun v=>by
   rw[eT,e4,e3,e2];simp[or_comm,or_assoc,or_left_comm]
  have i2':m<=40:=by simpa using i2
  show#[?_,k,mn,ys,m',eT.trans e4,?_,hq.iff fun v hv=>(EU v).mp hv,∅]
  ·rw[eT,e4,e3];rw[e2]at pH;show(List.Perm.nodup_iff List.perm_append_comm).mp pH
  ·rw[eT,e4,e3];show GG () fun v hv=>hmn ▸ nZ ?_;rw[e2];rcases AC.mp hv with hv | hv
   ·show wE _ hv
   ·show xz _ hv
def jk.again(a:jk d ns)(g:Gd d.M)(hL:d.L.length=d.M.ts.length)(hr:∃ t,d.M.ts[d.root]?=!t/\t.kd=("folder":Str))(hl:d.last=true){x h0 h1 h2:Nat}(hx:x∈ns){pre qs:List Str}{nm:Str}(e:Ev d [] h0 pre h1 [])(l:Ld d h1 nm x h2 qs)(w:dw d #[h0,none,0,[],bH (pre++[nm]),[],0,0]):∃ n S',cQ d n #[h0,none,0,[],bH (pre++[nm]),[],0,0] S' (!.ring ns):=by
 let⟨q,r,ys,m,e1,e2,hp,hm⟩:=a.ex;have nd:=a.nd;have hx':=hx;rw[e1]at hx';have turn:∃ zs,cx d q (fun v=>v∈ns) x zs x m/\∃ X Y,r::ys=X++x::Y/\x::zs=x::Y++X:=by
  rcases lv.mp hx' with rfl | bT
  ·show#[ys,hp,[],ys,rfl,(FB _).symm]
  ·let⟨X,Y,rfl⟩:=_A bT;let⟨m1,m2,h1,h2,rfl⟩:=hp.cut;show#[Y++r::X,?_,r::X,Y,rfl,rfl];rw[show m1+1+m2=m2+1+m1 by omega];show h2.app h1
 let⟨zs,hz,X,Y,f1,f2⟩:=turn;have fx:ns=X++x::Y:=e1.trans f1;have pH:(x::zs).Nodup:=by
  rw[f2];rw[fx]at nd;show(List.Perm.nodup_iff List.perm_append_comm).mp nd
 have EU:∀ v∈[x]++zs,v∈ns:=fun v hv=>by
  rw[show [x]++zs=x::zs from rfl,f2]at hv;rw[fx];rcases AC.mp hv with hv | hv
  ·show wE _ hv
  ·show xz _ hv
 let⟨h3,ps3,s3,c3⟩:=hz.ZP g (ch:=[x]) EU pH ();let⟨rfl,rfl⟩:=s3.fn (l.st g);have c:Ch d [] h0 (pre++[nm]) (x::zs) x _:=.cons (vs:=[]) #[pre,nm,[],h1,rfl,e,l] () c3;let⟨n,S',rr⟩:=aaS g hL hr hl c w (l:=[]) rfl rfl rfl (by simp;omega);show#[n,S',?_];have e5:eB (([]++x::zs).drop (([]++x::zs).idxOf x))=ns:=by
  rw[List.nil_append,Ja7,List.drop_zero,f2,<- US (by rw[fx]at nd;show nd) (),<- fx];have hr':=qz (A:=[]) (B:=ys) (m:=r) () (by rw[List.nil_append,<- e1];show e2);rw[FB,List.nil_append]at hr';rw[e1];show hr'
 rw[e5]at rr;show rr
def cx.at_{q:Nat}{R:Nat->Prop}{x y n:Nat}{xs:List Nat}(a:cx d q R x xs y n):∀ (j u v:Nat),(x::xs)[j]?=!u->(xs++[y])[j]?=!v->∃ vs,jI d q R u v vs:=by
 induction a with
 | one a =>
  intro j u v h1 h2
  match j,h1,h2 with
  | 0,h1,h2=>cases h1;cases h2;show#[_,a]
  | j+1,h1,_=>simp at h1
 | cons a _ ih =>
  intro j u v h1 h2
  match j,h1,h2 with
  | 0,h1,h2=>cases h1;cases h2;show#[_,a]
  | j+1,h1,h2=>show ih j u v h1 h2
def jk.next(a:jk d ns)(j:Nat)(hj:j < ns.length):∃ q vs u v,ns[j]?=!u/\ns[(j+1) % ns.length]?=!v/\jI d q (fun v=>v∈ns) u v vs:=by
 let⟨q,r,ys,m,e1,e2,hp,hm⟩:=a.ex;have hlen:ns.length=ys.length+1:=by rw[e1];rfl
 have h2:j < (ys++[r]).length:=by rw[mo];simp;omega
 have h1:j < (r::ys).length:=by simp;omega
 let⟨u,hu⟩:∃ u,(r::ys)[j]?=!u:=#[_,sw h1];let⟨v,hv⟩:∃ v,(ys++[r])[j]?=!v:=#[_,sw h2];let⟨vs,h⟩:=hp.at_ j _ _ hu hv;show#[q,vs,u,v,by rw[e1];show hu,?_,h];rw[<- hv,hlen,e1];by_cases h3:j=ys.length
 ·subst h3;rw[Nat.mod_self,Cl (lm _),_z];rfl
 ·rw[Nat.mod_eq_of_lt ∅,List.getElem?_cons_succ,EQ ∅]
def jI.name(g:Gd d.M){q x y:Nat}{R:Nat->Prop}{vs:List Nat}(a:jI d q R x y vs):∃ t ty tl f wd,d.M.ts[x]?=!t/\t.tx=Tx.S tl/\d.M.ts[y]?=!ty/\ty.bZ=[(f,Tx.S wd)]/\wd∈Tx.cut 47 tl/\t.kd=("lead":Str):=by
 let⟨hx,px,C,h',qs,⟨t,f,nm,tl,a1,a2,a3,a4,a5,a6⟩,_,⟨as,p,bs,h1,e1,e2,e3⟩,_⟩:=a;let⟨hp,ty,b1,b2⟩:=e3.nm g;have hm:p∈cC tl:=by rw[<- a5,e1];simp
 unfold cC at hm;let⟨wd,hw,rfl⟩:=Do.mp hm;show#[t,ty,tl,h1,wd,a1,a3,b1,b2,?_,a6];have:wd∈Tx.words 47 tl:=by
  unfold told at hw;split at hw
  ·rcases AC.mp hw with hw | hw
   ·show hw
   ·rw[wn.mp hw]at hp;show absurd (by symm) hp
  ·show hw
 show(List.mem_filter.mp this).1
end
def  Hq(xs:List V):Prop:=∀ v∈xs,∀ a,v≠V.ref a
def IU(zs:List Int):Hq (zs.map V.int):=fun v hv a=>by let⟨z,_,rfl⟩:=Do.mp hv;nofun
def  qb:HO->Prop
 | .lst xs=>Hq xs
 | .bX _ _=>True
 | _=>False
def  kT(H H':Hp):Prop:=∀ c o,qb o->H c=!o->H' c=!o
def kT.trans{H H1 H2:Hp}(a:kT H H1)(b:kT H1 H2):kT H H2:=fun c o h e=>b c o h (a c o h e)
def Dr.kp{st:Addr}{H H':Hp}(d:Dr st H)(k:kT H H'):Dr st H':=let ⟨zs,e,l⟩:=d;#[zs,k _ _ (IU zs) e,l]
section
variable {CH CS CT:Addr}{H H':Hp}{A:Ad}{L:List Ta}{M:Hs}
def aH.xv(i:aH CH CS CT H A L M)(h0:M.ts≠[]){b:Addr}{o:HO}(hb:b∈A.w++L.flatMap Ta.l)(hx:qb o)(e:H b=Option.some o):False:=by
 rcases AC.mp hb with h | h
 ·simp only[Ad.w,lv,sK,AT]at h;rcases h with rfl | rfl | rfl | rfl | rfl | rfl | rfl | rfl
  ·let⟨_,_,e',_⟩:=i.h;rw[e']at e;cases e;show hx
  ·let⟨_,_,e',_⟩:=i.t;rw[e']at e;cases e;show hx
  ·rw[i.ml]at e;cases e;cases L with
   | nil=>show h0 (Pi.mp i.len.symm)
   | cons a r=>show hx (-a.th) () a.th rfl
  ·rw[i.ro]at e;cases e;show hx
  ·rw[i.st]at e;cases e;show hx
  ·rw[i.tr]at e;cases e;show hx
  ·rw[i.ov]at e;cases e;show hx
  ·rw[i.un]at e;cases e;show hx
 ·let⟨a,ha,h⟩:=List.mem_flatMap.mp h;let⟨j,ha⟩:=_i ha;have bO:j < M.ts.length:=by rw[<- i.len];show(ss.mp ha).1
  let⟨a',e1,t⟩:=i.th j _ (sw bO);rw[ha]at e1;cases e1;simp only[Ta.l,lv,sK,AT]at h;rcases h with rfl | rfl | rfl
  ·let⟨_,e',_⟩:=t.o;rw[e']at e;cases e;show hx
  ·rw[t.nm]at e;cases e;show hx
  ·rw[t.pl]at e;cases e;show hx
def aH.off(i:aH CH CS CT H A L M)(h0:M.ts≠[]){W:List Addr}(hW:∀ b∈W,b∈A.w++L.flatMap Ta.l)(k:Kp W H H'):kT H H':=fun c o ho e=>k c _ (fun hc=>i.xv h0 (hW c hc) ho e) e
def aH.drawn{st:Addr}(i:aH CH CS CT H A L M)(h0:M.ts≠[])(d:Dr st H)(k:d9 st H H'):aH CH CS CT H' A L M:=by
 show i.keep (W:=[st]) (fun b o hb e=>k b o (by simpa using hb) e) fun b hb hm=>?_;obtain rfl:b=st:=by simpa using hm
 let⟨zs,e,_⟩:=d;show i.xv h0 hb (show qb (.lst (zs.map V.int)) from IU zs) e
end
def Gd.ne{M:Hs}(g:Gd M):M.ts≠[]:=fun e=>by let⟨t,h,_⟩:=g.t0;rw[e]at h;cases h
def Xj{M:Hs}{L:List Ta}{z:Str}{last:Bool}{root:Nat}{e:End}{r k:Nat}(g:Gd M)(ga:kR M z r k)(p:fg #[L,M,z,last,root] [47] e):∃ ns,e.res=.found r ns:=by
 have e1:bH (cC [47])=[]:=by symm
 have key:∀ {h n S' o},mW #[L,M,z,last,root] (cu [47]) h->cQ #[L,M,z,last,root] n #[h,none,0,[],bH (cC [47]),[],0,0] S' o->o=none/\S'.here=r:=fun {h n S' o} b hr=>by
  have hz:=b.z;dsimp only at hz;rw[ga.ro]at hz;obtain rfl:r=root:=jO hz;let⟨st,b2,rr,a,t,aQ,ha,ht,iT,oW,rfl⟩:=b.ex;let⟨rfl,rfl⟩:=g.jh iT;rw[e1]at hr;let⟨h1,h2,_⟩:=(My hr).1 rfl;show#[h1,h2.trans ?_];rcases aQ with ⟨_,rfl⟩ | ⟨e2,_⟩
  ·rfl
  ·show absurd e2 ⋯
 cases p.g with
 | told b _ hr=>show absurd (key b hr).1 (by nofun)
 | found b _ hr ht=>show#[_,by rw[(key b hr).2]]
def  M3(re:Str):Hs:={ ts:=[{ kd := "folder",ow := "ann",mi := "lgw",re:=re,tx := "",aO:=[],bZ:=[] }],ro:=[("ann",0),("bo",0)],st:=[("ann",0),("bo",0)],tr:=[("main",0)],ov:=[],un:=[] }
def HP{re:Str}:∀ z∈AS,aG (sD (M3 re).ro) (.inr z)=!.int ((0:Nat):Int):=by
 intro z hz;unfold AS at hz;simp only[lv,sK,AT]at hz;change aG (sD [(("ann":Str),0),(("bo":Str),0)]) (.inr z)=_;rcases hz with rfl | rfl <;> symm
def mr{re:Str}:∀ z∈AS,kR (M3 re) z 0 0:=fun z hz=>#[HP z hz,HP (re:=re) z hz,.refl,#[_,rfl,rfl],_,rfl,rfl]
def uA{re:Str}:Gd (M3 re):=by
 show#[rfl,rfl,rfl,fun z hz=>#[0,0,mr z hz],(by decide:2<=3),(by decide:2<=3),#[_,rfl,rfl],fun k t ht=>?_];cases k with
 | zero =>
  cases ht;show#[wS _,.inl rfl,fun e=>absurd (show("folder":Str) = "lead" from e) (by symm),.inl #[rfl,rfl],fun z v h=>by cases h]
 | succ k=>simp[M3]at ht
section
variable {M:Hs}{L:List Ta}{z:Str}{f:Nat}{ps:List Str}
def Kh(g:Gd M)(hL:L.length=M.ts.length)(ga:kR M z 0 0):mW #[L,M,z,true,0] true 0:=by
 let⟨t,ht,hk⟩:=ga.tr;let⟨a,ha⟩:=adr hL ht;show#[ga.ro,0,0,[],a,t,.inl #[rfl,rfl],ha,ht,g.eP 0,#[0,g.seen hL 0 0 t (lm _) ht .refl],rfl]
def Av(ga:kR M z 0 0)(ej:∀ p∈ps,gE p):dw #[L,M,z,true,0] #[0,none,0,[],bH ps,[],0,0]:=by
 let⟨t,ht,hk⟩:=ga.tr;show#[#[t,ht,.inl #[hk,.refl]],fun p hp=>ej p (sS hp),sR ps,wS _]
def Ze(g:Gd M)(hL:L.length=M.ts.length)(hn:M.ts.length<=90)(ga:kR M z 0 0)(e:Ev #[L,M,z,true,0] [] 0 ps f [])(ej:∀ p∈ps,gE p)(hl:ps.length<=900):∃ E ns,lx #[L,M,z,true,0] true ps E/\E.res=.found f ns:=by
 let⟨S1,w1,g1,_,g3,_,g5⟩:=C9 (d:=#[L,M,z,true,0]) g hL ga.tr rfl e (Av ga ej) (l:=[]) rfl rfl rfl (wS _);let⟨n,r⟩:=g5 _ _ _ (.done g1);let⟨ns,bV,dC⟩:=G3 (d:=#[L,M,z,true,0]) g hL hn w1.v;show#[_,_,.found (Kh g hL ga) ∅ r dC,by rw[g3]]
def B5(g:Gd M)(hL:L.length=M.ts.length)(hn:M.ts.length<=90)(ga:kR M z 0 0){t nm:List Nat}{q:List (List Nat)}{tf:Th}(ht:told (Tx.words 47 t) t=q++[nm])(eF:cu t=true)(bK:isNm nm=true)(hq:q.length<=800)(hqp:∀ w∈q,cq w=true)(e:Ev #[L,M,z,true,0] [] 0 (q.map Tx.S++[(".":Str)]) f [])(cf:M.ts[f]?=!tf)(hw:ee ("w":Str) (dj tf z)=true)(hv:aG (sD tf.aO) (.inr (Tx.S nm))=none):om #[L,M,z,true,0] t (.inr (f,nm)):=by
 let⟨E,ns,h1,h2⟩:=Ze g hL hn ga e (fun p hp=>by
  rcases AC.mp hp with hp | hp
  ·let⟨x,hx,rfl⟩:=Do.mp hp;show wU (hqp x hx)
  ·show .inl (wn.mp hp)) (by simp;omega)
 let⟨a,ha⟩:=adr hL cf;show .free (.GV (.Kl ht bK) ∅ (by rw[eF];show h1) h2) bK ha cf hw hv
end
structure lT(t:Th):Prop where
 k:t.kd=("folder":Str)
 m:t.mi=("lgw":Str)
 r:t.re=("lgw":Str)
def lT.may{t:Th}(o:lT t)(z:Str):dj t z=("lgw":Str):=by
 unfold dj;split
 ·show o.m
 ·show o.r
def lT.g{t:Th}(o:lT t)(z:Str):ee ("g":Str) (dj t z)=true/\ee ("w":Str) (dj t z)=true:=by rw[o.may];symm
structure Rk(M:Hs)(fs:List (Nat×List Nat)):Prop where
 g:Gd M
 a:∀ z∈AS,kR M z 0 0
 len:M.ts.length=3+fs.length
 t0:∃ t,M.ts[0]?=!t/\lT t/\aG (sD t.aO) (.inr (Tx.S [100]))=!.int ((1:Nat):Int)
 t1:∃ t,M.ts[1]?=!t/\lT t/\t.bZ=[(0,Tx.S [100])]/\aG (sD t.aO) (.inr (Tx.S [101]))=!.int ((2:Nat):Int)
 t2:∃ t,M.ts[2]?=!t/\lT t/\t.bZ=[(1,Tx.S [101])]
 le:∀ i f nm,fs[i]?=!(f,nm)->f < 3/\isNm nm=true/\∃ t,M.ts[3+i]?=!t/\t.kd=("lead":Str)/\t.bZ=[(f,Tx.S nm)]
def  mY:Nat->List (List Nat)
 | 0=>[]
 | 1=>[[100]]
 | _=>[[100],[101]]
def  cF:Nat->List Nat
 | 0=>[47]
 | 1=>[47,100,47]
 | _=>[47,100,47,101,47]
def xc{nm:List Nat}(h:isNm nm=true):cq nm=true:=by unfold cq;rw[h];simp
def xJ(f:Nat){nm:List Nat}(h:isNm nm=true):Tx.words 47 (cF f++nm)=mY f++[nm]:=by
 have h1:=Tx.AH 47 nm (fj h).1 (fj h).2.1
 match f with
 | 0=>show(Tx.Ku 47 nm).trans h1
 | 1=>show(Tx.qC 47 [47,100] nm).trans (On ([[100]]++·) h1)
 | _+2=>show(Tx.qC 47 [47,100,47,101] nm).trans (On ([[100],[101]]++·) h1)
def L7(f:Nat){nm:List Nat}(h:isNm nm=true):told (Tx.words 47 (cF f++nm)) (cF f++nm)=mY f++[nm]:=by
 unfold told;rw[wT,xJ f h];rintro⟨_,e⟩;have e2:(cF f++nm).getLast?=nm.getLast?:=by
  rw[List.getLast?_append];cases e3:nm.getLast? with
  | none=>show absurd (List.getLast?_eq_none_iff.mp e3) (fj h).2.1
  | some x=>rfl
 rw[e2]at e;show(fj h).1 (List.mem_of_getLast? e)
def z0(f:Nat)(nm:List Nat):cu (cF f++nm)=true:=by
 match f with
 | 0=>rfl
 | 1=>rfl
 | _+2=>rfl
def Ao(f:Nat):∀ w∈mY f,cq w=true:=by
 match f with
 | 0=>nofun
 | 1=>symm
 | _+2=>change ∀ w∈[[100],[101]],cq w=true;symm
def xB(f:Nat):(cF f).length<=5/\1<=(cF f).length/\(mY f).length<=2:=by
 match f with
 | 0=>decide
 | 1=>decide
 | _+2=>show#[lm 5,(by decide:1<=5),lm 2]
def DO(f:Nat){nm:List Nat}(h:isNm nm=true):gq (cF f++nm):=by
 have:=xB f;have h8:=(fj h).2.2;show#[by rw[mo];omega,by rw[mo];omega,?_];rw[xJ f h,_T,Ix.mpr (Ao f)];simp[xc h]
section
variable {M:Hs}{fs:List (Nat×List Nat)}{L:List Ta}{z:Str}
def Rk.fo(R:Rk M fs){f:Nat}(hf:f < 3):∃ t,M.ts[f]?=!t/\lT t/\(f=0\/∃ g nm,t.bZ=[(g,nm)]):=by
 match f,hf with
 | 0,_=>let⟨t,h,o,_⟩:=R.t0;show#[t,h,o,.inl rfl]
 | 1,_=>let⟨t,h,o,p,_⟩:=R.t1;show#[t,h,o,.inr #[_,_,p]]
 | 2,_=>let⟨t,h,o,p⟩:=R.t2;show#[t,h,o,.inr #[_,_,p]]
def Rk.Px(R:Rk M fs){f:Nat}(hf:f < 3):cU M 0 f:=by
 let⟨t1,h1,_,p1,_⟩:=R.t1;let⟨t2,h2,_,p2⟩:=R.t2
 match f,hf with
 | 0,_=>show .refl
 | 1,_=>show .up h1 p1 .refl
 | 2,_=>show .up h2 p2 (.up h1 p1 .refl)
def Rk.Bi(R:Rk M fs){f:Nat}(hf:f < 3){last:Bool}:∃ t,jG #[L,M,z,last,0] f t:=by
 let⟨t,h,o,_⟩:=R.fo hf;show#[t,h,o.k,(o.g z).1,R.Px hf]
def DY{last:Bool}{M:Hs}{h h1:Nat}{nm:List Nat}{t tc:Th}(a:jG #[L,M,z,last,0] h t)(hn:isNm nm=true)(hv:aG (sD t.aO) (.inr (Tx.S nm))=!.int ((h1:Nat):Int))(e:M.ts[h1]?=!tc)(k:tc.kd=("folder":Str)):Pl #[L,M,z,last,0] h (Tx.S nm) h1:=by
 have hp:=xG hn;show#[.inr (.inr #[hp,by rw[Tx.c9];show(fj hn).2.2.2]),t,tc,a,?_,e,k];unfold eM;rw[wT (fun e=>by rw[e,yC.2]at hp;cases hp),wT (fun e=>by rw[e,yC.1]at hp;cases hp),hv];rfl
def zF{last:Bool}{M:Hs}{h:Nat}{t:Th}(a:jG #[L,M,z,last,0] h t):Pl #[L,M,z,last,0] h (".":Str) h:=by
 show#[.inl rfl,t,t,a,?_,a.e,a.k];unfold eM;rw[wT (by symm),At rfl]
def Ev.VX{d:Wd}{h h1 h2:Nat}{as bs:List Str}{cc vs:List Nat}(e:Ev d cc h as h1 vs):vs=[]->Ev d cc h1 bs h2 []->Ev d cc h (as++bs) h2 []:=by
 induction e with
 | nil=>show fun _ e2=>e2
 | pl a _ ih=>show fun hv e2=>.pl a (ih hv e2)
 | ld=>show fun hv=>by cases hv
def Ev.Zm{d:Wd}{h h1 h2:Nat}{as bs:List Str}(e:Ev d [] h as h1 [])(e2:Ev d [] h1 bs h2 []):Ev d [] h (as++bs) h2 []:=e.VX rfl e2
def Rk.ev(R:Rk M fs){f:Nat}(hf:f < 3){last:Bool}:Ev #[L,M,z,last,0] [] 0 ((mY f).map Tx.S) f []:=by
 let⟨a0,h0⟩:=R.Bi (L:=L) (z:=z) (last:=last) (f:=0) ∅;let⟨a1,h1⟩:=R.Bi (L:=L) (z:=z) (last:=last) (f:=1) ∅;let⟨t0,e0,o0,v0⟩:=R.t0;let⟨t1,e1,o1,p1,v1⟩:=R.t1;let⟨t2,e2,o2,p2⟩:=R.t2;have x0:=h0.e;rw[show(#[L,M,z,last,0]:Wd).M=M from rfl,e0]at x0;cases x0;have x1:=h1.e;rw[show(#[L,M,z,last,0]:Wd).M=M from rfl,e1]at x1;cases x1;have s1:=DY h0 (by symm) v0 e1 o1.k;have s2:=DY h1 (by symm) v1 e2 o2.k
 match f,hf with
 | 0,_=>show .nil
 | 1,_=>show .pl s1 .nil
 | 2,_=>show .pl s1 (.pl s2 .nil)
def Rk.Z9(R:Rk M fs){f:Nat}(hf:f < 3){last:Bool}:Ev #[L,M,z,last,0] [] 0 ((mY f).map Tx.S++[(".":Str)]) f []:=by
 let⟨t,h⟩:=R.Bi (L:=L) (z:=z) (last:=last) hf;show(R.ev hf).Zm (.pl (zF h) .nil)
def Rk.ld(R:Rk M fs){k:Nat}{t:Th}(h:M.ts[k]?=!t)(hk:3<=k):∃ f nm,fs[k - 3]?=!(f,nm)/\f < 3/\isNm nm=true/\t.kd=("lead":Str)/\t.bZ=[(f,Tx.S nm)]:=by
 have hl:=(ss.mp h).1;rw[R.len]at hl;have hi:k - 3 < fs.length:=∅
 have e:fs[k - 3]?=!(fs[k - 3].1,fs[k - 3].2):=sw hi;let⟨a,b,t',c,d1,d2⟩:=R.le _ _ _ e;rw[show 3+(k - 3)=k by omega,h]at c;cases c;show#[_,_,e,a,b,d1,d2]
def Rk.nf(R:Rk M fs)(k:Nat)(t:Th)(h:M.ts[k]?=!t):t.kd≠("file":Str):=by
 by_cases hk:k < 3
 ·let⟨t',e,o,_⟩:=R.fo hk;rw[h]at e;cases e;rw[o.k];symm
 ·let⟨_,_,_,_,_,e,_⟩:=R.ld h ∅;rw[e];symm
def Rk.free(R:Rk M fs){f:Nat}{tf:Th}(h:M.ts[f]?=!tf){nm:List Nat}(hn:∀ x∈fs,x.2≠nm)(hd:nm≠[100])(he:nm≠[101]):aG (sD tf.aO) (.inr (Tx.S nm))=none:=by
 cases hv:aG (sD tf.aO) (.inr (Tx.S nm)) with
 | none=>rfl
 | some v =>
  let⟨c,tc,_,e2,e3⟩:=(R.g.th _ _ h).ch _ _ hv;by_cases hk:c < 3
  ·let⟨t1,h1,_,p1,_⟩:=R.t1;let⟨t2,h2,_,p2⟩:=R.t2
   match c,hk with
   | 0,_ =>
    rcases (R.g.th _ _ e2).pl with ⟨_,z⟩ | ⟨_,_,_,z,_⟩
    ·rw[z]at e3;cases e3
    ·omega
   | 1,_=>rw[h1]at e2;cases e2;rw[p1]at e3;injection e3 with e3;show absurd (Tx.ic (Prod.mk.inj e3).2).symm hd
   | 2,_=>rw[h2]at e2;cases e2;rw[p2]at e3;injection e3 with e3;show absurd (Tx.ic (Prod.mk.inj e3).2).symm he
  ·let⟨g,nm',a1,_,_,_,a5⟩:=R.ld e2 ∅;rw[a5]at e3;injection e3 with e3;show absurd (Tx.ic (Prod.mk.inj e3).2) (hn _ (Go a1))
def Rk.make(R:Rk M fs){f:Nat}{tf:Th}(hf:f < 3)(h:M.ts[f]?=!tf){nm tl:List Nat}(bK:isNm nm=true)(hn:∀ x∈fs,x.2≠nm)(hd:nm≠[100])(he:nm≠[101])(hp:gq tl)(hl:tl.length<=120){mi re:Str} :
  Rk { M with ts:=M.ts.set f { tf with aO:=tf.aO++[(Tx.S nm,M.ts.length)] }++[#["lead",z,mi,re,Tx.S tl,[],[(f,Tx.S nm)]]] } (fs++[(f,nm)]):=by
 let⟨t',e',o',_⟩:=R.fo hf;rw[h]at e';cases e';have hv:=R.free h hn hd he;have bO:=(ss.mp h).1;have hL:=R.len;have g':=R.g.make (z:=z) (mi:=mi) (re:=re) h o'.k (by rw[Tx.c9];show(fj bK).2.2.2) hv (.inr (.inr rfl)) (fun _=>#[tl,rfl,hp,hl]);have old:∀ k t,k < M.ts.length->M.ts[k]?=!t->∃ t':Th,(M.ts.set f { tf with aO:=tf.aO++[(Tx.S nm,M.ts.length)] }++[(#["lead",z,mi,re,Tx.S tl,[],[(f,Tx.S nm)]]:Th)])[k]?=!t'/\t'.kd=t.kd/\t'.mi=t.mi/\t'.re=t.re/\t'.bZ=t.bZ/\∀ y v,aG (sD t.aO) (.inr y)=!v->aG (sD t'.aO) (.inr y)=!v:=fun k t hk ht=>by
  rw[EQ (by rw[_c];show hk)];by_cases e:k=f
  ·subst e;rw[P3 hk];rw[h]at ht;cases ht;show#[_,rfl,rfl,rfl,rfl,rfl,fun y v hy=>?_];have e2:sD (tf.aO++[(Tx.S nm,M.ts.length)])=sD tf.aO++[(.inr (Tx.S nm),.int ((M.ts.length:Nat):Int))]:=by unfold sD;rw[Fa];rfl
   change aG (sD (tf.aO++[(Tx.S nm,M.ts.length)])) (.inr y)=!v;rw[e2,z7 _ _ _ _ hv,wT (fun z=>by rw[z,hv]at hy;cases hy)];show hy
  ·rw[Ps (ut e)];show#[t,ht,rfl,rfl,rfl,rfl,fun _ _ h=>h]
 let⟨t0,h0,o0,v0⟩:=R.t0;let⟨t1,h1,o1,p1,v1⟩:=R.t1;let⟨t2,h2,o2,p2⟩:=R.t2;let⟨u0,i0,j01,j02,j03,j04,j05⟩:=old 0 t0 ∅ h0;let⟨u1,i1,j11,j12,j13,j14,j15⟩:=old 1 t1 ∅ h1;let⟨u2,i2,j21,j22,j23,j24,j25⟩:=old 2 t2 ∅ h2;have k0:=j01.trans o0.k;show#[g',fun y hy=>?_,?_,#[u0,i0,#[k0,j02.trans o0.m,j03.trans o0.r],j05 _ _ v0],#[u1,i1,#[j11.trans o1.k,j12.trans o1.m,j13.trans o1.r],j14.trans p1,j15 _ _ v1],#[u2,i2,#[j21.trans o2.k,j22.trans o2.m,j23.trans o2.r],j24.trans p2],fun i f' nm' e=>?_]
 ·have:=R.a y hy;show#[this.ro,this.st,.refl,#[u0,i0,k0],u0,i0,k0]
 ·rw[mo,mo,_c,hL];rfl
 ·by_cases hi:i < fs.length
  ·rw[EQ hi]at e;let⟨a1,a2,t,a3,a4,a5⟩:=R.le i f' nm' e;let⟨u,b1,b2,_,_,b5,_⟩:=old (3+i) t ∅ a3;show#[a1,a2,u,b1,b2.trans a4,b5.trans a5]
  ·have zu:i=fs.length:=by
    have:=(ss.mp e).1;rw[mo]at this;simp at this;omega
   subst zu;rw[Cl (lm _),_z]at e;cases e;show#[hf,bK,#["lead",z,mi,re,Tx.S tl,[],[(f,Tx.S nm)]],?_,rfl,rfl];rw[<- hL,Cl (by rw[_c];show lm _),_c,_z];rfl
end
def  fD(ns:List (List Nat)):List V:=ns.map fun n=>V.str (Tx.S n)
def  Yc:Sp:=oG fun st ln H Q _=>X1 fun (ns:List (List Nat))=>A7 (Dr st H) (H ln=!.lst (fD ns)) (ln≠st) (∀ n∈ns,isNm n=true) (1<=ns.length) (ns.length<=10) (∀ tl H',gq tl->tl.length<=120->Dr st H'->d9 st H H'->Q (.str (Tx.S tl)) H')
def w9{a b c d n:Nat}(h1:a<=c)(h2:b<=d)(h:c+d<=n):a+b<=n:=tz (Nat.add_le_add h1 h2) h
def Je{n k:Nat}(h:n<=k)(hk:k<=900):(0:Int) < (n:Int)+3/\(n:Int)+3<=1000:=∅
def Kv{n k:Nat}(h1:1<=n)(h:n<=k)(hk:k<=900):(0:Int) < (n:Int)/\(n:Int)<=1000:=∅
def uJ{a b:List Nat}{c d:Nat}(h1:a.length<=c)(h2:b.length<=d)(h:c+d<=1000):(Tx.S a).length+(Tx.S b).length<=sizeLine:=by rw[Tx.c9,Tx.c9];show fits (w9 h1 h2 h)
def Tv{a b c:List Nat}(h1:a.length<=5)(h2:b.length<=8)(h3:c.length<=9)(h4:1<=b.length):1<=(a++b++c).length/\(a++b++c).length<=22/\(a++b).length<=13:=by simp;omega
def Up{x y:List Nat}{c d n:Nat}(h0:1<=x.length)(h1:x.length<=c)(h2:y.length<=d)(h:c+d<=n):1<=(x++y).length/\(x++y).length<=n:=by rw[mo];show#[tz h0 (Nat.le_add_right _ _),w9 h1 h2 h]
structure tU(hd:List Nat):Prop where
 l:hd.length<=5
 w:hd=[]\/∃ h',hd=h'++[47]/\(Tx.words 47 h').all cq=true
def wO{w:List Nat}(h:cq w=true):47 ∉ w/\w≠[]/\w.length<=8:=by
 unfold cq at h;simp only[Jac,_g]at h;rcases h with (rfl | rfl) | h
 ·decide
 ·decide
 ·show#[(fj h).1,(fj h).2.1,(fj h).2.2.2]
def tU.one{hd wd:List Nat}(a:tU hd)(h:cq wd=true):(Tx.words 47 (hd++wd)).all cq=true:=by
 have e:=Tx.AH 47 wd (wO h).1 (wO h).2.1;rcases a.w with rfl | ⟨h',rfl,hw⟩
 ·rw[List.nil_append,e];simp[h]
 ·rw[IR,List.singleton_append,Tx.qC,e,_T,hw];simp[h]
def tU.two{hd wd tl:List Nat}(a:tU hd)(h:cq wd=true)(b:tl=[]\/∃ r,tl=47::r/\(Tx.words 47 r).all cq=true):(Tx.words 47 (hd++wd++tl)).all cq=true:=by
 rcases b with rfl | ⟨r,rfl,hr⟩
 ·rw[FB];show a.one h
 ·rw[Tx.qC,_T,a.one h,hr];rfl
def PM:T.qm.k P w base 2 Yc:=by
 show T.qm.F.ok zE (fun _ _ _ _ h=>iP h fun _ _ _=>rfl) fun ax A _ s H vs Q E hr h=>iP h fun st ln h=>?_;let⟨ns,aQ,md,cX,bK,zf,gW,q⟩:=h;show bS (b:=aW Ej) ((al (aR 2 zE.nd (bv (bF (K:=K) rfl) (db (aa ap (aa ap (aa ap (aa ap (aa ap (aa ap (aa ap (aa ap ae))))))))) (oq<$>T.dM (aa (ad 0) (aa bi ae)))))
 (al (aR 3 zE.nd (bv (bF (K:=K) rfl) (cr dA (ad 1) (db (aa ap (aa ap (aa ap ae))))) (oq<$>T.dM (aa (ad 0) (aa (cr dA (cA (iI (K:=K) rfl) T.gz No (aa (ad 1) ae)) bi) ae)))))
 (aj (aN (cr dA (cr dA (ad 2) (ad 3)) (bv (bF (K:=K) rfl) (db (aa ap (aa ap (aa ap (aa ap (aa ap (aa (cr dA ap (bv (bF (K:=K) rfl) (ad 1) (oq<$>T.dM (aa (ad 0) (aa (cA (iI (K:=K) rfl) T.gz No (aa (ad 1) ae)) ae))))) ae))))))) (oq<$>T.dM (aa (ad 0) (aa bi ae)))))))))) ?_
 exists 2;right;show ye aQ rfl () () fun v H1 hv h1 k1=>ck fun N hN=>?_;let⟨hd,hh,rfl⟩:∃ hd,tU hd/\v=V.str (Tx.S hd):=by
  simp only[lv,sK,AT]at hv;rcases hv with rfl | rfl | rfl | rfl | rfl | rfl | rfl | rfl
  ·show#[[],#[⋯,.inl rfl],by symm]
  ·show#[[47],#[⋯,.inr #[[],rfl,by symm]],by symm]
  ·show#[[46,47],#[⋯,.inr #[[46],rfl,by symm]],by symm]
  ·show#[[100,47],#[⋯,.inr #[[100],rfl,by symm]],by symm]
  ·show#[[47,100,47],#[⋯,.inr #[[47,100],rfl,by symm]],by symm]
  ·show#[[46,46,47],#[⋯,.inr #[[46,46],rfl,by symm]],by symm]
  ·show#[[47,100,47,101,47],#[⋯,.inr #[[47,100,47,101],rfl,by symm]],by symm]
  ·show#[[101,47],#[⋯,.inr #[[101],rfl,by symm]],by symm]
 have b1:=k1 _ _ cX md;left;show#[fits (),fun p hp=>?_];show cI hp fun H2 s2 c2=>?_;have b2:=s2 _ _ b1;have d2:=h1.same s2;simp only[b2,c2];have hlen:(fD ns).length=ns.length:=pi _;show#[fits (w9 (tz (_u hlen) gW) (lm 3) ⋯),fun p2 cH=>?_];show cI cH fun H3 s3 c3=>?_;have b3:=s3 _ _ b2;have d3:=d2.same s3;have np:=d2.ne cH;simp only[bB,b3];have mf:=tz (_u hlen) gW;show wC d3 (Je mf ⋯).1 (Je mf ⋯).2 fun dg H4 g0 g1 d4 k4=>?_;have c4:=k4 _ _ np c3;have b4:=k4 _ _ cX b3;let⟨v,hv,ev⟩:=pick (xs:=fD ns++[V.str "d",V.str "e",V.str "."]) g0 (by rw[mo];show g1);simp only[bB,c4,ev];let⟨wd,hw,rfl⟩:∃ wd,cq wd=true/\v=V.str (Tx.S wd):=by
  rcases AC.mp hv with hv | hv
  ·let⟨n,hn,rfl⟩:=Do.mp hv;show#[n,xc (bK n hn),rfl]
  ·simp only[lv,sK,AT]at hv;rcases hv with rfl | rfl | rfl
   ·show#[[100],by symm,by symm]
   ·show#[[101],by symm,by symm]
   ·show#[[46],by symm,by symm]
 have k14:d9 st H H4:=((k1.trans (s2.keep st)).trans (s3.keep st)).trans k4;have NJ:=(wO hw).2.2;have Nw:=hh.l;show hN _ _ ?_;left;simp only[bB,b4];show#[uJ Nw NJ ⋯,wC d4 (Kv (tz zf (_u hlen.symm)) mf ⋯).1 (Kv (tz zf (_u hlen.symm)) mf ⋯).2 fun dg5 H5 g5 g6 d5 k5=>?_];have b5:=k5 _ _ cX b4;let⟨v,hv,ev⟩:=pick (xs:=fD ns) g5 g6;let⟨n,hn,rfl⟩:=Do.mp hv;simp only[b5,ev];have ng:=(fj (bK n hn)).2.2.2;show#[uJ (a:=[47]) (c:=1) (lm 1) ng ⋯,?_];rw[Tx.uB];show ye d5 rfl () () fun v H6 hv d6 k6=>?_;let⟨tl,ht,hl,rfl⟩:∃ tl,(tl=[]\/∃ r,tl=47::r/\(Tx.words 47 r).all cq=true)/\tl.length<=9/\v=V.str (Tx.S tl):=by
  simp only[lv,sK,AT]at hv;rcases hv with rfl | rfl | rfl | rfl | rfl | rfl
  ·show#[[],.inl rfl,⋯,by symm]
  ·show#[[],.inl rfl,⋯,by symm]
  ·show#[[],.inl rfl,⋯,by symm]
  ·show#[[47],.inr #[[],rfl,by symm],⋯,by symm]
  ·show#[[47,46],.inr #[[46],rfl,by symm],⋯,by symm]
  ·show#[47::n,.inr #[n,rfl,by rw[Tx.AH 47 n (fj (bK n hn)).1 (fj (bK n hn)).2.1];simp[xc (bK n hn)]],Ja0 ng,On V.str (Tx.uB [47] n)]
 have lZ:1<=wd.length:=List.length_pos_iff.mpr (wO hw).2.1;let⟨z1,z2,z3⟩:=Tv Nw NJ hl lZ;show#[uJ z3 hl ⋯,?_];rw[Tx.uB];show q _ _ #[z1,tz z2 ⋯,hh.two hw ht] (tz z2 ⋯) d6 ((k14.trans k5).trans k6)
def  dk(fs:List (Nat×List Nat)):List (Key×V):=fs.zipIdx.map fun x=>(.inr (Tx.S (cF x.1.1++x.1.2)),.int ((3+x.2:Nat):Int))
def  gb:List (List Nat):=[[97],[98,98],[99],[100,97],[101,97],[102],[108,101,97,100]]
def Wt:∀ n∈gb,isNm n=true/\n≠[100]/\n≠[101]:=by symm
structure tm(N:Cn)(A:Ad)(ln fd st:Addr)(NL:List (List Nat))(i:Nat)(H:Hp):Prop where
 ex:∃ L M,∃ fs:List (Nat×List Nat),aH N.CH N.CS N.CT H A L M/\Rk M fs/\fs.length=i/\(∀ (j:Nat) (x:Nat×List Nat),fs[j]?=!x->NL[j]?=!x.2)/\H fd=!.dK (dk fs)/\fd ∉ A.w++L.flatMap Ta.l
 l:H ln=!.lst (fD NL)
 d:Dr st H
 n:ln≠st
def tm.keep{N:Cn}{A:Ad}{ln fd st:Addr}{NL:List (List Nat)}{i:Nat}{H H':Hp}(h:tm N A ln fd st NL i H)(k:d9 st H H')(d:Dr st H'):tm N A ln fd st NL i H':=by
 let⟨L,M,fs,a1,a2,a3,a4,a5,a6⟩:=h.ex;let⟨zs,e,_⟩:=h.d;show#[#[L,M,fs,a1.drawn a2.g.ne h.d k,a2,a3,a4,k _ _ (cT a5 e (by nofun)) a5,a6],k _ _ h.n h.l,d,h.n]
def  TQ(N:Cn):Sp:=oG fun x st H Q _=>X3 fun A L M=>A5 (aH N.CH N.CS N.CT H A L M) (A.a=x) (Rk M []) (Dr st H) (∀ fd L' M' fs H',aH N.CH N.CS N.CT H' A L' M'->Rk M' fs->fs.length<=7->H' fd=!.dK (dk fs)->fd ∉ A.w++L'.flatMap Ta.l->Q (-fd) H')
def YX:T.qB.k P w base 16 (TQ T.cn):=by
 show T.qB.F.ok tH (fun _ _ _ _ h=>iP h fun _ _ _=>rfl) fun ax A _ s H vs Q E hr h=>iP h fun x st h=>?_;let⟨AA,L,M,i,rfl,R,aQ,q⟩:=h;show bS (b:=aW CZ) ((al (aR 2 tH.nd (ii (mC (K:=K) rfl) (db (aa ap (aa ap (aa ap (aa ap (aa ap (aa ap (aa ap ae)))))))) jc (jr (cr dA bi (oq<$>T.dM (aa (ad 1) (aa bi ae)))))))
 (al (aR 3 tH.nd la)
 (al (ly FM rfl (iJ (K:=K) rfl (ad 2)) (dm 4 tH.nd) (al (aR 5 tH.nd (cr dA (bv (bF (K:=K) rfl) (db (aa ap (aa ap (aa ap (aa ap ae))))) (oq<$>T.dM (aa (ad 1) (aa bi ae)))) (ad 4)))
 (aj (nM (eC hr) (ad 3) (ad 5) (f7 (UO T) hr.m T.pX.m T.pX.F.kp T.pX.b .nil fk (aa (ad 0) (aa (bv (bF (K:=K) rfl) (db (aa ap (aa ap ae))) (oq<$>T.dM (aa (ad 1) (aa bi ae)))) (aa (ad 5) (aa (PM<$>T.qm (aa (ad 1) (aa (ad 2) ae))) ae)))))))))
 (aj (aN (ad 3))))))) ?_
 exists 4;show ck fun N hN=>?_;left;show#[fits (),fun p hp=>?_];have s1:=ag.upd (o:=.lst (fD gb)) hp;have b1:upd H p (.lst (fD gb)) p=!.lst (fD gb):=ay;have d1:=aQ.same s1;have np:=aQ.ne hp;change qr _ (upd H p (.lst (fD gb))) _ _;generalize upd H p (.lst (fD gb))=H1 at s1 b1 d1 ⊢;show wC d1 ⋯ ⋯ fun dg H2 g0 g1 d2 k2=>?_;have b2:=k2 _ _ np b1;have i2:=(i.same s1).drawn R.g.ne d1 k2;show#[_,aB.of b2,fun ln md=>hN _ _ (ck fun N hN=>?_)];let⟨m,rfl⟩:=_r g0;have hm:m < 6:=Int.ofNat_lt.mp g1;have hcut:gm (fD gb) none (!(2+(m:Int)))=fD (gb.take (2+m)):=by
  rw[show(2:Int)+(m:Int)=((2+m:Nat):Int) from(Int.natCast_add 2 m).symm,D3];unfold fD;rw[List.map_take]
 rw[hcut];show cI md fun H3 s3 b3=>?_;have d3:=d2.same s3;have nl:=d2.ne md;have i3:=i2.same s3;left;intro fd bh;show hN _ _ (ck fun N hN=>?_);have s4:=ag.upd (o:=.dK []) bh;have b4:upd H3 fd (.dK []) fd=!.dK (dk []):=ay;have h4:tm T.cn AA ln fd st (gb.take (2+m)) 0 (upd H3 fd (.dK [])):=#[#[L,M,[],i3.same s4,R,rfl,nofun,b4,fun z=>?_],s4 _ _ b3,d3.same s4,nl]
 ·generalize upd H3 fd (.dK [])=H4 at h4 ⊢;have Fj:∀ n∈gb.take (2+m),isNm n=true/\n≠[100]/\n≠[101]:=fun n hn=>Wt n (List.mem_of_mem_take hn);have nd:(gb.take (2+m)).Nodup:=List.Sublist.nodup (List.take_sublist _ _) (by symm);have ll:1<=(gb.take (2+m)).length/\(gb.take (2+m)).length<=7:=by
   rw[Tm,show gb.length=7 from rfl];omega
  generalize gb.take (2+m)=NL at h4 Fj nd ll;left;show#[#[_,aB.of h4.l],qR (xs:=fD NL) (fun i σ' H'=>tm T.cn AA ln fd st NL i H'/\∃ t1 t2,σ'=[!V.ref AA.a,!V.ref st,!V.ref ln,!V.ref fd,t1,t2]) #[h4,_,_,rfl] (fun i σ' H' _ h=>aB.of h.1.l) ?_ (fun σ' H' h=>?_)]
  ·rintro i x σ' H5 hx ⟨h5,t1,t2,rfl⟩;unfold fD at hx;rw[Da]at hx;let⟨nm,bK,rfl⟩:=Ty.mp hx;let⟨n1,n2,n3⟩:=Fj nm (Go bK);show ck fun N2 pk=>?_;left;show ye h5.d rfl () () fun v H6 hv d6 k6=>?_;have h6:=h5.keep k6 d6;let⟨f,hf,rfl⟩:∃ f,f < 3/\v=V.str (Tx.S (cF f)):=by
    simp only[lv,sK,AT]at hv;rcases hv with rfl | rfl | rfl | rfl
    ·show#[0,⋯,by symm]
    ·show#[0,⋯,by symm]
    ·show#[1,⋯,by symm]
    ·show#[2,⋯,by symm]
   have bx:=xB f;have ng:=(fj n1).2.2.2;show#[uJ bx.1 ng ⋯,?_];rw[Tx.uB];show pk _ _ ?_;left;show ye h6.d rfl () () fun v H7 hv d7 k7=>?_;have h7:=h6.keep k7 d7;let⟨z,hz,rfl⟩:∃ z,z∈AS/\v=V.str z:=by
    simp only[lv,sK,AT]at hv;rcases hv with rfl | rfl <;> show#[_,by symm,rfl]
   show#[NL,d7,h7.l,h7.n,fun n hn=>(Fj n hn).1,ll.1,tz ll.2 ⋯,fun tl H8 ht zo d8 k8=>?_];have h8:=h7.keep k8 d8;let⟨L8,M8,fs,i8,R8,fc,EY,b8,o8⟩:=h8.ex;have NV:i < NL.length:=(ss.mp bK).1;have Nr:fs.length<=7:=by rw[fc];show tz (_Z NV) ll.2
   have E2:M8.ts.length<=10:=by rw[R8.len];show Jag Nr 3
   have vN:∀ x∈fs,x.2≠nm:=fun x hx e=>by
    let⟨j,hj⟩:=_i hx;have jE:=(ss.mp hj).1;have e1:=EY j x hj;rw[e,<- bK]at e1;have:=(List.getElem?_inj (ww jE (fc ▸ _Z NV)) nd).mp e1;rw[this,fc]at jE;show KB _ jE
   let⟨tf,cf,otf,_⟩:=R8.fo hf;have kq:=R8.free cf vN n2 n3;show#[AA,L8,M8,cF f++nm,tl,rfl,rfl,#[i8,DO f n1,by rw[(R8.a z hz).ro];rfl,by symm,by symm,by rw[i8.len];show tz E2 ⋯,fun f t0 h=>tz (R8.g.th f t0 h).nl (tz E2 ⋯),0,.inr (f,nm),B5 R8.g i8.len (tz E2 ⋯) (R8.a z hz) (L7 f n1) (z0 f nm) n1 (tz bx.2.2 ⋯) (Ao f) (R8.Z9 hf) cf (otf.g z).2 kq,(fun x e=>by cases e),fun f' nm' a0 t0 e gY gy a H9 fr9 i9 k9=>?_],rfl,ht,zo];cases e;rw[cf]at gy;cases gy;have b9:H9 fd=!.dK (dk fs):=k9 _ _ (fun hm=>o8 (by
    simp only[lv,sK,AT]at hm;rcases hm with rfl | rfl | rfl
    ·simp[Ad.w]
    ·simp[Ad.w]
    ·show wE _ (js gY (by simp[Ta.l])))) b8
   have kA:kT H8 H9:=i8.off R8.g.ne (fun b hb=>by
    simp only[lv,sK,AT]at hb;rcases hb with rfl | rfl | rfl
    ·simp[Ad.w]
    ·simp[Ad.w]
    ·show wE _ (js gY (by simp[Ta.l]))) k9
   have e9:putK (dk fs) (.inr (Tx.S (cF f++nm))) (.int ((M8.ts.length:Nat):Int))=dk (fs++[(f,nm)]):=by
    unfold putK;rw[wT,R8.len]
    ·unfold dk;rw[List.zipIdx_append,Fa];simp
    ·intro z;let⟨kv,hk,e⟩:=_q.mp z;let⟨⟨⟨f',nm'⟩,j⟩,hy,rfl⟩:=Do.mp hk;have e2:cF f'++nm'=cF f++nm:=Tx.ic (Sum.inr.inj (_h e));have iU:=Go (List.mem_zipIdx_iff_getElem?.mp hy);let⟨j',hj'⟩:=_i iU;have n1':=(R8.le j' f' nm' hj').2.1;have e3:=xJ f' n1';rw[e2,xJ f n1]at e3;have:=(UV e3 rfl).2;injection this with this;show vN _ iU this.symm
   have o9:fd ∉ AA.w++(L8++[a]).flatMap Ta.l:=fun z=>by
    rw[List.flatMap_append,<- IR]at z;rcases AC.mp z with z | z
    ·show o8 z
    ·rw[TW,List.flatMap_nil,FB]at z;rw[fr9 fd z]at b8;cases b8
   have vF:aH T.aJ T.aP T.aV (upd H9 fd (.dK (dk (fs++[(f,nm)])))) AA (L8++[a]) _:=i9.keep (W:=[fd]) (fun b o hb e=>by rw[ah (by simpa using hb)];show e) fun b hb hm=>o9 (wn.mp hm ▸ hb);have M7:=kA _ _ (show qb (.lst (fD NL)) from fun v hv a=>by let⟨n,_,rfl⟩:=Do.mp hv;nofun) h8.l;have d10:=d8.kp kA;have l7:(dk fs).length=fs.length:=by unfold dk;rw[pi,Jar]
   have h7:(dk fs).length < sizeLine:=SZ (m:=7) (l7 ▸ Nr) ⋯;show#[fd,_,rfl,hV.k (k:=.inr (Tx.S (cF f++nm))) b9 h7,?_,_,_,rfl];rw[e9];show#[#[_,_,fs++[(f,nm)],vF,R8.make hf cf n1 vN n2 n3 ht zo,by simp[fc],fun j x hj=>?_,ay,o9],?_,?_,h8.n]
   ·by_cases jE:j < fs.length
    ·rw[EQ jE]at hj;show EY j x hj
    ·have hj2:j=fs.length:=by
      have:=(ss.mp hj).1;rw[mo]at this;simp at this;omega
     subst hj2;rw[Cl (lm _),_z]at hj;cases hj;rw[fc];show bK
   ·rw[ah (cT M7 b9 (by nofun))];show M7
   ·let⟨zs,e,l⟩:=d10;show#[zs,by rw[ah (cT e b9 (by nofun))];show e,l]
  ·left;let⟨h,t1,t2,rfl⟩:=h;let⟨L9,M9,fs,i9,R9,fc,EY,b9,o9⟩:=h.ex;have:(fD NL).length=NL.length:=pi _;show hN _ _ (q fd L9 M9 fs _ i9 R9 (by rw[fc,this];show ll.2) b9 o9)
 ·let⟨o,e⟩:=i3.some fd z;rw[bh]at e;cases e
section
variable {M:Hs}{fs:List (Nat×List Nat)}{L:List Ta}{z:Str}{ns:List Nat}
def jk.ld{d:Wd}(a:jk d ns){x:Nat}(hx:x∈ns):∃ h p h' qs,Ld d h p x h' qs:=by
 let⟨q,r,ys,m,e1,e2,hp,hm⟩:=a.ex;have bT:x∈ys++[r]:=by
  rw[e1]at hx;rcases lv.mp hx with rfl | hx
  ·simp
  ·show xz _ hx
 let⟨j,hj⟩:=_i bT;have jE:=(ss.mp hj).1;have h1:j < (r::ys).length:=by rw[mo]at jE;simpa using jE
 let⟨vs,_,_,_,_,_,_,_,⟨_,_,_,_,_,_,l⟩,_⟩:=hp.at_ j _ _ (sw h1) hj;show#[_,_,_,_,l]
def Rk.ring(R:Rk M fs)(hL:L.length=M.ts.length)(hz:z∈AS)(a:jk #[L,M,z,true,0] ns){x:Nat}(hx:x∈ns):3<=x/\∃ f nm e,fs[x - 3]?=!(f,nm)/\isNm nm=true/\fg #[L,M,z,true,0] (cF f++nm) e/\e.res=.ring ns:=by
 let⟨h,p,h',qs,l⟩:=a.ld hx;let⟨_,tx,e1,e2⟩:=l.nm R.g;let⟨_,_,tc,tl,_,_,c1,c2,_⟩:=id l;have h3:3<=x:=Nat.le_of_not_lt fun z=>by
  let⟨t',e,o,_⟩:=R.fo z;have c1':M.ts[x]?=!tc:=c1;rw[e]at c1';cases c1';show CQ c2 o.k
 let⟨f,nm,f1,f2,f3,_,f5⟩:=R.ld e1 h3;rw[f5]at e2;injection e2 with e2;let⟨rfl,rfl⟩:=Prod.mk.inj e2;have ga:=R.a z hz;have ej:∀ q∈(mY f).map Tx.S++[Tx.S nm],gE q:=fun q hq=>by
  rcases AC.mp hq with hq | hq
  ·let⟨y,hy,rfl⟩:=Do.mp hq;show wU (Ao f y hy)
  ·rw[wn.mp hq];show wU (xc f3)
 let⟨n,S',r⟩:=a.again R.g hL ga.tr rfl hx (R.ev f2) l (Av ga ej);have ep:cC (cF f++nm)=(mY f).map Tx.S++[Tx.S nm]:=by unfold cC;rw[L7 f f3,Fa];rfl
 have kx:=DO f f3;have bx:=xB f;show#[h3,f,nm,#[S'.asked,.ring ns],f1,f3,#[kx.l1,kx.l2,kx.all,?_],rfl];rw[z0,ep];show .told (Kh R.g hL ga) (by simp;omega) r
end
def  jK(fs:List (Nat×List Nat)):List (Key×V):=fs.zipIdx.map fun x=>(.inl ((3+x.2:Nat):Int),.str (Tx.S (cF x.1.1++x.1.2)))
def Jh{f:Nat}{nm:List Nat}:∀ (fs:List (Nat×List Nat)) (s k:Nat),fs[k]?=!(f,nm)->aG ((fs.zipIdx s).map fun x=>((.inl ((3+x.2:Nat):Int):Key),V.str (Tx.S (cF x.1.1++x.1.2)))) (.inl ((3+(s+k):Nat):Int))=!.str (Tx.S (cF f++nm))
 | [],_,_,h=>by simp at h
 | x::fs,s,0,h=>by
  cases h;rw[List.zipIdx_cons,Fr];unfold aG;rw[List.find?_cons_of_pos ()];rfl
 | x::fs,s,k+1,h=>by
  have ih:=Jh fs (s+1) k h;rw[List.zipIdx_cons,Fr];unfold aG at ih ⊢;rw[List.find?_cons_of_neg (by simp;omega),show 3+(s+(k+1))=3+(s+1+k) by omega];show ih
def XJ{fs:List (Nat×List Nat)}{k f:Nat}{nm:List Nat}(h3:3<=k)(h:fs[k - 3]?=!(f,nm)):aG (jK fs) (.inl (k:Int))=!.str (Tx.S (cF f++nm)):=by
 have:=Jh fs 0 (k - 3) h;rw[show 3+(0+(k - 3))=k by omega]at this;show this
def HH(ns:List Nat):qb (.lst (nV ns)):=fun v hv a=>by unfold nV at hv;let⟨n,_,rfl⟩:=Do.mp hv;nofun
def  Rj(N:Cn):Sp:=IX fun x z fd pd H Q _=>X7 fun A L M fs ns bC rl=>xY (aH N.CH N.CS N.CT H A L M) (A.a=x) (Rk M fs) (z∈AS) (H fd=!.ins N.CR bC (az "leads" (-rl) [])) (H rl=!.lst (nV ns)) (jk #[L,M,z,true,0] ns) (ns.length<=40) (H pd=!.dK (jK fs)) (∀ H',Kp [rl] H H'->Q (.bl true) H')
def OP:T.qy.k P w base 15 (Rj T.cn):=by
 show T.qy.F.ok nK (fun _ _ _ _ h=>LP h fun _ _ _ _ _=>rfl) fun ax A _ s H vs Q E hr h=>LP h fun x z fd pd h=>?_;let⟨AA,L,M,fs,ns,bC,rl,i,rfl,R,hz,bh,df,ro,eT,r6,q⟩:=h;show bS (b:=aW AV) ((al (aR 4 nK.nd (am T.g8 T.rf (ad 2)))
 (al (ly FM rfl (Qx T.Ra (aa (cA (iI (K:=K) rfl) T.gz No (aa (ad 4) ae)) ae)) (dm 5 nK.nd) (al (aR 6 nK.nd (bn (mz T) hr.m T.mw T.iL.kp T.mJ (.cons (show RelV (.bl true) _ from rfl) .nil) aw (aa (ad 0) (aa (ad 1) (aa (nR (eC hr) (ad 3) (bv (bF (K:=K) rfl) (ad 4) (ad 5))) ae)))))
 (al (aX (dZ (ge (da (cK (cA (oz (K:=K) rfl) T.fN fR (aa (ad 6) (aa (dl (-T.dF) T.xX rfl) ae))))) (iN (bf (Aw (K:=K) rfl hr.fU) (am T.g8 T.rf (ad 6)) (ad 4))))) (aj (aN em)) ce)
 (al (qu (nI<*T.fB (ad 0) (aa (bv (bF (K:=K) rfl) (ad 4) (cr mv (cr dA (ad 5) bi) (cA (iI (K:=K) rfl) T.gz No (aa (ad 4) ae)))) ae)) (qS (K:=K) (n:=2) rfl rfl (iR (dm 7 nK.nd) (iR (dm 8 nK.nd) pR))))
 (aj (aX (bf (uq (K:=K) rfl) (ad 8) (oT _4 _5 Am (xy<*T.ji (ad 0) (aa (bv (bF (K:=K) rfl) (ad 4) (ad 5)) ae)) (aa ap ae))) (aj (aN em)) ce))))))
 (al (aX (dZ (ge (bf jg (bv (bF (K:=K) rfl) (ad 4) bi) (cA (Cj (K:=K) rfl rfl) T.xO DC (aa (ad 4) ae))) (iN (bf jg (cA P5 T.gz No (aa (mj (ZX (K:=K) rfl rfl) T.Z4 Ww (aa (ad 4) ae)) ae)) (cA (iI (K:=K) rfl) T.gz No (aa (ad 4) ae)))))) (aj (aN em)) ce)
 (al (aR 9 nK.nd (mj (CL (K:=K) rfl) T.mx tq (aa (ad 4) ae)))
 (al (bj (B3 PySem.F.slot_list_clear PySem.F.type_list_clear Q5 (ad 4)))
 (aj (aN (f8 (ug (K:=K) rfl hr.fU) (am T.g8 T.rf (bn (mz T) hr.m T.mw T.iL.kp T.mJ (.cons (show RelV (.bl true) _ from rfl) .nil) aw (aa (ad 0) (aa (ad 1) (aa (nR (eC hr) (ad 3) (bv (bF (K:=K) rfl) (ad 9) bi)) ae))))) (ad 9)))))))))) ?_
 exists 6;show ck fun N hN=>?_;left;show#[fd,bC,_,-rl,rfl,bh,rfl,hN _ _ (ck fun N hN=>?_)];left;simp only[bB,df];have eI:(nV ns).length=ns.length:=pi _;have en:∀ {j u:Nat},ns[j]?=!u->cR (nV ns) (j:Int)=!.int (u:Int):=fun {j u} h=>jR (by unfold nV;rw[Da,h];rfl);have Nm:∀ {H1:Hp}{u:Nat}{Q1:VK}{E1:XK},Kp [rl] H H1->u∈ns->(∀ lW d2 ku H2,ag H1 H2->H2 lW=!.ins T.dF d2 (az "leads" (-ku) [])->H2 ku=!.lst (nV ns)->Q1 (-lW) H2)->∃ a v,V.ref pd=V.ref a/\dN H1 a (.int (u:Int)) (!v)/\K1 T.cn [-AA.a,.str z,v,.bl true] H1 Q1 E1:=fun {H1 u Q1 E1} k1 hu q1=>by
  let⟨h3,f,nm,e,f1,f2,pw,er⟩:=R.ring i.len hz ro hu;have i1:=i.keep k1 fun b hb hm=>i.xv R.g.ne hb (show qb (.lst (nV ns)) from HH ns) (wn.mp hm ▸ df);show#[pd,_,rfl,.inl #[_,.inl (u:Int),.inl (k1 _ _ (by rw[wn];show cT r6 df (by nofun)) r6),rfl,(XJ h3 f1).symm],AA,L,M,0,_,e,rfl,i1,rfl,pw,fun lW H2 s2 ht=>?_];rw[er]at ht;let⟨d2,ku,t1,t2,_⟩:=ht;show q1 lW d2 ku H2 s2 t1 t2
 show#[by rw[eI];omega,VW (fun j σ' H'=>ag H H'/\∃ t1 t2 t3 t4,σ'=[!V.ref AA.a,!V.str z,!V.ref fd,!V.ref pd,!V.ref rl,t1,t2,t3,t4,none]) #[ag.refl _,_,_,_,_,rfl] ?_ ?_]
 ·rintro j σ' H1 hj ⟨s1,t1,t2,t3,t4,rfl⟩;have hjn:j < ns.length:=by rw[eI]at hj;omega
  let⟨qq,vs,u,v,hu,hv,vE⟩:=ro.next j hjn;show ck fun N2 pk=>?_;left;simp only[bB,s1 _ _ df,Int.zero_add,en hu];show Nm (Kp.of s1) (Go hu) fun lW d2 ku H2 s2 g1 g2=>pk _ _ (ck fun N3 vz=>?_);left;have r2:=(s1.trans s2) _ _ df;show#[_,_,_,.of (.ins g1 T.g8 T.oh T.q2 T.q3 T.n9),.cls T.Ap,bI rfl #[lW,d2,_,-ku,rfl,g1,rfl,?_]];show fT.same (K:=K) (neg:=true) (Q:=fun v H3=>match v with | .bl b=>if b=true then Q (.bl false) H3 else N3 _ H3 | _=>False) (.inl #[aB.of g2,aB.of r2]) (vk _) (bI rfl (vz _ _ (ck fun N4 vJ=>?_)));left;simp only[bB,r2];have i2:=i.same (s1.trans s2);let⟨iB,c2,bT,gT,cj⟩:=i2.h;have hmod:cR (nV ns) (((j:Int)+1) % ((nV ns).length:Int))=!.int (v:Int):=by
   rw[eI,show((j:Int)+1) % (ns.length:Int)=(((j+1) % ns.length:Nat):Int) from by rw[Int.natCast_emod];rfl];show en hv
  rw[hmod];let⟨tu,tv,tl,f,wd,m1,m2,m3,m4,m5,m6⟩:=vE.name R.g;let⟨tl',e1,e2,e3⟩:=(R.g.th u tu m1).ld m6;rw[m2]at e1;obtain rfl:=Tx.ic e1;let⟨av,fX⟩:=adr i.len m3;let⟨au,hau⟩:=adr i.len m1;show(mI bT cj #[by rw[eI];omega,AA,L,M,v,av,tv,i2,rfl,rfl,fX,m3,.inr #[f,Tx.S wd,m4,fun pp ni=>#[pp,_,rfl,bE.of ni,rfl,_,_,rfl,_,_,rfl,rfl,vJ _ _ ?_]]]);left;simp only[bB,r2,en hu];show(mI bT cj #[AA,L,M,u,au,tu,i2,rfl,rfl,hau,m1,?_]);have vW:=Tx.uc 47 tl;dsimp only[sE];rw[m2,show("/":Str)=Tx.S [47] from by symm];show#[rfl,by rw[Tx.c9];show fits ∅,?_,fun l hl=>#[_,.inl (aB.of ay),rfl,?_,?_]]
  ·rw[Tx.yn,Tx.lU,Tx.xH,Tx.qd,pi];show fits ∅
  ·show Ix.mpr fun x hx=>by let⟨y,_,rfl⟩:=Do.mp hx;rfl
  ·rw[Tx.Bt tl 47 ⋯];show bI ?_ #[(s1.trans s2).trans (ag.upd hl),_,_,_,_,rfl];rw[Bool.not_eq_false'];show _q.mpr #[_,Do.mpr #[_,Do.mpr #[wd,m5,rfl],rfl],by unfold ff;simp]
 ·rintro σ' H1 ⟨s1,t1,t2,t3,t4,rfl⟩;show hN _ _ (ck fun N2 pk=>?_);have r1:=s1 _ _ df;let⟨qq,r0,ys,m,e1,e2,hp,hm⟩:=ro.ex;left;simp only[bB,r1];have nj:r0∈ns:=by rw[e1];simp
  rw[show cR (nV ns) 0=some (.int (r0:Int)) from en (j:=0) (by rw[e1];rfl)];have hS:aB K H1 rl ((ns.map (fun k:Nat=>(k:Int))).map V.int):=aB.of (by rw[r1,uM]);show#[_,r0,hS,mem_cast nj,fun k hk=>?_,?_]
  ·let⟨k',hk',rfl⟩:=Do.mp hk;have:=nZ hk';omega
  show bI () #[rl,_,rfl,hS,?_,by rw[pi];omega,fun l S hl=>#[l,S,_,rfl,ay,?_]]
  ·show List.Pairwise.map _ (fun a b h e=>h (NE e)) ro.nd
  have s2:=s1.trans (ag.upd (o:=.set S (ns.map (fun k:Nat=>(k:Int))).length) hl);have r2:upd H1 l (.set S (ns.map (fun k:Nat=>(k:Int))).length) rl=!.lst (nV ns):=(ag.upd hl) _ _ r1;generalize upd H1 l (.set S (ns.map (fun k:Nat=>(k:Int))).length)=H2 at s2 r2 ⊢;simp only[r2];show bI (by simp[eI]) (pk _ _ (ck fun N3 vz=>?_));left;simp only[bB,r2];intro kl eG;show vz _ _ (ck fun N4 vJ=>?_);have s3:=s2.trans (ag.upd (o:=.lst (nV ns)) eG);have b3:upd H2 kl (.lst (nV ns)) kl=!.lst (nV ns):=ay;have r3:upd H2 kl (.lst (nV ns)) rl=!.lst (nV ns):=(ag.upd eG) _ _ r2;have nk:kl≠rl:=bt r2 eG |>.symm;generalize upd H2 kl (.lst (nV ns))=H3 at s3 b3 r3 ⊢;left;rw[r3];show⟨_,rfl,vJ _ _ ?_⟩;have k4:Kp [rl] H (upd H3 rl (.lst [])):=fun b o hb e=>by rw[ah (by simpa using hb)];show s3 _ _ e
  have b4:upd H3 rl (.lst []) kl=!.lst (nV ns):=by rw[ah nk];show b3
  generalize upd H3 rl (.lst [])=H4 at k4 b4 ⊢;left;simp only[bB,b4];rw[show cR (nV ns) 0=some (.int (r0:Int)) from en (j:=0) (by rw[e1];rfl)];show Nm k4 nj fun lW d2 ku H5 s5 g1 g2=>#[lW,d2,_,-ku,rfl,g1,rfl,?_];show fT.same (K:=K) (neg:=false) (Q:=Q) (.inl #[aB.of g2,aB.of (s5 _ _ b4)]) (vk _) (q _ (k4.trans (Kp.of s5)))
def  Tc(CH CS CT:Addr):Sp:=g9 fun x z H Q _=>X3 fun A L M=>A9 (aH CH CS CT H A L M) (A.a=x) (z.length<=1000) (fS (.str z)=true) (M.ro.length<=30) (M.st.length<=30) (aG (sD M.ro) (.inr z)=none) (aG (sD M.st) (.inr z)=none) (∀ H',aH CH CS CT H' A L { M with ro:=M.ro++[(z,0)],st:=M.st++[(z,0)] }->Kp [A.a,A.ro,A.st] H H'->Q .ao H')
def Zc:T.vc.k P w mg base 3 (Tc T.aJ T.aP T.aV):=by
 show T.vc.F.ok abj (fun _ _ _ _ h=>dH h fun _ _ _=>rfl) fun ax A _ s H vs Q E hr h=>dH h fun x z h=>?_;let⟨AA,L,M,i,rfl,me,hn,df,hsl,nj,hs0,q⟩:=h;show#[_,((al (bj (zV<$>T.iQ (aa (ad 1) ae)))
 (al (aX (CY (eC hr) (ad 1) (am T.aK T.vj (ad 0))) (aj gp) ce)
 (aj (bj (Mj<*T.ox (ad 0) (aa (ad 1) ae))))))).h,?_]
 exists 0;right;show#[#[_,rfl],me,hn,fun H1 s1=>?_];have i1:=i.same s1;let⟨fs,c,hx,aS,sf⟩:=i1.h;have nd:=i1.nd;rw[Db]at nd;have Fp:=nd.1;simp only[Ad.w,Gc,lv,sK,AT,_y]at Fp;right;show#[AA.a,_,_,-AA.ro,rfl,hx,(sf _).trans rfl,AA.ro,_,rfl,dN.k (k:=.inr z) i1.ro,?_];rw[nj];show bb ?_;left;show(mI hx sf #[AA.dx,fs,c,AA.ro,AA.st,_,_,hx,aS,(sf _).trans rfl,(sf _).trans rfl,(sf _).trans rfl,(sf _).trans rfl,(sf _).trans rfl,(sf _).trans rfl,i1.ro,by unfold sD;rw[pi];omega,i1.st,by unfold sD;rw[pi];omega,Fp.2.2.2.1.1,?_]);intro fs' c' H' hx' hfl' sf' hro' hst' fr';have e1:putK (sD M.ro) (.inr z) (.int 0)=sD (M.ro++[(z,0)]):=Dd nj;have e2:putK (sD M.st) (.inr z) (.int 0)=sD (M.st++[(z,0)]):=Dd hs0;rw[e1]at hro';rw[e2]at hst';have kp:Kp [AA.a,AA.ro,AA.st] H1 H':=fun b o hb e=>by
  simp only[lv,sK,AT,_y]at hb;rw[fr' b hb.1 hb.2.1 hb.2.2];show e
 have vQ:∀ b∈[AA.t,AA.ml,AA.tr,AA.ov,AA.un],b ∉ [AA.a,AA.ro,AA.st]:=by
  intro b hb hm;simp only[lv,sK,AT]at hb hm;let⟨⟨a1,a2,a3,a4,a5,a6,a7⟩,⟨b1,b2,b3,b4,b5,b6⟩,⟨c1,c2,c3,c4,c5⟩,⟨d1,d2,d3,d4⟩,⟨f1,f2,f3⟩,_⟩:=Fp;rcases hb with rfl | rfl | rfl | rfl | rfl <;> rcases hm with h | h | h <;> first
   | show a1 h.symm | show a2 h.symm | show a5 h.symm | show a6 h.symm | show a7 h.symm
   | show b2 h | show b3 h | show c1' h | show c1 h | show c2 h | show c3 h
   | show d2 h.symm | show d3 h.symm | show d4 h.symm | show f1 h.symm | show f2 h.symm | show f3 h.symm | show b1 h | show b4 h
 show q H' #[#[fs',c',hx',hfl',fun f=>?_],?_,kp _ _ (vQ _ ()) i1.ml,i1.len,fun j t e=>?_,hro',hst',kp _ _ (vQ _ ()) i1.tr,kp _ _ (vQ _ ()) i1.ov,kp _ _ (vQ _ ()) i1.un,i1.nd] (fun b o hb e=>kp b o hb (s1 b o e))
 ·rw[sf' f,eO,sf f];by_cases e:f = "changes"
  ·rw[At e,e];rfl
  ·rw[wT e];show ZM e
 ·let⟨gs,d,e,r⟩:=i1.t;show#[gs,d,kp _ _ (vQ _ ()) e,r]
 ·let⟨a,e1,h1⟩:=i1.th j t e;show#[a,e1,h1.keep kp fun b hb hm=>?_];have:=i1.uZ e1;simp only[lv,sK,AT]at hm;rcases hm with rfl | rfl | rfl
  ·show this _ (by simp[Ad.w]) _ hb rfl
  ·show this _ (by simp[Ad.w]) _ hb rfl
  ·show this _ (by simp[Ad.w]) _ hb rfl
def  UT(K:ν):Sp:=jo fun a k H Q _=>A3 (∃ ns:List Int,aB K H a (ns.map V.int)) (0<=k) (∀ c:Int,Q (.int c) H)
def aa4:T.pZ.k P w base 1 (UT K):=by
 show T.pZ.F.ok Zr (fun _ _ _ _ h=>cN h fun _ _ _=>rfl) fun ax A _ s H vs Q E hr h=>cN h fun a k h=>?_;let⟨⟨ns,hS⟩,hk,q⟩:=h;let⟨k,rfl⟩:=_r hk;show#[_,((al (aX (bf Ii (ad 1) (cA (Pm (K:=K) rfl) T.gz No (aa (ad 0) ae))) (aj (aN (bv (Z6 (K:=K) rfl) (ad 0) (ad 1)))) ce)
 (aj (aN bi)))).h,?_]
 exists 0;right;show#[_,hS,?_];show oy (fun hd=>?_) (fun _=>q _);have hl:k < ns.length:=by have:=_h hd;rw[pi]at this;omega
 show#[_,.int ns[k],hS,?_,q _];show jR (j:=k) ?_;rw[Da,sw hl];rfl
def Xy{d:Addr}{o:Obj}{kvs:List (Key×V)}{g:TG}{tb:TS}{D:Ends}{σ:L2.St}{H:Hp}(Pv:Nat->L2.St->Hp->Prop)(h0:Pv 0 σ H)(hd:∀ i σ H,Pv i σ H->H d=!.bX o (.dK kvs))(hs:∀ i k v p σ H,kvs[i]?=!(k,v)->Pv i σ H->H p=none->g (-p) σ (upd H p (.tup [kV k,v])) fun σ2 H2=>tb { D with nx:=Pv (i+1),ct:=Pv (i+1),bk:=D.nx } σ2 H2)(he:∀ σ H,Pv kvs.length σ H->D.nx σ H):sy (Cy d o kvs) g tb D σ H:=by
 show#[fun i m σ H=>Pv i σ H/\i<=kvs.length/\m=kvs.length - i,#[_,h0,wS _,rfl],?_];rintro i m σ H ⟨hp,hi,rfl⟩;by_cases h:i < kvs.length
 ·show .inr #[#[hd _ _ _ hp,h],Pv (i+1),fun σ' H' q=>#[kvs.length - (i+1),∅,q,h,rfl],?_];rintro x H' ⟨p,k,v,h1,rfl,h2,rfl⟩;show hs i k v p σ H h1 hp h2
 ·have e:i=kvs.length:=∅
  subst e;show .inl #[#[hd _ _ _ hp,lm _],he _ _ hp]
def OY{d:Addr}{o:Obj}{u:HO}{ts:List Str}{g:TG}{tb:TS}{D:Ends}{σ:L2.St}{H:Hp}(Pv:Nat->L2.St->Hp->Prop)(h0:Pv 0 σ H)(hd:∀ i σ H,Pv i σ H->H d=!.bX o u)(hs:∀ i t σ H,ts[i]?=!t->Pv i σ H->g (.str t) σ H fun σ2 H2=>tb { D with nx:=Pv (i+1),ct:=Pv (i+1),bk:=D.nx } σ2 H2)(he:∀ σ H,Pv ts.length σ H->D.nx σ H):sy (Cq d o u ts) g tb D σ H:=by
 show#[fun i m σ H=>Pv i σ H/\i<=ts.length/\m=ts.length - i,#[_,h0,wS _,rfl],?_];rintro i m σ H ⟨hp,hi,rfl⟩;by_cases h:i < ts.length
 ·show .inr #[#[hd _ _ _ hp,h],Pv (i+1),fun σ' H' q=>#[ts.length - (i+1),∅,q,h,rfl],?_];rintro x H' ⟨rfl,t,h1,rfl⟩;show hs i t σ _ h1 hp
 ·have e:i=ts.length:=∅
  subst e;show .inl #[#[hd _ _ _ hp,lm _],he _ _ hp]
def Rk.told{M:Hs}{fs:List (Nat×List Nat)}{L:List Ta}{z:Str}{root:Nat}(R:Rk M fs)(hL:L.length=M.ts.length)(hz:z∈AS){t:List Nat}{e:End}{ns:List Nat}(eF:cu t=true)(p:fg #[L,M,z,true,root] t e)(er:e.res=.ring ns):jk #[L,M,z,true,0] ns/\ns.length<=40:=by
 have ga:=R.a z hz;have h0:∀ {h},mW #[L,M,z,true,root] (cu t) h->root=0/\h=0:=fun {h} b=>by
  have hz:=b.z;dsimp only at hz;rw[ga.ro]at hz;obtain rfl:0=root:=jO hz;let⟨st,b2,rr,a,t,aQ,ha,ht,iT,oW,rfl⟩:=b.ex;let⟨rfl,rfl⟩:=R.g.jh iT;rcases aQ with ⟨_,rfl⟩ | ⟨e2,_⟩
  ·show#[rfl,rfl]
  ·rw[eF]at e2;cases e2
 have key:jk #[L,M,z,true,0] ns:=by
  cases p.g with
  | told b hl r =>
   rename_i y;let⟨rfl,rfl⟩:=h0 b;cases y with
   | fail y=>cases er
   | ring ns' =>
    cases er;show R7 (d:=#[L,M,z,true,0]) R.g hL ga.tr rfl R.nf r (Av ga (tE p.all))
  | found=>cases er
 show#[key,?_];let⟨q,r,ys,m,e1,_,hp,hm⟩:=key.ex;have:∀ {x y n:Nat}{xs:List Nat},cx #[L,M,z,true,0] q (fun v=>v∈ns) x xs y n->xs.length<=n:=fun {x y n xs} a=>by
  induction a with
  | one=>show wS _
  | cons _ _ ih=>rw[xL];omega
 have:=this hp;rw[e1,xL];omega
def  Cb(K:ν):Sp:=lM fun a H Q _=>A3 (∃ ns:List Int,aB K H a (ns.map V.int)) (tI H) (∀ H',Q (.bl true) H')
def  qe(K:ν)(H:Hp)(a:Addr)(ns:List Int):Prop:=(∀ J,aB K J a (ns.map V.int))\/∃ o,H a=!.bX o (.lst (ns.map V.int))
def qe.sq{H:Hp}{a:Addr}{ns:List Int}(h:qe K H a ns):aB K H a (ns.map V.int):=by
 rcases h with h | h
 ·show h H
 ·show .inl (.inr h)
def qe.kp{H H':Hp}{a:Addr}{ns:List Int}(h:qe K H a ns)(k:kT H H'):qe K H' a ns:=by
 rcases h with h | ⟨o,h⟩
 ·show .inl h
 ·show .inr #[o,k _ _ trivial h]
def  M4:Hs:={ M3 "lgw" with ts:=(M3 "lgw").ts.set 0 { kd := "folder",ow := "ann",mi := "lgw",re := "lgw",tx := "",aO:=[]++[(Tx.S [100],1)],bZ:=[] }++[#["folder","ann","lgw","lgw","",[],[(0,Tx.S [100])]]] }
def  M5:Hs:={ M4 with ts:=M4.ts.set 1 { kd := "folder",ow := "ann",mi := "lgw",re := "lgw",tx := "",aO:=[]++[(Tx.S [101],2)],bZ:=[(0,Tx.S [100])] }++[#["folder","bo","lgw","lgw","",[],[(1,Tx.S [101])]]] }
def Kz{k:Str}(h:k=("lead":Str))(h2:k=("folder":Str)):False:=by rw[h]at h2;show absurd h2 (by symm)
def BM:Gd M4:=uA.make (z := "ann") (mi := "lgw") (re := "lgw") (tx := "") (f:=0) (kd := "folder") rfl rfl (by symm) rfl (.inl rfl) (fun h=>(Kz h rfl).elim)
def Mt:∀ z∈AS,kR M4 z 0 0:=fun z hz=>#[(mr (re := "lgw") z hz).ro,(mr (re := "lgw") z hz).st,.refl,#[_,rfl,rfl],_,rfl,rfl]
def Wo:Rk M5 []:=by
 show#[BM.make (z := "bo") (mi := "lgw") (re := "lgw") (tx := "") (f:=1) (kd := "folder") rfl rfl (by symm) rfl (.inl rfl) (fun h=>(Kz h rfl).elim),fun z hz=>#[(mr (re := "lgw") z hz).ro,(mr (re := "lgw") z hz).st,.refl,#[_,rfl,rfl],_,rfl,rfl],rfl,#[_,rfl,#[rfl,rfl,rfl],?_],#[_,rfl,#[rfl,rfl,rfl],rfl,?_],#[_,rfl,#[rfl,rfl,rfl],rfl],nofun] <;> symm
def DL{M:Hs}{L:List Ta}{z:Str}{h:Nat}{t:Th}(e:M.ts[h]?=!t)(o:lT t)(b:cU M 0 h):jG #[L,M,z,true,0] h t:=#[e,o.k,(o.g z).1,b]
def  T0:Th:=#["folder","ann","lgw","lgw","",[],[]]
def  T1:Th:=#["folder","ann","lgw","lgw","",[(Tx.S [100],1)],[]]
def  T2:Th:=#["folder","ann","lgw","lgw","",[],[(0,Tx.S [100])]]
def SH{L:List Ta}{z:Str}:jG #[L,M3 "lgw",z,true,0] 0 T0:=DL rfl #[rfl,rfl,rfl] .refl
def VB{L:List Ta}{z:Str}:jG #[L,M4,z,true,0] 0 T1:=DL rfl #[rfl,rfl,rfl] .refl
def T5{L:List Ta}{z:Str}:jG #[L,M4,z,true,0] 1 T2:=DL rfl #[rfl,rfl,rfl] (.up (t:=T2) rfl rfl .refl)
def OS{fs:List (Nat×List Nat)}{i:Nat}{x:Nat×List Nat}(h:fs[i]?=!x):putK (jK (fs.take i)) (.inl ((3+i:Nat):Int)) (.str (Tx.S (cF x.1++x.2)))=jK (fs.take (i+1)):=by
 have hl:=(ss.mp h).1;have hi:(fs.take i).length=i:=by rw[Tm];omega
 unfold putK;rw[wT]
 ·unfold jK;rw[_f,h,Option.toList_some,List.zipIdx_append,Fa,hi];simp
 ·intro z;let⟨kv,hk,e⟩:=_q.mp z;let⟨⟨y,j⟩,hy,rfl⟩:=Do.mp hk;have hj:=List.mem_zipIdx_iff_getElem?.mp hy;have jE:j < i:=by have:=(ss.mp hj).1;rw[hi]at this;show this
  have e2:((3+j:Nat):Int)=((3+i:Nat):Int):=Sum.inl.inj (_h e);omega
def ZE{fs:List (Nat×List Nat)}{i:Nat}{kv:Key×V}(h:(dk fs)[i]?=!kv):∃ x,fs[i]?=!x/\kv=(.inr (Tx.S (cF x.1++x.2)),.int ((3+i:Nat):Int)):=by
 unfold dk at h;rw[Da,List.getElem?_zipIdx]at h;let⟨y,hy,rfl⟩:=Ty.mp h;let⟨x,hx,rfl⟩:=Ty.mp hy;show#[x,hx,()]
def  ldK(fs:List (Nat×List Nat)):List Str:=fs.map fun x=>Tx.S (cF x.1++x.2)
def Ut(fs:List (Nat×List Nat)):(dk fs).map (·.1)=(ldK fs).map Sum.inr:=by
 unfold dk ldK;rw[SL,SL,<- List.zipIdx_map_fst 0 fs,SL];simp
structure qh(N:Cn)(A:Ad)(L:List Ta)(M:Hs)(fd pd:Addr)(o:Obj)(fs:List (Nat×List Nat))(H:Hp):Prop where
 i:aH N.CH N.CS N.CT H A L M
 f:H fd=!.bX o (.dK (dk fs))
 p:H pd=!.dK (jK fs)
def qh.same{N:Cn}{A:Ad}{L:List Ta}{M:Hs}{fd pd:Addr}{o:Obj}{fs:List (Nat×List Nat)}{H H':Hp}(h:qh N A L M fd pd o fs H)(s:ag H H'):qh N A L M fd pd o fs H':=#[h.i.same s,s _ _ h.f,s _ _ h.p]
def ZQ:aC P w K mg base aM 17 T.wj T.yW ["_law_script"] (Cb K):=by
 show T.xW.ok lF (fun vs H Q E h=>?_) (fun ax A _ s H vs Q E hr h=>?_)
 ·show fO h fun _ _=>rfl
 ·show fO h fun a h=>?_;let⟨⟨ns,hS⟩,hO,q⟩:=h;show bS (b:=aW Dt) ((al (aR 1 lF.nd (io T.UA (WO T) hr.m T.YV T.sL.b .nil aw (aa ap ae)))
  (al (bj (Zc<*T.vc (ad 1) (aa ap ae)))
  (al (bj (f7 (Xk T) hr.m T.qW.m T.qW.F.kp T.qW.b .nil fk (aa (ad 1) (aa ap (aa ap (aa ap (aa ap ae)))))))
  (al (bj (f7 (Lr T) hr.m T.Hg T.vo.kp T.xA .nil fk (aa (ad 1) (aa ap (aa ap (aa ap (aa ap ae)))))))
  (al (bj (f7 (Lr T) hr.m T.Hg T.vo.kp T.xA .nil fk (aa (ad 1) (aa ap (aa ap (aa ap (aa ap ae)))))))
  (al (aR 2 lF.nd (YX<$>T.qB (aa (ad 1) (aa (db (aa (aa4<$>T.pZ (aa (ad 0) (aa bi ae))) ae)) ae))))
  (al (aR 3 lF.nd la)
  (al (ly FM rfl (U4 (ad 2)) (qS (K:=K) (n:=2) rfl rfl (iR (dm 4 lF.nd) (iR (dm 5 lF.nd) pR))) (aj (nM (eC hr) (ad 3) (ad 5) (ad 4))))
  (al (ly FM rfl (Xo (ad 2)) (dm 4 lF.nd) (al (ly FM rfl (iJ (K:=K) rfl (db (aa ap (aa ap (aa ap (aa (ad 4) ae)))))) (dm 6 lF.nd) (aj (aX (da (cK (IZ<$>T.kS (aa (ad 1) (aa ap (aa (cr dA (ad 4) (ad 6)) (aa (f8 jg (ad 6) ap) ae))))))) (aj (aN em)) ce)))
  (al (aX (da (cK (IZ<$>T.kS (aa (ad 1) (aa ap (aa (ad 4) (aa em ae))))))) (aj (aN em)) ce)
  (al (aR 7 lF.nd (bn (mz T) hr.m T.mw T.iL.kp T.mJ (.cons (show RelV (.bl true) _ from rfl) .nil) aw (aa (ad 1) (aa ap (aa (ad 4) ae)))))
  (aj (aX (dZ (gl (cK (cA (oz (K:=K) rfl) T.fN fR (aa (ad 7) (aa (dl (-T.dF) T.xX rfl) ae)))) (ka (da (cK (OP<$>T.qy (aa (ad 1) (aa ap (aa (ad 7) (aa (ad 3) ae)))))))))) (aj (aN em)) ce))))))
  (aj (aN em)))))))))))) ?_
  exists 7;show ck fun N hN=>?_;left;intro x dx hx mh cX;show#[#[dx,ay],by symm,by symm,fun A1 L1 H2 hA1 i2 rF jw=>#[rfl,hN _ _ (ck fun N hN=>?_)]];subst hA1;let⟨pI,gc,gh,o7,gx⟩:=i2.h;left;show(mI gh gx #[A1,L1,_,i2,rfl,by symm,by symm,⋯,⋯,by symm,by symm,fun H3 i3 k3=>hN _ _ (ck fun N hN=>?_)]);have i3':aH T.aJ T.aP T.aV H3 A1 L1 (M3 "lg"):=i3;have sc0:qe K H a ns:=by
   rcases hS with hS | hS
   ·rcases hS with hS | hS
    ·rcases hO a with z | ⟨o,xs,z⟩
     ·rw[z]at hS;cases hS
     ·rw[z]at hS;cases hS
    ·show .inr hS
   ·show .inl fun J=>.inr hS
  have inW:∀ {L:List Ta},∀ b∈[A1.a,A1.ro,A1.st],b∈A1.w++L.flatMap Ta.l:=fun b hb=>by
   simp only[lv,sK,AT]at hb;rcases hb with rfl | rfl | rfl <;> simp[Ad.w]
  have k2:kT H H2:=fun b o ho e=>jw _ _ (by rw[wn];show bt e hx) (by rw[ah (bt e hx),ah (bt e mh)];show e);have sc3:=sc0.kp (k2.trans (i2.off (by nofun) inW k3));left;have nB:("ann":Str)∈AS:=by symm
  have si:("bo":Str)∈AS:=by symm
  let⟨root,e,_,pw,_⟩:=sN (L:=L1) uA i3'.len ⋯ nB true (t:=[47]) #[⋯,⋯,by symm];let⟨ns0,he⟩:=Xj uA (mr _ nB) pw;let⟨a0,gY⟩:=adr (k:=0) i3'.len rfl;show#[A1,L1,_,root,[47],.inr 0,by symm,i3',rfl,.ok pw he gY rfl rfl,by symm,by symm,(fun y e=>by cases e),fun k a' th e ha' aU H4 i4 k4=>hN _ _ (ck fun N hN=>?_)];cases e;rw[gY]at ha';cases ha';cases aU;have sc4:=sc3.kp (i3'.off (by nofun) (fun b hb=>(by
   simp only[lv,sK,AT]at hb;rcases hb with rfl | rfl
   ·simp[Ad.w]
   ·show wE _ (js gY (by simp[Ta.l])))) k4)
  have i4':aH T.aJ T.aP T.aV H4 A1 L1 (M3 "lgw"):=i4;have M6:∀ {L:List Ta}{j:Nat}{b0:Ta},L[j]?=!b0->∀ b∈[A1.t,A1.ml,b0.nm],b∈A1.w++L.flatMap Ta.l:=fun {L j b0} h b hb=>by
   simp only[lv,sK,AT]at hb;rcases hb with rfl | rfl | rfl
   ·simp[Ad.w]
   ·simp[Ad.w]
   ·show wE _ (js h (by simp[Ta.l]))
  left;show#[A1,L1,_,[47,100],by symm,#[i4',#[⋯,⋯,by symm],by rw[(mr _ nB).ro];rfl,by symm,by symm,by rw[i4'.len];decide,fun f t0 h=>by have:=(uA.th f t0 h).nl;show tz this ⋯,0,.inr (0,[100]),B5 uA i4'.len ⋯ (mr _ nB) (q:=[]) (by symm) rfl (by symm) ⋯ nofun (.pl (zF SH) .nil) rfl (by symm) rfl,(fun x e=>by cases e),fun f' nm' b0 t0 e gO gy a5 H5 vv i5 k5=>hN _ _ (ck fun N hN=>?_)],rfl];cases e;cases gy;have sc5:=sc4.kp (i4'.off (by nofun) (M6 gO) k5);have i5':aH T.aJ T.aP T.aV H5 A1 (L1++[a5]) M4:=i5;left;show#[A1,_,_,[47,100,47,101],by symm,#[i5',#[⋯,⋯,by symm],by rw[(Mt _ si).ro];rfl,by symm,by symm,by rw[i5'.len];decide,fun f t0 h=>by have:=(BM.th f t0 h).nl;show tz this ⋯,0,.inr (1,[101]),B5 BM i5'.len ⋯ (Mt _ si) (q:=[[100]]) (by symm) rfl (by symm) ⋯ (by symm) (.pl (DY VB (by symm) (by symm) (tc:=T2) rfl rfl) (.pl (zF T5) .nil)) (tf:=T2) rfl (by symm) rfl,(fun x e=>by cases e),fun f' nm' b0 t0 e gO gy a6 H6 fr6 i6 k6=>hN _ _ (ck fun N hN=>?_)],rfl];cases e;cases gy;have sc6:=sc5.kp (i5'.off (by nofun) (M6 gO) k6);have i6':aH T.aJ T.aP T.aV H6 A1 (L1++[a5]++[a6]) M5:=i6;clear i6 i5 i5' i4 i4' i3 i3' i2 k6 k5 k4 k3 k2;generalize L1++[a5]++[a6]=L6 at i6';left;show#[#[ns,sc6.sq],⋯,fun c=>#[fits (),fun st aQ=>?_]];have s7:=ag.upd (o:=.lst [V.int c]) aQ;have d7:Dr st (upd H6 st (.lst [V.int c])):=#[[c],ay,.inl rfl];generalize upd H6 st (.lst [V.int c])=H7 at s7 d7 ⊢;show#[A1,L6,M5,i6'.same s7,rfl,Wo,d7,fun fd L8 M8 fs H8 i8 R8 fc b8 nF=>hN _ _ (ck fun N hN=>?_)];left;intro pd r6;show hN _ _ (ck fun N hN=>?_);have s9:=ag.upd (o:=.dK []) r6;have p9:upd H8 pd (.dK []) pd=!.dK (jK (fs.take 0)):=ay;have i9:=i8.same s9;have b9:=s9 _ _ b8;have nP:pd ∉ A1.w++L8.flatMap Ta.l:=fun z=>by
   let⟨o,e⟩:=i8.some pd z;rw[r6]at e;cases e
  have Fz:fd≠pd:=bt b8 r6;generalize upd H8 pd (.dK [])=H9 at s9 p9 i9 b9 ⊢;left;show#[fd,_,rfl,.inl b9,fun o=>?_];have vF:aH T.aJ T.aP T.aV (upd H9 fd (.bX o (.dK (dk fs)))) A1 L8 M8:=i9.keep (W:=[fd]) (fun b u hb e=>by rw[ah (by simpa using hb)];show e) fun b hb hm=>nF (wn.mp hm ▸ hb);have ES:upd H9 fd (.bX o (.dK (dk fs))) fd=!.bX o (.dK (dk fs)):=ay;have iX:upd H9 fd (.bX o (.dK (dk fs))) pd=!.dK (jK (fs.take 0)):=by rw[ah (ut Fz)];show p9
  generalize upd H9 fd (.bX o (.dK (dk fs)))=y1 at vF ES iX ⊢;have hlD:(dk fs).length=fs.length:=by unfold dk;rw[pi,Jar]
  show Xy (fun i σ' H'=>aH T.aJ T.aP T.aV H' A1 L8 M8/\H' fd=!.bX o (.dK (dk fs))/\H' pd=!.dK (jK (fs.take i))/\∃ t1 t2,σ'=[!V.ref a,!V.ref A1.a,!V.ref fd,!V.ref pd,t1,t2,none,none]) #[vF,ES,iX,_,_,rfl] (fun i σ' H' h=>h.2.1) ?_ ?_
  ·rintro i k v p σ' jA hkv ⟨zq,ze,gX,t1,t2,rfl⟩ hp;let⟨x,hx,e⟩:=ZE hkv;cases e;have oX:=ag.upd (o:=.tup [V.str (Tx.S (cF x.1++x.2)),V.int ((3+i:Nat):Int)]) hp;have Og:upd jA p (.tup [V.str (Tx.S (cF x.1++x.2)),V.int ((3+i:Nat):Int)]) p=!.tup [V.str (Tx.S (cF x.1++x.2)),V.int ((3+i:Nat):Int)]:=ay;change xM _ _ _ _ _ (upd jA p (.tup [V.str (Tx.S (cF x.1++x.2)),V.int ((3+i:Nat):Int)])) _;generalize upd jA p (.tup [V.str (Tx.S (cF x.1++x.2)),V.int ((3+i:Nat):Int)])=H12 at oX Og ⊢;left;have pb:=oX _ _ gX;show#[p,_,rfl,bE.of Og,rfl,_,_,rfl,_,_,rfl,rfl,pd,_,rfl,hV.k (k:=.inl ((3+i:Nat):Int)) pb ?_,?_,?_,?_,_,_,rfl]
   ·show SZ (m:=7) ?_ ⋯;unfold jK;rw[pi,Jar];show tz (List.length_take_le' _ _) fc
   ·show(zq.same oX).keep (W:=[pd]) (fun b u hb e=>by rw[ah (by simpa using hb)];show e) fun b hb hm=>nP (wn.mp hm ▸ hb)
   ·rw[ah Fz];show oX _ _ ze
   ·rw[ay,OS hx]
  ·rintro σ' jA ⟨zq,ze,gX,t1,t2,rfl⟩;rw[hlD,List.take_length]at gX;have zb:qh T.cn A1 L8 M8 fd pd o fs jA:=#[zq,ze,gX];clear zq ze gX vF ES iX;show hN _ _ (ck fun N hN=>?_);left;show#[fd,_,ldK fs,rfl,.inr #[_,zb.f],Ut fs,fun o2=>?_];have vY:qh T.cn A1 L8 M8 fd pd o2 fs (upd jA fd (.bX o2 (.dK (dk fs)))):=#[zb.i.keep (W:=[fd]) (fun b u hb e=>by rw[ah (by simpa using hb)];show e) fun b hb hm=>nF (wn.mp hm ▸ hb),ay,by rw[ah (ut Fz)];show zb.p];generalize upd jA fd (.bX o2 (.dK (dk fs)))=H12 at vY ⊢;have hM8:M8.ts.length<=10:=by rw[R8.len];show Jag fc 3
   have Fy:M8.ts.length<=90:=tz hM8 ⋯;show OY (fun i σ' H'=>qh T.cn A1 L8 M8 fd pd o2 fs H'/\∃ t4 t5 t6 t7,σ'=[!V.ref a,!V.ref A1.a,!V.ref fd,!V.ref pd,t4,t5,t6,t7]) #[vY,_,_,_,_,rfl] (fun i σ' H' h=>h.1.f) ?_ (fun σ' H' h=>hN _ _ ?_)
   ·rintro i t σ' H13 ht ⟨sd,t4,t5,t6,t7,rfl⟩;unfold ldK at ht;rw[Da]at ht;let⟨⟨f,nm⟩,hx,rfl⟩:=Ty.mp ht;let⟨hf,bK,_⟩:=R8.le i f nm hx;have kx:=DO f bK;have bx:=xB f;have zd:(cF f++nm).length<=13:=by rw[mo];show w9 bx.1 (fj bK).2.2.2 ⋯
    let⟨r0,nj⟩:∃ r0,cF f++nm=47::r0:=by
     match f with
     | 0=>show#[_,rfl]
     | 1=>show#[_,rfl]
     | _+2=>show#[_,rfl]
    show ck fun N2 pk=>?_;left;show#[fits (),fun l hl=>?_];show cI hl fun H14 MU c14=>?_;show#[#[_,aB.of c14],qR (xs:=[V.str "",V.str "/d",V.str "//.",V.str (Tx.S (cF f++nm))]) (fun j σ' H'=>ag H14 H'/\∃ t6,σ'=[!V.ref a,!V.ref A1.a,!V.ref fd,!V.ref pd,!V.str (Tx.S (cF f++nm)),t5,t6,t7]) #[ag.refl _,_,rfl] (fun j σ' H' _ h=>aB.of (h.1 _ _ c14)) ?_ (fun σ' H' h=>pk _ _ ?_)]
    ·rintro j x σ' H15 hxj ⟨iW,t6,rfl⟩;let⟨tl,zo,hlen,rfl⟩:∃ tl,(tl=[]\/∃ r,tl=47::r/\(Tx.words 47 r).all cq=true)/\tl.length<=20/\x=V.str (Tx.S tl):=by
      have hm:=Go hxj;simp only[lv,sK,AT]at hm;rcases hm with rfl | rfl | rfl | rfl
      ·show#[[],.inl rfl,⋯,by symm]
      ·show#[[47,100],.inr #[[100],rfl,by symm],⋯,by symm]
      ·show#[[47,47,46],.inr #[[47,46],rfl,by symm],⋯,by symm]
      ·show#[_,.inr #[r0,nj,by have:=kx.all;rw[nj,Tx.Ku]at this;show this],tz zd ⋯,rfl]
     have i15:=(sd.same (MU.trans iW)).i;left;let⟨z1,z2⟩:=Up (n:=33) kx.l1 zd hlen ⋯;show#[uJ zd hlen ⋯,?_];rw[Tx.uB];show#[A1,L8,M8,_,rfl,i15,rfl,nB,R8.g,Fy,#[z1,tz z2 ⋯,?_],tz z2 ⋯,fun H16 s16=>bI rfl #[iW.trans s16,_,rfl]];rcases zo with rfl | ⟨r,rfl,hr⟩
     ·rw[FB];show kx.all
     ·rw[Tx.qC,_T,kx.all,hr];rfl
    ·let⟨iW,t6,rfl⟩:=h;have NI:=sd.same (MU.trans iW);show ck fun N3 vz=>?_;left;show#[A1,L8,M8,_,rfl,NI.i,rfl,si,R8.g,Fy,kx,tz zd ⋯,fun H16 s16=>bI rfl (vz _ _ (ck fun N4 vJ=>?_))];have zg:=NI.same s16;let⟨root,e,_,pw,_⟩:=sN (L:=L8) R8.g zg.i.len Fy si true kx;left;show#[A1,L8,M8,root,_,e,rfl,zg.i,rfl,pw,fun lW H17 s17 ht=>vJ _ _ ?_];have kC:=zg.same s17;left;cases her:e.res with
     | found k ns' =>
      rw[her]at ht;let⟨d2,g1⟩:=ht;show#[_,_,_,.of (.ins g1 T.jl T.q1 T.q2 T.q3 T.q4),.cls T.kJ,bI rfl (bI rfl #[kC,_,_,_,_,rfl])]
     | failed k y =>
      rw[her]at ht;let⟨d2,g1⟩:=ht;show#[_,_,_,.of (.ins g1 T.jS T.q6 T.q2 T.q3 T.q7),.cls T.Gu,bI rfl (bI rfl #[kC,_,_,_,_,rfl])]
     | ring ns' =>
      rw[her]at ht;let⟨d2,rl,g1,g2,_⟩:=ht;let⟨ro,eI⟩:=R8.told zg.i.len si (z0 f nm) pw her;show#[_,_,_,.of (.ins g1 T.g8 T.oh T.q2 T.q3 T.n9),.cls T.Ap,cv rfl #[A1,L8,M8,fs,ns',d2,rl,kC.i,rfl,R8,si,g1,g2,ro,eI,kC.p,fun H18 k18=>bI rfl #[#[?_,?_,?_],_,_,_,_,rfl]]]
      ·show kC.i.keep k18 fun b hb hm=>kC.i.xv R8.g.ne hb (HH ns') (wn.mp hm ▸ g2)
      ·show k18 _ _ (by rw[wn];show cT kC.f g2 (by nofun)) kC.f
      ·show k18 _ _ (by rw[wn];show cT kC.p g2 (by nofun)) kC.p
   ·let⟨_,t4,t5,t6,t7,rfl⟩:=h;left;show q _
end
def Sg{K:ν}{a:Addr}{od:Option Addr}{tk:Nat}{sl:Array (Option Value)}{t0 t1:Tok}(l:K.lookup a=!#[.type "tuple",od,.seq ([.str "." t0,.str ".." t1]:List Value).toArray tk,sl])(H:Hp):bE K H a [.str ".",.str ".."]:=.inr #[_,_,_,l,rfl,rfl,fits (),(.cons #[_,rfl] (.cons #[_,rfl] .nil))]
def WW{K:ν}{a:Addr}{od:Option Addr}{tk:Nat}{sl:Array (Option Value)}{t0 t1 t2 t3 t4 t5 t6 t7:Tok}(l:K.lookup a=!#[.type "tuple",od,.seq ([.str "" t0,.str "l" t1,.str "g" t2,.str "w" t3,.str "lg" t4,.str "lw" t5,.str "gw" t6,.str "lgw" t7]:List Value).toArray tk,sl])(H:Hp):bE K H a [.str "",.str "l",.str "g",.str "w",.str "lg",.str "lw",.str "gw",.str "lgw"]:=.inr #[_,_,_,l,rfl,rfl,fits (),(.cons #[_,rfl] (.cons #[_,rfl] (.cons #[_,rfl] (.cons #[_,rfl] (.cons #[_,rfl] (.cons #[_,rfl] (.cons #[_,rfl] (.cons #[_,rfl] .nil))))))))]
def YE{K:ν}{a:Addr}{od:Option Addr}{tk:Nat}{sl:Array (Option Value)}{t0 t1 t2:Tok}(l:K.lookup a=!#[.type "tuple",od,.seq ([.str "l" t0,.str "g" t1,.str "w" t2]:List Value).toArray tk,sl])(H:Hp):bE K H a [.str "l",.str "g",.str "w"]:=.inr #[_,_,_,l,rfl,rfl,fits (),(.cons #[_,rfl] (.cons #[_,rfl] (.cons #[_,rfl] .nil)))]
def V6{K:ν}{H:Hp}{a:Addr}{ns:List Int}(hO:tI H)(hS:aB K H a (ns.map V.int)):Cb K [-a] H (fun v _=>v=.bl true) fun _ _ _=>False:=#[#[ns,hS],hO,fun _=>rfl]
def walk{l:W.OpenLaw}{q:Program}{loose:List Str}{XP:(Str->Option Value)->Heap->Prop}{YP:World->Heap->Prop}{d:DefRec}{K:Params->ν}(hn:l.most=!63)(vp:d.params.defaults=[])(rX:d.name = "law")(hY:∀ (w:World) (h:Heap),YP w h->(K w.params).In h)(F:∀ (w:World) (mg:Str->Option Value) (h:Heap),(K w.params).In h->h.Ns mainGlobals mg->∃ T:Tx (K w.params) mg,T.wj=T.wj) :
  W.WalkO q loose XP YP l.row.toRowW d [] (fun f vs=>PySem.call f vs) :=
 L2.Wa (n:=63) (k:=17) (x := "_law_script") (CX:=fun _=>aM) (sp:=fun w=>Cb (K w.params)) hn ⋯ vp #[rfl,⋯,⋯] hY
  (fun w mg fa h KX G hfa=>by
   let⟨T,_⟩:=F w mg h KX G;rw[rX]at hfa;have e:=hfa.symm.trans T.Zh;cases e;show#[T.yW,fun s u=>by let⟨oc,od,kV,doc,pm,an,ax,ct,ei,e,_⟩:=T.xW.ex;rw[e];show .of_eq rfl,fun base _ _=>ZQ T])
  (fun _ _ a ns _ hO hS=>V6 hO hS) fun _ _ _ _ _ z=>z
end L2.bW

end
local macro_rules | `(#[$xs,*]) => `(⟨$xs,*⟩)
open PySem PySem.W PyProof.Rows
local macro_rules | `(tactic| walk_at "fa")=>`(tactic| (refine' L2.FA.mk ?n ?l ?c ?k;(case n=>k_is);(case l=>k_is);(case c=>k_is);(case k=>k_is)))
local macro_rules | `(tactic| walk_at "ma")=>`(tactic| (refine' L2.MA.mk ?n ?l ?c ?k ?t;(case n=>k_is);(case l=>k_is);(case c=>k_is);(case k=>k_is);(case t=>k_is)))
local macro_rules | `(tactic| walk_at "ar")=>`(tactic| (intro _ _ _ _ _ _;first | (refine L2.Iu ?_;exact fun _=>rfl) | (refine L2.Kw ?_;exact fun _ _=>rfl) | (refine L2.sQ ?_;exact fun _ _ _=>rfl) | (refine L2.tF ?_;exact fun _ _ _ _=>rfl) | (refine L2.Ec ?_;exact fun _ _ _ _ _=>rfl) | (refine L2.J6 ?_;exact fun _ _ _ _ _ _=>rfl) | (refine L2.OM ?_;exact fun _ _ _ _ _ _ _=>rfl) | (refine L2.F5 ?_;exact rfl)))
local macro_rules | `(tactic| walk_at "mg")=>`(tactic| (refine' PySem.W.mg_of (by assumption) (by assumption) ?n;(case n=>k_is)))
local macro_rules | `(tactic| walk_at "mn")=>`(tactic| (refine' PySem.W.mg_none_of (by assumption) (by assumption) ?n;(case n=>k_is)))
local macro_rules | `(tactic| walk_at "ft")=>`(tactic| (refine' Classical.choice (L2.FA.gt (by assumption) (by assumption) ?b ?a);(case a=>walk_at "fa");(case b=>walk_at "ar")))
local macro_rules | `(tactic| walk_at "mt")=>`(tactic| (refine' Classical.choice (L2.MA.gt ?b ?a);(case a=>walk_at "ma");(case b=>walk_at "ar")))
local macro_rules | `(tactic| walk_at "mk")=>`(tactic| (refine' L2.Xm ?a ?b;(case a=>k_is);(case b=>k_is)))
local macro_rules | `(tactic| walk_at "xf")=>`(tactic| (refine' L2.TV ?a ?b ?c ?d ?e ?f ?g;(case a=>kernel_rfl);(case b=>k_is);(case c=>k_is);(case d=>k_is);(case e=>k_is);(case f=>k_is);(case g=>k_is)))
local macro_rules | `(tactic| walk_at "cl")=>`(tactic| (refine' L2.cZ.mk ?a ?b ?c ?d;(case a=>k_is);(case b=>k_is);(case c=>k_is);(case d=>k_is)))
local macro_rules | `(tactic| walk_at "fu")=>`(tactic| (refine' L2.DW ?l ?c ?k;(case l=>k_is);(case c=>k_is);(case k=>k_is)))
local macro_rules | `(tactic| walk_at "fd")=>`(tactic| (refine' L2.O6 ?l ?c ?k ?d ?h;(case l=>k_is);(case c=>k_is);(case k=>k_is);(case d=>k_is);(case h=>exact rfl)))
set_option maxRecDepth 100000 in
set_option maxHeartbeats 0 in
theorem PySem.Challenge.cw_leadnames_k34_rings_of_leads_holds : PySem.Challenge.rw_leadnames_k34_rings_of_leads.Holds := by
 refine L2.bW.hd0 ?_;unfold L2.bW.fw
 k_fill
 refine L2.bW.walk (l:=PySem.Challenge.rw_leadnames_k34_rings_of_leads) rfl rfl rfl (fun w h Y=>W.kIn_of (e:=fun _=>by kernel_rfl) Y) ?F
 case F =>
  intro w mg h KX G;refine' #[L2.bW.Tx.mk ?_ ?_ ?_ ?_ ?_ ?_ ?_ ?_ ?_ ?_ ?_ ?_ ?_ ?_ ?_ ?_ ?_ ?iL ?_ ?z6 ?mJ ?tS ?_ ?xP ?HD ?_ ?_ ?_ ?_ ?_ ?_ ?_ ?_ ?_ ?_ ?vo ?_ ?xA ?KO ?HX ?_ ?_ ?_ ?_ ?_ ?_ ?_ ?_ ?_ ?_ ?_ ?_ ?_ ?_ ?_ ?_ ?_ ?_ ?_ ?xW ?_ ?KD ?_ ?B1 ?_ ?_ ?_ ?_ ?_ ?_ ?_ ?_ ?_ ?_ ?_ ?_ ?_ ?_ ?_ ?_ ?_ ?_ ?Bb ?_ ?_ ?CJ ?_ ?_ ?_ ?_ ?_ ?_ ?_ ?_ ?_ ?_ ?_ ?_ ?_ ?_ ?_ ?_ ?_ ?_ ?_ ?_ ?_ ?_ ?_ ?_ ?_ ?_ ?_ ?_ ?_ ?_ ?_ ?_ ?_ ?_ ?_ ?_ ?_ ?_ ?_ ?_ ?_ ?_ ?_ ?_ ?_ ?_ ?_ ?_ ?_ ?_ ?_ ?_ ?_ ?_ ?_ ?_ ?_ ?_ ?_ ?_ ?_ ?_ ?_ ?_ ?_ ?_ ?_ ?_ ?_ ?_ ?_ ?_ ?_ ?_ ?_ ?_ ?_ ?_ ?_ ?_ ?_ ?_ ?_ ?_ ?_ ?_ ?_ ?_ ?_ ?_ ?_ ?_ ?_ ?_ ?_ ?_ ?_ ?_ ?_ ?_ ?_ ?_ ?_ ?_ ?_ ?_ ?_ ?_ ?_ ?_ ?_ ?_ ?_ ?_ ?_ ?_ ?_ ?_ ?_ ?_ ?_ ?_ ?_ ?_ ?_ ?_ ?_ ?_ ?_ ?_ ?_ ?_ ?_ ?_ ?_ ?_ ?_ ?_ ?_ ?_ ?_ ?_ ?_ ?_ ?_ ?_ ?_ ?_,rfl]

  all_goals try (first | walk_at "mg" | walk_at "ft" | walk_at "mt" | k_is | (show W.findIn _ _ _=some none;k_is) | walk_at "mn" | kit_is | k_exc | walk_at "mk" | walk_at "cl" | walk_at "xf" | exact rfl | kernel_rfl)
  (case B1=>(refine' L2.bW.Sg ?l_DOTS;(case l_DOTS=>k_is)))
  (case Bb=>(refine' L2.bW.WW ?l_RIGHTS;(case l_RIGHTS=>k_is)))
  (case CJ=>(refine' L2.bW.YE ?l_SINGLE_RIGHTS;(case l_SINGLE_RIGHTS=>k_is)))
  (case iL=>walk_at "fd")
  (case z6=>exact L2.nS (x := "walk") (y := "walk") (st:=L2.bW.vn) (ds:=[.bool true]) 1 (by k_is) (by exact rfl) (fun _ _ _ _ _ _ _ us hl=>by (have e:us.length=4:=(by have h:=hl;rw[List.length_append]at h;simp at h;omega));clear hl;revert us;refine L2.tF ?_;exact fun _ _ _ _=>#[_,rfl,rfl]))
  (case mJ=>exact L2.nS (x := "walk") (y := "walk") (st:=L2.bW.vn) (ds:=[.bool true]) 0 (by k_is) (by exact rfl) (fun _ _ _ _ _ _ _ us hl=>by (have e:us.length=3:=(by have h:=hl;rw[List.length_append]at h;simp at h;omega));clear hl;revert us;refine L2.sQ ?_;exact fun _ _ _=>#[_,rfl,rfl]))
  (case tS=>walk_at "fd")
  (case xP=>exact L2.nS (x := "asked_of") (y := "asked_of") (st:=L2.bW.va) (ds:=[.bool true]) 1 (by k_is) (by exact rfl) (fun _ _ _ _ _ _ _ us hl=>by (have e:us.length=4:=(by have h:=hl;rw[List.length_append]at h;simp at h;omega));clear hl;revert us;refine L2.tF ?_;exact fun _ _ _ _=>#[_,rfl,rfl]))
  (case HD=>exact L2.nS (x := "asked_of") (y := "asked_of") (st:=L2.bW.va) (ds:=[.bool true]) 0 (by k_is) (by exact rfl) (fun _ _ _ _ _ _ _ us hl=>by (have e:us.length=3:=(by have h:=hl;rw[List.length_append]at h;simp at h;omega));clear hl;revert us;refine L2.sQ ?_;exact fun _ _ _=>#[_,rfl,rfl]))
  (case vo=>walk_at "fd")
  (case xA=>exact L2.nS (x := "make_folder") (y := "make_folder") (st:=L2.bW.qE) (ds:=[.str "lgw" _,.str "" _]) 2 (by k_is) (by exact rfl) (fun _ _ _ _ _ _ _ us hl=>by (have e:us.length=5:=(by have h:=hl;rw[List.length_append]at h;simp at h;omega));clear hl;revert us;refine L2.Ec ?_;exact fun _ _ _ _ _=>#[_,rfl,rfl]))
  (case KO=>exact L2.nS (x := "make_folder") (y := "make_folder") (st:=L2.bW.qE) (ds:=[.str "lgw" _,.str "" _]) 1 (by k_is) (by exact rfl) (fun _ _ _ _ _ _ _ us hl=>by (have e:us.length=4:=(by have h:=hl;rw[List.length_append]at h;simp at h;omega));clear hl;revert us;refine L2.tF ?_;exact fun _ _ _ _=>#[_,rfl,rfl]))
  (case HX=>exact L2.nS (x := "make_folder") (y := "make_folder") (st:=L2.bW.qE) (ds:=[.str "lgw" _,.str "" _]) 0 (by k_is) (by exact rfl) (fun _ _ _ _ _ _ _ us hl=>by (have e:us.length=3:=(by have h:=hl;rw[List.length_append]at h;simp at h;omega));clear hl;revert us;refine L2.sQ ?_;exact fun _ _ _=>#[_,rfl,rfl]))
  (case xW=>walk_at "fu")
  (case KD=>exact L2.Binds.all (fun us hl=>match us,hl with | [_],_=>rfl))
  all_goals try (first | walk_at "mg" | walk_at "ft" | walk_at "mt" | k_is | (show W.findIn _ _ _=some none;k_is) | walk_at "mn" | kit_is | k_exc | walk_at "mk" | walk_at "cl" | walk_at "xf" | exact rfl | kernel_rfl)

