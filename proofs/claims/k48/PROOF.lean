import PyProof.Rows.All
import Wide.All
import OpenK.AllK
import Wide.FinOn
import Lean
import PyProof.EqAt
import PyProof.EqKinds
import PyProof.TupleCall
import PyProof.NsDelKeeps
import PyProof.InstStoreFacts
import KE.KLam
import KE.KRevIter
import PyProof.ZipIter
import KE.KUnpack
import PyProof.Conv_int_bool
import PyProof.CallStr
import KE.KRevSl
import PyProof.NeKinds
import PyProof.AttrMissHeap
import KE.KDictOf
import PySem.Challenge.RW_leadnames_k48_at_each_door
set_option Elab.async false
set_option linter.all false
set_option maxRecDepth 100000
namespace L2
open PySem PySem.W
def qy (tb:String->Option Builtin) (p:Program) (w:World) (n₀:Nat) (ann:Option Value):Nat->SharedT->Thread->Option SharedT
 | 0,_,_=>none
 | n+1,s,t=>match through t with
  | true=>some s
  | false=>match stepOk n₀ ann t with
   | false=>none
   | true=>match stepT (denote tb) p w s t with
    | some (s',t')=>qy tb p w n₀ ann n s' t'
    | none=>none
theorem FQ {tb:String->Option Builtin} {p:Program} {w:World} {n₀:Nat} {ann:Option Value}:∀ {n:Nat} {s s':SharedT} {t:Thread},qy tb p w n₀ ann n s t=some s'->topRun tb p w n₀ ann n s.abs t=some s'.abs
 | 0,_,_,_,h=>by cases h
 | n+1,s,s',t,h=>by
  unfold qy at h;unfold topRun;cases he:through t with
  | true=>rw [he] at h; cases h; rfl
  | false =>
   rw [he] at h;cases hk:stepOk n₀ ann t with
   | false=>rw [hk] at h; cases h
   | true =>
    rw [hk] at h;cases hs:stepT (denote tb) p w s t with
    | none=>rw [hs] at h; cases h
    | some r=>obtain ⟨s₂,t₂⟩:=r; rw [hs] at h; rw [stepT_spec hs]; exact FQ h
def treeOf:List Obj->Nat->BT->BT
 | [],_,t=>t
 | o::r,n,t=>treeOf r (n+1) (t.ins n o)
theorem LeftO.V4 {p q:Program} {loose:List Str} {Xt:Shared->Bool} {α:Type} {Yf:Shared->α} {Ya:World->α} {N:Nat} {g0:Bool} {H₀:Params->Heap} {T₀:Params->BT} {n₀:Nat} {life:Life} {m7:Array GenState} {d₀:Drawn} {k₀:Nat} {ann:Option Value}
  (DY:∀ w:World,(fencedOpening treeTable p w N).map (fun s=>(s.heap,s.gens,s.drawn,s.toks))=some (H₀ w.params,m7,d₀,k₀))
  (tr:∀ P:Params,absHeap (T₀ P) n₀ life=H₀ P)
  (size:∀ P:Params,((H₀ P).isNs mainGlobals && m7.size == 0,(H₀ P).objs.size,(H₀ P).nsMap mainGlobals "__annotations__")=(true,n₀,ann))
  (run:∀ (w:World) (os:OsState),(qy treeTable p w n₀ ann N ⟨T₀ w.params,n₀,life,m7,d₀,k₀,os⟩ (topStub p)).map (fun s=>((staticsOk (importedModules p.main.body) (H₀ w.params) s.abs.heap && namesBound p s.abs.heap && gensDone s.abs && laidKept (H₀ w.params) s.abs.heap),
    openSeen q loose (importedModules p.main.body) Xt g0 s.abs,Yf s.abs))=some (true,openGood q loose,Ya w)):LeftO p q loose Xt Yf Ya N g0:=fun w=>by
 obtain ⟨⟨h,gs,d,k,os⟩,e,e'⟩:=Option.map_eq_some_iff.mp (DY w);obtain ⟨rfl,rfl,rfl,rfl⟩:h=H₀ w.params/\gs=m7/\d=d₀/\k=k₀:=by simpa using e'
 obtain ⟨z1,z2,z3⟩:_/\_/\_:=by simpa only [Prod.mk.injEq] using size w.params
 obtain ⟨s₁,r1,r2⟩:=Option.map_eq_some_iff.mp (run w os);obtain ⟨l1,l2,l3⟩:_/\_/\_:=by simpa only [Prod.mk.injEq] using r2
 have r:=FQ r1;have ea:SharedT.abs ⟨T₀ w.params,n₀,life,gs,d,k,os⟩=⟨H₀ w.params,gs,d,k,os⟩:=by
  unfold SharedT.abs;rw [tr]
 rw [ea] at r;have t:topFrom treeTable p w N ⟨H₀ w.params,gs,d,k,os⟩=some s₁.abs:=by
  unfold topFrom;dsimp only;rw [z1,z2,z3,r];show (match staticsOk (importedModules p.main.body) (H₀ w.params) s₁.abs.heap && namesBound p s₁.abs.heap && gensDone s₁.abs && laidKept (H₀ w.params) s₁.abs.heap with | true=>_ | false=>_)=_;rw [l1]
 unfold openEnds;rw [e];show (topFrom treeTable p w N _).map _=_;rw [t];exact congrArg some (Prod.ext l2 l3)
def eI (ok:Nat->Option Value->Thread->Bool) (st:SharedT->Thread->Option (SharedT×Thread)) (n₀:Nat) (ann:Option Value):Nat->SharedT->Thread->Option SharedT
 | 0,_,_=>none
 | n+1,s,t=>match through t with
  | true=>some s
  | false=>match ok n₀ ann t with
   | false=>none
   | true=>match st s t with
    | some (s',t')=>eI ok st n₀ ann n s' t'
    | none=>none
theorem Gk {tb:String->Option Builtin} {p:Program} {w:World} {n₀:Nat} {ann:Option Value}:∀ (n:Nat) (s:SharedT) (t:Thread),eI stepOk (stepT (denote tb) p w) n₀ ann n s t=qy tb p w n₀ ann n s t
 | 0,_,_=>rfl
 | n+1,s,t=>by
  unfold eI qy;cases through t with
  | true=>rfl
  | false =>
   cases stepOk n₀ ann t with
   | false=>rfl
   | true =>
    cases stepT (denote tb) p w s t with
    | none=>rfl
    | some r=>exact Gk n r.1 r.2
theorem LeftO.XW {p q:Program} {loose:List Str} {Xt:Shared->Bool} {α:Type} {Yf:Shared->α} {Ya:World->α} {N:Nat} {g0:Bool} {H₀:Params->Heap} {T₀:Params->BT} {n₀:Nat} {life:Life} {m7:Array GenState} {d₀:Drawn} {k₀:Nat} {ann:Option Value}
  {ok:Nat->Option Value->Thread->Bool} {st:(Code->Sem Fin)->Program->World->SharedT->Thread->Option (SharedT×Thread)} {den:(String->Option Builtin)->Code->Sem Fin} {tb:String->Option Builtin}
  (e1:stepOk=ok) (e2:stepT=st) (e3:denote=den) (e4:treeTable=tb)
  (DY:∀ w:World,(fencedOpening treeTable p w N).map (fun s=>(s.heap,s.gens,s.drawn,s.toks))=some (H₀ w.params,m7,d₀,k₀))
  (tr:∀ P:Params,absHeap (T₀ P) n₀ life=H₀ P)
  (size:∀ P:Params,((H₀ P).isNs mainGlobals && m7.size == 0,(H₀ P).objs.size,(H₀ P).nsMap mainGlobals "__annotations__")=(true,n₀,ann))
  (run:∀ (w:World) (os:OsState),(eI ok (st (den tb) p w) n₀ ann N ⟨T₀ w.params,n₀,life,m7,d₀,k₀,os⟩ (topStub p)).map (fun s=>((staticsOk (importedModules p.main.body) (H₀ w.params) s.abs.heap && namesBound p s.abs.heap && gensDone s.abs && laidKept (H₀ w.params) s.abs.heap),
    openSeen q loose (importedModules p.main.body) Xt g0 s.abs,Yf s.abs))=some (true,openGood q loose,Ya w)):LeftO p q loose Xt Yf Ya N g0:=by
 subst e1 e2 e3 e4;refine LeftO.V4 DY tr size fun w os=>?_;rw [<- Gk];exact run w os
noncomputable def fW (P:Params):BT:=treeOf (boot_heap P).objs.toList 0 .nil
end L2

namespace L2
open PySem PySem.W PyProof.Rows
theorem Wg {α β γ:Type} {o:Option α} {F:α->β×γ} {G:β×γ} (h1:o.map (fun s=>(F s).1)=some G.1) (h2:o.map (fun s=>(F s).2)=some G.2):o.map F=some G:=by
 cases o with
 | none=>cases h1
 | some a=>injection h1 with h1; injection h2 with h2; exact congrArg some (Prod.ext h1 h2)
theorem atS {α β:Type} {o:Option α} {s:α} {f:α->β} {g:β} (hs:o=some s) (h:o.map f=some g):f s=g:=by
 subst hs; exact Option.some.inj h
theorem jr {α β:Type} {a b:α} {c d:β} (h:a=b) (k:c=d):(a,c)=(b,d):=by rw [h,k]
def F0 (p:Program) (H₀:Heap) (s:SharedT):Bool:=staticsOk (importedModules p.main.body) H₀ s.abs.heap && namesBound p s.abs.heap && gensDone s.abs && laidKept H₀ s.abs.heap
def F3 (p q:Program) (loose:List Str) (Xt:Shared->Bool) (g0:Bool) (s:SharedT):Bool:=s.abs.heap.keysOk (looseW q loose) ((recsOf q).map (·.name)) ((litsOf q).map (·.1)) ((clssOf q (looseW q loose)).map (·.name)) && s.abs.heap.accountedOkI (importedModules p.main.body) && s.abs.heap.isNs mainGlobals && s.abs.heap.isNs builtinsNs && tablesOk q s.abs.heap && Xt s.abs && (if g0 then s.abs.gens.size == 0 else !leftWithCleanup s.abs.gens)
def F1 (q:Program) (s:SharedT):=seen ((recsOf q).map (·.name)) (ownsOf q) [] { s.abs with gens:=#[] }
theorem ZU {p q:Program} {loose:List Str} {Xt:Shared->Bool} {α:Type} {Yf:Shared->α} {Ya:World->α} {g0:Bool} {H₀:Heap} {o:Option SharedT} {w:World}
  (q0:o.map (F0 p H₀)=some true) (q1:o.map (F1 q)=some (expectedOf q)) (q2:o.map (fun s:SharedT=>s.abs.heap.bltView)=some bltViewBooted)
  (q3:o.map (F3 p q loose Xt g0)=some true) (q4:o.map (fun s:SharedT=>tabsOk q s.abs)=some true) (q5:o.map (fun s:SharedT=>pinSeenD q (drecsOf q) s.abs)=some (pinGoodD (drecsOf q)))
  (q6:o.map (fun s:SharedT=>plainSeenE q (looseW q loose) s.abs)=some (plainGoodE q (looseW q loose))) (q7:o.map (fun s:SharedT=>plainSeenD q loose s.abs)=some (plainGoodD q loose))
  (q8:o.map (fun s:SharedT=>wideSeen q s.abs)=some (wideGood q)) (q9:o.map (fun s:SharedT=>clsSeenW q loose s.abs)=some (clsGoodW q loose))
  (qA:o.map (fun s:SharedT=>Yf s.abs)=some (Ya w)) :
  o.map (fun s:SharedT=>(F0 p H₀ s,openSeen q loose (importedModules p.main.body) Xt g0 s.abs,Yf s.abs))=some (true,openGood q loose,Ya w):=by
 obtain ⟨s,hs,a0⟩:=Option.map_eq_some_iff.mp q0;have a1:=atS hs q1;have a2:=atS hs q2;have a3:=atS hs q3;have a4:=atS hs q4;have a5:=atS hs q5;have a6:=atS hs q6;have a7:=atS hs q7;have a8:=atS hs q8;have a9:=atS hs q9;have qd:=atS hs qA;clear q0 q1 q2 q3 q4 q5 q6 q7 q8 q9 qA;subst hs;show some _=some _;refine congrArg some (jr a0 (jr ?_ qd));unfold openSeen openGood;exact jr a1 (jr a2 (jr a3 (jr a4 (jr a5 (jr a6 (jr a7 (jr a8 a9)))))))
theorem rm {α β γ:Type} {o:Option α} {f:α->β} {g:α->γ} {b:β} {c:γ} (h:o.map (fun s=>(f s,g s))=some (b,c)):o.map f=some b:=by
 cases o with
 | none=>cases h
 | some a=>injection h with h; exact congrArg some (congrArg Prod.fst h)
theorem gf {α β γ:Type} {o:Option α} {f:α->β} {g:α->γ} {b:β} {c:γ} (h:o.map (fun s=>(f s,g s))=some (b,c)):o.map g=some c:=by
 cases o with
 | none=>cases h
 | some a=>injection h with h; exact congrArg some (congrArg Prod.snd h)
theorem rf {α β γ:Type} {o:Option α} {l:List β} {f:α->β->γ} {g:β->γ} (n:Nat) (h1:o.map (fun s=>(l.take n).map (f s))=some ((l.take n).map g)) (h2:o.map (fun s=>(l.drop n).map (f s))=some ((l.drop n).map g)):o.map (fun s=>l.map (f s))=some (l.map g):=by
 cases o with
 | none=>cases h1
 | some a =>
  injection h1 with h1;injection h2 with h2;refine congrArg some ?_;show l.map (f a)=l.map g;rw [<- List.take_append_drop n l,List.map_append,List.map_append];exact congr (congrArg _ h1) h2
theorem Q2 {K:Params->Frag} {as:List Addr} {e:∀ P,as=(K P).map (·.1)} {ts:List Addr} {o:Option SharedT} {w:World} (h:o.map (fun s=>(K w.params).map fun p=>s.abs.heap.get? p.1)=some ((K w.params).map fun p=>some p.2)) (ht:o.map (fun s=>ts.map s.abs.heap.get?)=some (ts.map fun _=>some (tabObj #[]))) :
  o.map (fun s=>(kmHook K as e ts).obs s.abs)=some ((kmHook K as e ts).val w):=by
 refine Wg (F:=fun s:SharedT=>(kmHook K as e ts).obs s.abs) (G:=(kmHook K as e ts).val w) ?_ ht;show o.map (fun s:SharedT=>as.map s.abs.heap.get?)=some ((K w.params).map fun p=>some p.2);rw [e w.params];simp only [List.map_map];exact h
end L2

section
open PySem PySem.W PyProof.Rows
namespace L2.bL
theorem sa:(Challenge.rw_leadnames_k48_at_each_door).row.wellSaid=true:=by kernel_rfl
theorem LH:(Challenge.rw_leadnames_k48_at_each_door).wellSaid=true:=by
 unfold OpenLaw.wellSaid
 iterate 18 refine look_both ?_ ?_
 ·exact sa
 all_goals kernel_rfl
noncomputable def QV:Program:=view (Challenge.rw_leadnames_k48_at_each_door).prog [0,2,3,4,5,6,7,8,9,10,11,12,13,15,16,17,18,19,21,22,23,24,25,26,27,28,29,30,31,32,33,34,35,36,37,38,39,41,42,43,44,45,47,48,49,50,51,52,53,54,55,56,59,60,61,62,63,64,65,66,67,68,69,70,71,72,73,74,75,78,79,80,81,82,83,84,86,87,89,90,91,92,93,94,95,96,97,98,99,100]
theorem iu:∀ w:World,(fencedOpening treeTable (Challenge.rw_leadnames_k48_at_each_door).prog w 17260).map (fun s=>(s.heap,s.gens,s.drawn,s.toks))=some (boot_heap w.params,Array.mk [],boot_drawn,boot_toks):=boot_open rfl rfl (fun _=>rfl)
theorem eN:∀ P:Params,absHeap (L2.fW P) 11 {}=boot_heap P:=by intro P; kernel_rfl
theorem wM:∀ P:Params,((boot_heap P).isNs mainGlobals && (Array.mk ([]:List GenState)).size == 0,(boot_heap P).objs.size,(boot_heap P).nsMap mainGlobals "__annotations__")=(true,11,some (.ref 6)):=by intro P; kernel_rfl
set_option maxHeartbeats 0
theorem qL (w:World) (os:OsState):((eI Fast.tw6613529449190102663 (Fast.tw10156331382660048174 (Fast.tw11892475500146522536 Fast.tw14364793385576792824) (Challenge.rw_leadnames_k48_at_each_door).prog w) 11 (some (.ref 6)) 17260 ⟨L2.fW w.params,11,{},Array.mk [],boot_drawn,boot_toks,os⟩ (topStub (Challenge.rw_leadnames_k48_at_each_door).prog))).map (fun s=>(((staticsOk (importedModules (Challenge.rw_leadnames_k48_at_each_door).prog.main.body) (boot_heap w.params) s.abs.heap && namesBound (Challenge.rw_leadnames_k48_at_each_door).prog s.abs.heap && gensDone s.abs && laidKept (boot_heap w.params) s.abs.heap)),s.abs.heap.bltView,pinSeenD QV (drecsOf QV) s.abs,plainSeenD QV [PySem.Str.ofString "walk",PySem.Str.ofString "make_folder",PySem.Str.ofString "make_file"] s.abs,clsSeenW QV [PySem.Str.ofString "walk",PySem.Str.ofString "make_folder",PySem.Str.ofString "make_file"] s.abs,[1147,1128].map s.abs.heap.get?))=some ((true,bltViewBooted,pinGoodD (drecsOf QV),plainGoodD QV [PySem.Str.ofString "walk",PySem.Str.ofString "make_folder",PySem.Str.ofString "make_file"],clsGoodW QV [PySem.Str.ofString "walk",PySem.Str.ofString "make_folder",PySem.Str.ofString "make_file"],[1147,1128].map fun _=>some (tabObj #[]))):=by kernel_rfl
theorem Qu (w:World) (os:OsState):((eI Fast.tw6613529449190102663 (Fast.tw10156331382660048174 (Fast.tw11892475500146522536 Fast.tw14364793385576792824) (Challenge.rw_leadnames_k48_at_each_door).prog w) 11 (some (.ref 6)) 17260 ⟨L2.fW w.params,11,{},Array.mk [],boot_drawn,boot_toks,os⟩ (topStub (Challenge.rw_leadnames_k48_at_each_door).prog))).map (fun s=>seen ((recsOf QV).map (·.name)) (ownsOf QV) [] { s.abs with gens:=#[] })=some (expectedOf QV):=by kernel_rfl
theorem VE (w:World) (os:OsState):((eI Fast.tw6613529449190102663 (Fast.tw10156331382660048174 (Fast.tw11892475500146522536 Fast.tw14364793385576792824) (Challenge.rw_leadnames_k48_at_each_door).prog w) 11 (some (.ref 6)) 17260 ⟨L2.fW w.params,11,{},Array.mk [],boot_drawn,boot_toks,os⟩ (topStub (Challenge.rw_leadnames_k48_at_each_door).prog))).map (fun s=>wideSeen QV s.abs)=some (wideGood QV):=by kernel_rfl
theorem q3 (w:World) (os:OsState):((eI Fast.tw6613529449190102663 (Fast.tw10156331382660048174 (Fast.tw11892475500146522536 Fast.tw14364793385576792824) (Challenge.rw_leadnames_k48_at_each_door).prog w) 11 (some (.ref 6)) 17260 ⟨L2.fW w.params,11,{},Array.mk [],boot_drawn,boot_toks,os⟩ (topStub (Challenge.rw_leadnames_k48_at_each_door).prog))).map (fun s=>(s.abs.heap.keysOk (looseW QV [PySem.Str.ofString "walk",PySem.Str.ofString "make_folder",PySem.Str.ofString "make_file"]) ((recsOf QV).map (·.name)) ((litsOf QV).map (·.1)) ((clssOf QV (looseW QV [PySem.Str.ofString "walk",PySem.Str.ofString "make_folder",PySem.Str.ofString "make_file"])).map (·.name)) && s.abs.heap.accountedOkI (importedModules (Challenge.rw_leadnames_k48_at_each_door).prog.main.body) && s.abs.heap.isNs mainGlobals && s.abs.heap.isNs builtinsNs && tablesOk QV s.abs.heap && (fun s=>xlAt QV [] s && recOk (RowW.records (OpenRow.toRowW (Challenge.rw_leadnames_k48_at_each_door).row)) s) s.abs && (if true then s.abs.gens.size == 0 else !leftWithCleanup s.abs.gens)))=some (true):=by kernel_rfl
theorem q4 (w:World) (os:OsState):((eI Fast.tw6613529449190102663 (Fast.tw10156331382660048174 (Fast.tw11892475500146522536 Fast.tw14364793385576792824) (Challenge.rw_leadnames_k48_at_each_door).prog w) 11 (some (.ref 6)) 17260 ⟨L2.fW w.params,11,{},Array.mk [],boot_drawn,boot_toks,os⟩ (topStub (Challenge.rw_leadnames_k48_at_each_door).prog))).map (fun s=>tabsOk QV s.abs)=some (true):=by kernel_rfl
theorem abu {h:Heap} {c:ClsRec} (n:Nat) (h1:h.plainShapeAt { c with meths:=c.meths.take n }=some (ClsRec.plainShape { c with meths:=c.meths.take n })) (h2:h.plainShapeAt { c with meths:=c.meths.drop n }=some (ClsRec.plainShape { c with meths:=c.meths.drop n })):h.plainShapeAt c=some c.plainShape:=by
 unfold Heap.plainShapeAt at h1 h2 ⊢;dsimp only [ClsRec.plainShape,ClsRec.quiet] at h1 h2 ⊢;cases e:h.clsAt mainGlobals c.name with
 | none=>rw [e] at h1; cases h1
 | some x =>
  rw [e] at h1 h2;simp only [Option.map_some,Option.some.injEq,PlainShape.mk.injEq] at h1 h2 ⊢;obtain ⟨a1,a2,a3,a4,a5,a6,a7,a8,a9,qd,vg⟩:=h1;obtain ⟨_,_,_,_,_,_,_,_,_,uj,b11⟩:=h2;refine ⟨a1,a2,a3,a4,a5,a6,a7,a8,a9,?_,?_⟩
  ·rw [<- List.take_append_drop n c.meths,List.map_append,List.map_append,qd,uj]
  ·rw [<- List.take_append_drop n c.meths,List.all_append,vg,b11]; rfl
theorem abc {α:Type} {o:Option α} {l:List ClsRec} {F:α->Heap} (n:Nat) (h1:o.map (fun s=>l.map fun c=>(F s).plainShapeAt { c.withCmp with meths:=c.withCmp.meths.take n })=some (l.map fun c=>some (ClsRec.plainShape { c.withCmp with meths:=c.withCmp.meths.take n }))) (h2:o.map (fun s=>l.map fun c=>(F s).plainShapeAt { c.withCmp with meths:=c.withCmp.meths.drop n })=some (l.map fun c=>some (ClsRec.plainShape { c.withCmp with meths:=c.withCmp.meths.drop n }))):o.map (fun s=>l.map fun c=>(F s).plainShapeAt c.withCmp)=some (l.map fun c=>some c.withCmp.plainShape):=by
 cases o with
 | none=>cases h1
 | some a =>
  injection h1 with h1;injection h2 with h2;exact congrArg some (List.map_congr_left fun c hc=>abu n (List.map_inj_left.mp h1 c hc) (List.map_inj_left.mp h2 c hc))
theorem RP (w:World) (os:OsState):((eI Fast.tw6613529449190102663 (Fast.tw10156331382660048174 (Fast.tw11892475500146522536 Fast.tw14364793385576792824) (Challenge.rw_leadnames_k48_at_each_door).prog w) 11 (some (.ref 6)) 17260 ⟨L2.fW w.params,11,{},Array.mk [],boot_drawn,boot_toks,os⟩ (topStub (Challenge.rw_leadnames_k48_at_each_door).prog))).map (fun s=>((plainsOf QV (looseW QV [PySem.Str.ofString "walk",PySem.Str.ofString "make_folder",PySem.Str.ofString "make_file"])).take 5).map fun c=>s.abs.heap.plainShapeAt c.withCmp)=some (((plainsOf QV (looseW QV [PySem.Str.ofString "walk",PySem.Str.ofString "make_folder",PySem.Str.ofString "make_file"])).take 5).map fun c=>some (ClsRec.plainShape c.withCmp)):=by kernel_rfl
theorem Uk (w:World) (os:OsState):((eI Fast.tw6613529449190102663 (Fast.tw10156331382660048174 (Fast.tw11892475500146522536 Fast.tw14364793385576792824) (Challenge.rw_leadnames_k48_at_each_door).prog w) 11 (some (.ref 6)) 17260 ⟨L2.fW w.params,11,{},Array.mk [],boot_drawn,boot_toks,os⟩ (topStub (Challenge.rw_leadnames_k48_at_each_door).prog))).map (fun s=>(((plainsOf QV (looseW QV [PySem.Str.ofString "walk",PySem.Str.ofString "make_folder",PySem.Str.ofString "make_file"])).drop 5).take 1).map fun c=>s.abs.heap.plainShapeAt { c.withCmp with meths:=c.withCmp.meths.take 20 })=some ((((plainsOf QV (looseW QV [PySem.Str.ofString "walk",PySem.Str.ofString "make_folder",PySem.Str.ofString "make_file"])).drop 5).take 1).map fun c=>some (ClsRec.plainShape { c.withCmp with meths:=c.withCmp.meths.take 20 })):=by kernel_rfl
theorem q6w (w:World) (os:OsState):((eI Fast.tw6613529449190102663 (Fast.tw10156331382660048174 (Fast.tw11892475500146522536 Fast.tw14364793385576792824) (Challenge.rw_leadnames_k48_at_each_door).prog w) 11 (some (.ref 6)) 17260 ⟨L2.fW w.params,11,{},Array.mk [],boot_drawn,boot_toks,os⟩ (topStub (Challenge.rw_leadnames_k48_at_each_door).prog))).map (fun s=>(((plainsOf QV (looseW QV [PySem.Str.ofString "walk",PySem.Str.ofString "make_folder",PySem.Str.ofString "make_file"])).drop 5).take 1).map fun c=>s.abs.heap.plainShapeAt { c.withCmp with meths:=c.withCmp.meths.drop 20 })=some ((((plainsOf QV (looseW QV [PySem.Str.ofString "walk",PySem.Str.ofString "make_folder",PySem.Str.ofString "make_file"])).drop 5).take 1).map fun c=>some (ClsRec.plainShape { c.withCmp with meths:=c.withCmp.meths.drop 20 })):=by kernel_rfl
theorem q6b (w:World) (os:OsState):((eI Fast.tw6613529449190102663 (Fast.tw10156331382660048174 (Fast.tw11892475500146522536 Fast.tw14364793385576792824) (Challenge.rw_leadnames_k48_at_each_door).prog w) 11 (some (.ref 6)) 17260 ⟨L2.fW w.params,11,{},Array.mk [],boot_drawn,boot_toks,os⟩ (topStub (Challenge.rw_leadnames_k48_at_each_door).prog))).map (fun s=>(((plainsOf QV (looseW QV [PySem.Str.ofString "walk",PySem.Str.ofString "make_folder",PySem.Str.ofString "make_file"])).drop 5).drop 1).map fun c=>s.abs.heap.plainShapeAt c.withCmp)=some ((((plainsOf QV (looseW QV [PySem.Str.ofString "walk",PySem.Str.ofString "make_folder",PySem.Str.ofString "make_file"])).drop 5).drop 1).map fun c=>some (ClsRec.plainShape c.withCmp)):=by kernel_rfl
theorem q6 (w:World) (os:OsState):((eI Fast.tw6613529449190102663 (Fast.tw10156331382660048174 (Fast.tw11892475500146522536 Fast.tw14364793385576792824) (Challenge.rw_leadnames_k48_at_each_door).prog w) 11 (some (.ref 6)) 17260 ⟨L2.fW w.params,11,{},Array.mk [],boot_drawn,boot_toks,os⟩ (topStub (Challenge.rw_leadnames_k48_at_each_door).prog))).map (fun s=>plainSeenE QV (looseW QV [PySem.Str.ofString "walk",PySem.Str.ofString "make_folder",PySem.Str.ofString "make_file"]) s.abs)=some (plainGoodE QV (looseW QV [PySem.Str.ofString "walk",PySem.Str.ofString "make_folder",PySem.Str.ofString "make_file"])):=L2.rf 5 (RP w os) (L2.rf 1 (abc 20 (Uk w os) (q6w w os)) (q6b w os))
end L2.bL
end
section
open PySem PySem.W PyProof.Rows
local macro_rules | `(tactic| o_head $H)=>`(tactic| (refine (by assumption:∀ h':PySem.W.Hook,h'=_->PySem.W.OpenRow.Holds _) $H ?_; rfl))
set_option maxHeartbeats 0 in
noncomputable def L2.bL.fw:(h:Hook) ×' ((∀ h':Hook,h'=h->(Challenge.rw_leadnames_k48_at_each_door).row.Holds)->(Challenge.rw_leadnames_k48_at_each_door).row.Holds):=by
 refine' ⟨_,fun x=>_⟩
 rotate_left
 k_head
end
section
open PySem PySem.W PyProof.Rows
namespace L2.bL
set_option maxHeartbeats 0
theorem ya (w:World) (os:OsState):((eI Fast.tw6613529449190102663 (Fast.tw10156331382660048174 (Fast.tw11892475500146522536 Fast.tw14364793385576792824) (Challenge.rw_leadnames_k48_at_each_door).prog w) 11 (some (.ref 6)) 17260 ⟨L2.fW w.params,11,{},Array.mk [],boot_drawn,boot_toks,os⟩ (topStub (Challenge.rw_leadnames_k48_at_each_door).prog))).map (fun s=>(((fw.heap_1 w.params).take 359).take 179).map fun p=>s.abs.heap.get? p.1)=some ((((fw.heap_1 w.params).take 359).take 179).map fun p=>some p.2):=by kernel_rfl
theorem yb (w:World) (os:OsState):((eI Fast.tw6613529449190102663 (Fast.tw10156331382660048174 (Fast.tw11892475500146522536 Fast.tw14364793385576792824) (Challenge.rw_leadnames_k48_at_each_door).prog w) 11 (some (.ref 6)) 17260 ⟨L2.fW w.params,11,{},Array.mk [],boot_drawn,boot_toks,os⟩ (topStub (Challenge.rw_leadnames_k48_at_each_door).prog))).map (fun s=>(((fw.heap_1 w.params).take 359).drop 179).map fun p=>s.abs.heap.get? p.1)=some ((((fw.heap_1 w.params).take 359).drop 179).map fun p=>some p.2):=by kernel_rfl
theorem yc (w:World) (os:OsState):((eI Fast.tw6613529449190102663 (Fast.tw10156331382660048174 (Fast.tw11892475500146522536 Fast.tw14364793385576792824) (Challenge.rw_leadnames_k48_at_each_door).prog w) 11 (some (.ref 6)) 17260 ⟨L2.fW w.params,11,{},Array.mk [],boot_drawn,boot_toks,os⟩ (topStub (Challenge.rw_leadnames_k48_at_each_door).prog))).map (fun s=>(((fw.heap_1 w.params).drop 359).take 180).map fun p=>s.abs.heap.get? p.1)=some ((((fw.heap_1 w.params).drop 359).take 180).map fun p=>some p.2):=by kernel_rfl
theorem yd (w:World) (os:OsState):((eI Fast.tw6613529449190102663 (Fast.tw10156331382660048174 (Fast.tw11892475500146522536 Fast.tw14364793385576792824) (Challenge.rw_leadnames_k48_at_each_door).prog w) 11 (some (.ref 6)) 17260 ⟨L2.fW w.params,11,{},Array.mk [],boot_drawn,boot_toks,os⟩ (topStub (Challenge.rw_leadnames_k48_at_each_door).prog))).map (fun s=>(((fw.heap_1 w.params).drop 359).drop 180).map fun p=>s.abs.heap.get? p.1)=some ((((fw.heap_1 w.params).drop 359).drop 180).map fun p=>some p.2):=by kernel_rfl
theorem qA (w:World) (os:OsState):((eI Fast.tw6613529449190102663 (Fast.tw10156331382660048174 (Fast.tw11892475500146522536 Fast.tw14364793385576792824) (Challenge.rw_leadnames_k48_at_each_door).prog w) 11 (some (.ref 6)) 17260 ⟨L2.fW w.params,11,{},Array.mk [],boot_drawn,boot_toks,os⟩ (topStub (Challenge.rw_leadnames_k48_at_each_door).prog))).map (fun s=>Hook.obs fw.1 s.abs)=some (Hook.val fw.1 w) :=
 L2.Q2 (K:=fw.heap_1) (e:=fun _=>by kernel_rfl) (L2.rf 359 (L2.rf 179 (ya w os) (yb w os)) (L2.rf 180 (yc w os) (yd w os))) (L2.gf (L2.gf (L2.gf (L2.gf (L2.gf (qL w os))))))
end L2.bL
local macro_rules | `(tactic| o_law)=>`(tactic| refine PySem.W.holds_law L2.bL.LH fun LH=>?_)
local macro_rules | `(tactic| k_head)=>`(tactic| (
 refine holds_open (q:=L2.bL.QV) (loose:=[PySem.Str.ofString "walk",PySem.Str.ofString "make_folder",PySem.Str.ofString "make_file"]) (Xt:=fun s=>xlAt L2.bL.QV [] s && recOk (RowW.records (OpenRow.toRowW (Challenge.rw_leadnames_k48_at_each_door).row)) s) (XP:=XL L2.bL.QV []) (Yf:=Hook.obs L2.bL.fw.1) (Ya:=Hook.val L2.bL.fw.1) (YP:=Hook.says L2.bL.fw.1) (N:=17260) ?hl (Hook.of L2.bL.fw.1) (Hook.keeps L2.bL.fw.1) (fun s e=>xl_of s (Bool.and_eq_true_iff.mp e).1) XL.keeps (by rfl) (by rfl) (by rfl) (fun s e=>recFacts_of (Bool.and_eq_true_iff.mp e).2) (by rfl) (by first | assumption | decide +kernel) (by decide +kernel) ⟨rfl,rfl,rfl,rfl,rfl,by decide +kernel⟩ ?hw ?hc
 case hl =>
  refine L2.LeftO.XW Fast.te6613529449190102663 Fast.te10156331382660048174 Fast.te11892475500146522536 Fast.te14364793385576792824 L2.bL.iu L2.bL.eN L2.bL.wM (fun w os=>?_);exact L2.ZU (L2.rm (L2.bL.qL w os)) (L2.bL.Qu w os) (L2.rm (L2.gf (L2.bL.qL w os))) (L2.bL.q3 w os) (L2.bL.q4 w os) (L2.rm (L2.gf (L2.gf (L2.bL.qL w os)))) (L2.bL.q6 w os) (L2.rm (L2.gf (L2.gf (L2.gf (L2.bL.qL w os))))) (L2.bL.VE w os) (L2.rm (L2.gf (L2.gf (L2.gf (L2.gf (L2.bL.qL w os)))))) (L2.bL.qA w os)))
set_option maxHeartbeats 0 in
open_top L2.bL.hd0 for PySem.Challenge.rw_leadnames_k48_at_each_door
end
namespace L2
abbrev ν:=PySem.W.Frag
end L2

namespace L2
open PySem PySem.Spec PyProof.Rows
def lv:=@wpAny_bind
def mo:=@List.getElem?_eq_getElem
def pc:=@Heap.get?_push_of_some
def pi:=@List.mem_cons
def pp:=@List.length_map
def ss:=@List.not_mem_nil
def sw:=@wpAny_pure
def sB:=@Heap.lt_size
def sK:=@List.getElem?_eq_some_iff
def tz:=@decide_eq_false
def ul:=@Nat.le_refl
def ut:=@List.map_cons
def u8:=@Heap.get?_push_size
def wf:=@PySem.F.slot_list_append
def wn:=@PySem.F.type_list_append
def ww:=@List.size_toArray
def wE:=@Nat.le_trans
def wP:=@Ne.symm
def wS:=@Nat.lt_of_lt_of_le
def wT:=@Bool.false_ne_true
def xz:=@decide_eq_true
def xL:=@Nat.ne_of_lt
def zn:=@if_neg
def At:=@List.map_nil
def AC:=@or_false
def AT:=@if_pos
def Ch:=@Bool.and_eq_true
def Cl:=@List.mem_append_right
def Da:=@List.getElem?_map
def Db:=@PySem.mem_of_lookup
def Do:=@Nat.zero_le
def Ev:=@List.getElem?_append_right
def EQ:=@List.mem_singleton
def Fa:=@beq_eq_false_iff_ne
def Fk:=@Option.some.inj
def Fr:=@List.nodup_cons
def FB:=@Bool.false_eq_true
def FM:=@List.getElem?_append_left
def FS:=@List.length_cons
def Gc:=@List.nodup_append
def Go:=@wpAny_Call_Name_kw
def GE:=@Nat.lt_irrefl
def GM:=@Heap.get?_update_other
def GT:=@wpAny_mono
def Id:=@wpAny_holding
def Ix:=@List.mem_map
def IN:=@W.kia_one
def IO:=@List.all_eq_true
def IR:=@PySem.boot_len
def KB:=@List.all_cons
def KK:=@List.mem_cons_of_mem
def KM:=@List.mem_of_getElem?
def LE:=@List.length_append
def LT:=@decide_eq_true_eq
def No:=@Int.emod_lt_of_pos
def NE:=@List.map_append
def On:=@Array.length_toList
def Op:=@wpAny_truthy_bool
def Os:=@Array.getElem?_toList
def Pi:=@Int.emod_nonneg
def Ps:=@Calls.spliced_cons
def PP:=@congrArg
def P3:=@W.looks_findIn
def Re:=@Nat.lt_succ_self
def Rs:=@Heap.get?_update_self
def Sc:=@PySem.F.slot_dict_get
def SC:=@List.length_filter_le
def SL:=@W.callWith_K
def ST:=@Heap.get?_none_of_le
def SZ:=@List.getElem?_set_ne
def Tk:=@Calls.spliced_nil
def Tl:=@List.flatMap_cons
def Tm:=@List.find?_cons
def Ty:=@if_false
def TD:=@List.getElem_of_mem
def TW:=@List.getElem?_set_self
def T0:=@PyProof.Rows.callWith_type1
def Uf:=@codeAny_mono
def UF:=@Calls.callWith_builtin
def UV:=@List.any_cons
def Wp:=@List.length_take
def WF:=@Heap.size_push
def WP:=@tupleKind_room_in1
def W1:=@Nat.lt_of_le_of_lt
def XV:=@List.getElem?_eq_none
def ZB:=@List.sublist_cons_iff
def _a:=@Option.eq_none_iff_forall_not_mem
def _b:=@wpAny_passesOwn
def _c:=@PassesOwn.never
def _d:=@List.mem_append_left
def _e:=@Calls.evalArgs_plain
def _f:=@wpAny_call
def _g:=@call_meets
def _h:=@List.filterMap_cons
def _i:=@List.replicate_succ
def _j:=@W.looks_mroIn
def _k:=@List.length_eq_zero_iff
def _l:=@Int.eq_ofNat_of_zero_le
def _m:=@List.getElem_map
def _n:=@sizeLine_eq
def _o:=@wpAny_typeNameOfWhole_keyiter
def _p:=@List.mem_cons_self
def _q:=@List.mem_filterMap
def _r:=@beq_iff_eq
def _s:=@W.cellsFrom_some
def _t:=@Option.map_eq_some_iff
def _u:=@PySem.F.entry_dict_get
def _v:=@List.map_map
def _w:=@Bool.eq_iff_iff
def _x:=@F.slot_dict_keyiterator_next
def _y:=@Bool.not_true
def _z:=@wpAny_newObj_type
def _A:=@wpAny_newFunctionEnv_cells
def _B:=@typeIs_str
def _C:=@List.getD_eq_getElem?_getD
def _D:=@PySem.F.excBase_ValueError
def _E:=@codeAny_call_builtin
def _F:=@not_or
def _G:=@List.getElem?_of_mem
def _H:=@List.getElem_mem
def _I:=@W.Looks.ld
def _J:=@wpAny_call_entry
def _K:=@F.plain_min_loop
def _L:=@Calls.call_function_entry
def _M:=@List.getElem?_zip_eq_some
def _N:=@wpAny_comprehension_free
def _O:=@List.mem_append
def _P:=@wpAny_execs_nil
def _Q:=@List.of_mem_zip
def _R:=@List.filter_append
def _S:=@wpAny_loadPart
def _T:=@List.flatten_cons
def _U:=@of_decide_eq_true
def _V:=@Nat.lt_succ_of_lt
def _W:=@W.methodCall_KW
def _X:=@codeAny_call_function
def _Y:=@List.mem_iff_getElem?
def _Z:=@wpAny_execs_cons
def _0:=@Nat.succ_le_succ
def _1:=@wpAny_standAt
def _2:=@Nat.le_succ
def _3:=@List.not_lt
def _4:=@Array.toArray_toList
def _5:=@Around.under_plainId
def _6:=@List.mem_filter
def _7:=@List.append_nil
def _8:=@List.length_nil
def _9:=@codeAny_builtin
def Ja0:=@wpAny_ite_split
def Ja1:=@W.hideAll_get
def Ja2:=@W.plainGet_of
def Ja3:=@ne_true_of_eq_false
def Ja4:=@W.kdu_collect
def Ja5:=@List.length_reverse
def Ja6:=@Nat.le_of_lt
def Ja7:=@Nat.ne_of_gt
def Ja8:=@if_true
def Ja9:=@W.of_hideAll
def Jaa:=@List.mem_range
def Jab:=@Bool.false_and
def Jac:=@W.codeRec_of
def Jad:=@List.nodup_nil
def Jae:=@F.args_str_split_2
def Jaf:=@Obj.data_mapFields
def Jag:=@Code.quiet_builtin
def Jah:=@wpAny_seqItems
def Jai:=@Bool.or_false
def Jaj:=@wpAny_newList
abbrev Key:=Sum Int Str
def nv:Key->Value->Bool
 | .inl k,v=>Value.isInt k v
 | .inr x,v=>Value.isStrOf x v
def Qg (w:World):Key->Int
 | .inl k=>hashInt k
 | .inr x=>hashStr w x
def lq:∀ {k:Key} {v:Value},nv k v=true->(∃ i t,k=Sum.inl i/\v=Value.int i t)\/(∃ x t,k=Sum.inr x/\v=Value.str x t)
 | .inl i,v,h=>by
  obtain ⟨t,e⟩:=Value.isInt_shape (k:=i) (v:=v) h;exact .inl ⟨i,t,rfl,e⟩
 | .inr x,v,h=>by
  obtain ⟨t,e⟩:=Value.isStrOf_shape (x:=x) (v:=v) h;exact .inr ⟨x,t,rfl,e⟩
def SX (i:Int) (t:Tok):nv (.inl i) (.int i t)=true:=by simp [nv,Value.isInt]
def ack (x:Str) (t:Tok):nv (.inr x) (.str x t)=true:=by simp [nv,Value.isStrOf]
def Ys (a b:Int):decide ((Sum.inl a:Key)=Sum.inl b)=(a == b):=by
 by_cases e:a=b
 ·subst e;simp
 ·have h:¬ (Sum.inl a:Key)=Sum.inl b:=fun q=>e (Sum.inl.inj q);rw [tz h];exact (Fa.mpr e).symm
def Rj (a b:Str):decide ((Sum.inr a:Key)=Sum.inr b)=decide (a=b):=by
 by_cases e:a=b
 ·subst e;simp
 ·have h:¬ (Sum.inr a:Key)=Sum.inr b:=fun q=>e (Sum.inr.inj q);rw [tz h,tz e]
def WH (a:Int) (b:Str):decide ((Sum.inl a:Key)=Sum.inr b)=false:=tz (fun q=>nomatch q)
def abO (a:Str) (b:Int):decide ((Sum.inr a:Key)=Sum.inl b)=false:=tz (fun q=>nomatch q)
def dO (prog:Program) (w:World):PySem.KeyKind prog w Key where
 is:=nv
 hash:=Qg w
 inj:=fun v a b ha hb=>by
  rcases lq ha with ⟨i,t,rfl,rfl⟩ | ⟨x,t,rfl,rfl⟩
  ·rcases lq hb with ⟨j,u,rfl,e⟩ | ⟨y,u,rfl,e⟩
   ·injection e with e1 _;rw [e1]
   ·exact nomatch e
  ·rcases lq hb with ⟨j,u,rfl,e⟩ | ⟨y,u,rfl,e⟩
   ·exact nomatch e
   ·injection e with e1 _;rw [e1]
 byValue:=fun k v h=>by
  rcases lq h with ⟨i,t,rfl,rfl⟩ | ⟨x,t,rfl,rfl⟩ <;> rfl
 pyHash:=fun hv h=>by
  rcases lq hv with ⟨i,t,rfl,rfl⟩ | ⟨x,t,rfl,rfl⟩
  ·exact wpAny_pyHash_int h
  ·exact wpAny_pyHash_str h
 eqBool:=fun hu hv h=>by
  rcases lq hu with ⟨i,t,rfl,rfl⟩ | ⟨x,t,rfl,rfl⟩
  ·rcases lq hv with ⟨j,u,rfl,rfl⟩ | ⟨y,u,rfl,rfl⟩
   ·rw [Ys] at h;exact wpAny_eqBool_int h
   ·rw [WH] at h;exact SeqAt.EqAt.int_str i t y u _ _ _ _ h
  ·rcases lq hv with ⟨j,u,rfl,rfl⟩ | ⟨y,u,rfl,rfl⟩
   ·rw [abO] at h;exact SeqAt.EqAt.str_int x t j u _ _ _ _ h
   ·rw [Rj] at h;exact wpAny_eqBool_str h
 «strs»:=fun k x t v h=>by
  rcases lq h with ⟨i,u,rfl,e⟩ | ⟨y,u,rfl,e⟩
  ·exact nomatch e
  ·injection e with e1 _;subst e1;cases v <;> rfl
def Vc (prog:Program) (w:World) (i:Int) (t:Tok):(dO prog w).is (.inl i) (.int i t)=true:=SX i t
def acq (prog:Program) (w:World) (x:Str) (t:Tok):(dO prog w).is (.inr x) (.str x t)=true:=ack x t
inductive V where
 | aw | bl (b:Bool) | int (i:Int) | str (x:Str) | byt (b:Array UInt8) | nA (b:UInt64) | ref (a:Addr) | ty (n:String)
 deriving DecidableEq
def RelV:V->Value->Prop
 | .aw,u=>u=Value.none
 | .bl b,u=>u=Value.bool b
 | .int i,u=>∃ t,u=Value.int i t
 | .str x,u=>∃ t,u=Value.str x t
 | .byt b,u=>∃ t,u=Value.bytes b t
 | .nA b,u=>∃ t,u=Value.float b t
 | .ref a,u=>u=Value.ref a
 | .ty n,u=>u=Value.type n
abbrev Vals:List V->List Value->Prop:=Paired RelV
def Vals.length {xs:List V} {us:List Value} (r:Vals xs us):xs.length=us.length:=Paired.length r
def Vals.get:∀ {xs:List V} {us:List Value} {i:Nat} {x:V},Vals xs us->xs[i]?=some x->∃ u,us[i]?=some u/\RelV x u
 | _,_,_,_,.nil,e=>by simp at e
 | _,_,0,_,.cons r _,e=>by simp at e;subst e;exact ⟨_,rfl,r⟩
 | _,_,i+1,x,.cons _ t,e=>by
  obtain ⟨u,h1,h2⟩:=Vals.get (i:=i) (x:=x) t (by simpa using e);exact ⟨u,by simpa using h1,h2⟩
def Vals.set {x:V} {u:Value} (r:RelV x u):∀ {xs:List V} {us:List Value} (i:Nat),Vals xs us->Vals (xs.set i x) (us.set i u)
 | _,_,_,.nil=>.nil
 | _,_,0,.cons _ t=>.cons r t
 | _,_,i+1,.cons q t=>.cons q (Vals.set r i t)
def Vals.append:∀ {xs ys:List V} {us ws:List Value},Vals xs us->Vals ys ws->Vals (xs++ys) (us++ws)
 | _,_,_,_,.nil,s=>s
 | _,_,_,_,.cons r t,s=>.cons r (Vals.append t s)
def Vals.take:∀ {xs:List V} {us:List Value} (n:Nat),Vals xs us->Vals (xs.take n) (us.take n)
 | _,_,0,_=>.nil
 | _,_,_+1,.nil=>.nil
 | _,_,n+1,.cons r t=>.cons r (Vals.take n t)
def Vals.drop:∀ {xs:List V} {us:List Value} (n:Nat),Vals xs us->Vals (xs.drop n) (us.drop n)
 | _,_,0,r=>r
 | _,_,_+1,.nil=>.nil
 | _,_,n+1,.cons _ t=>Vals.drop n t
def eL:Option V->Option Value->Prop
 | some v,some u=>RelV v u
 | none,none=>True
 | _,_=>False
def KV {κ:Type}:List (κ×V)->List (κ×Value)->Prop:=Paired fun (p:κ×V) (q:κ×Value)=>p.1=q.1/\RelV p.2 q.2
def kV:Key->V
 | .inl i=>.int i
 | .inr x=>.str x
inductive HO where
 /-- a list -/
 | lst (xs:List V)
 /-- a tuple (never changes) -/
 | tup (xs:List V)
 /-- a dict whose keys are ints and texts;one whose keys are tuples of ints and texts (kq empty one is both) -/
 | dK (kvs:List (Key×V)) | dT (kvs:List (List Key×V))
 /-- a set of ints: ao members,ao size -/
 | set (S:Int->Bool) (n:Nat)
 /-- an instance of kq class at C,ao dict at dx,ao attributes -/
 | ins (C dx:Addr) (fs:List (Str×V))
 /-- kq dict of kq instance at x -/
 | own (x:Addr)
 /-- kq dict of an exception -/
 | xd (fs:List (Str×V))
 /-- a bound method,f of x -/
 | met (f x:Addr)
 /-- a range object lo,lo+1,.. below hi -/
 | vJ (lo hi:Int)
 /-- a thing that is known to kq object (kq script;a dict while a loop walks it): read,never written while it is so -/
 | dI (o:Obj) (u:HO)
 /-- a code object's table -/
 | mf (ps:Array Value)
 /-- any other thing,by what is true of ao one object (a def of one's own: SetO a S n:=HO.ext fun h=>..) -/
 | ext (φ:Heap->Prop)
abbrev Hp:=Addr->Option HO
def upd (H:Hp) (a:Addr) (o:HO):Hp:=fun b=>if b=a then some o else H b
def ay {H:Hp} {a:Addr} {o:HO}:upd H a o a=some o:=by unfold upd;rw [AT rfl]
def aj {H:Hp} {a b:Addr} {o:HO} (h:b≠a):upd H a o b=H b:=by unfold upd;rw [zn h]
def mx {H:Hp} {a:Addr} {o u:HO}:upd (upd H a o) a u=upd H a u:=by
 funext b;unfold upd;split <;> rfl
def VM {H:Hp} {a b:Addr} {o u:HO} (h:H a=some o) (h':H b=some u) (d:o≠u):a≠b:=by
 intro e;subst e;rw [h] at h';exact d (Fk h')
def gd {H:Hp} {a b:Addr} {o:HO} (h:H a=some o) (h':H b=none):a≠b:=by
 intro e;subst e;rw [h] at h';cases h'
def Cg (h:Heap) (a:Addr) (items:Array Value):Prop:=∃ o,h.get? a=some o/\o.cls=.type "tuple" /\ ∃ n,o.data=.seq items n/\o.dict=none
def Cg.t {h:Heap} {a:Addr} {items:Array Value} (x:Cg h a items):IsTup h a items:=let ⟨o,e,c,n,d,_⟩:=x;⟨o,e,c,n,d⟩
section
variable (P:Program) (w:World)
def bQ (H:Hp) (h:Heap) (a:Addr):HO->Prop
 | .lst xs=>xs.length<=sizeLine/\∃ (ao:List Value) (n:Nat),Vals xs ao/\h.get? a=some { cls:=.type "list",data:=.seq ao.toArray n }
 | .tup xs=>xs.length<=sizeLine/\∃ ao:List Value,Vals xs ao/\Cg h a ao.toArray
 | .dK kvs=>kvs.length<=sizeLine/\(a == sysModules)=false/\∃ vs,KV kvs vs/\h.DictOf (dO P w) a vs
 | .dT kvs=>kvs.length<=sizeLine/\(a == sysModules)=false/\∃ xs:List (List Key×Addr×Value),
   Paired (fun (p:List Key×V) (q:List Key×Addr×Value)=>p.1=q.1/\H q.2.1=some (.tup (p.1.map kV))/\RelV p.2 q.2.2) kvs xs /\
   ∃ o es ep,h.get? a=some o/\o.ExactDict/\o.data=.dict es ep/\es.toList=xs.map (entryOfKey (tupleKind (dO P w)))/\(xs.map (·.1)).Nodup
 | .set S n=>h.SetOf (intKind P w) a S n
 | .ins C dx fs=>H dx=some (.own a)/\fs.length<=1000/\dx≠a/\h.get? a=some (W.instObj C dx) /\
   ∃ mA,h.Ns1 dx mA/\(∀ f,eL (fs.lookup f) (mA f))/\PySem.Within mA (fs.map (·.1))
 | .own _=>∃ o,h.get? a=some o
 | .xd fs=>∃ mA,h.Ns1 a mA/\∀ f,eL (fs.lookup f) (mA f)
 | .vJ lo hi=>∃ t u v,h.get? a=some { cls:=.type "range",data:=.fields #[.int lo t,.int hi u,.int 1 v] }
 | .dI o u=>h.get? a=some o/\bQ H h a u
 | .mf ps=>h.get? a=some { cls:=.none,data:=.fields ps }
 | .met f x=>h.get? a=some (W.methodObj (.ref f) (.ref x))
 | .ext φ=>φ h/\(∃ o,h.get? a=some o)/\∀ h1 h2:Heap,φ h1->(∀ o,h1.get? a=some o->h2.get? a=some o)->φ h2
def bD (H:Hp) (h:Heap):Prop:=∀ a o,H a=some o->bQ P w H h a o
end
section
variable {P:Program} {w:World} {H H':Hp} {h h':Heap} {a:Addr} {o:HO}
def bQ.lt (x:bQ P w H h a o):a < h.objs.size:=by
 cases o with
 | lst xs=>obtain ⟨_,_,_,_,e⟩:=x;exact sB e
 | tup xs=>obtain ⟨_,_,_,p⟩:=x;exact p.t.lt
 | dK kvs=>obtain ⟨_,_,_,_,o,_,_,e,_⟩:=x;exact sB e
 | dT kvs=>obtain ⟨_,_,_,_,o,_,_,e,_⟩:=x;exact sB e
 | set S n=>obtain ⟨o,_,_,_,e,_⟩:=x;exact sB e
 | ins C dx fs=>obtain ⟨_,_,_,e,_⟩:=x;exact sB e
 | own y=>obtain ⟨_,e⟩:=x;exact sB e
 | xd fs=>obtain ⟨_,⟨_,_,_,e,_⟩,_⟩:=x;exact sB e
 | vJ lo hi=>obtain ⟨_,_,_,e⟩:=x;exact sB e
 | dI ob u=>obtain ⟨e,_⟩:=x;exact sB e
 | mf ps=>exact sB (show h.get? a=some _ from x)
 | met f y=>exact sB (show h.get? a=some _ from x)
 | ext φ=>obtain ⟨_,⟨_,e⟩,_⟩:=x;exact sB e
def Paired.zl {α β:Type} {F G:α->β->Prop}:∀ {l₁:List α} {l₂:List β},Paired F l₁ l₂->(∀ a b,F a b->G a b)->Paired G l₁ l₂
 | _,_,.nil,_=>.nil
 | _,_,.cons r t,f=>.cons (f _ _ r) (Paired.zl t f)
def bQ.gX (x:bQ P w H h a o) (k:∀ b u,(b=a\/H b=some (.own a))->h.get? b=some u->h'.get? b=some u)
  (ho:∀ b,H b=some (.own a)->H' b=some (.own a)) (ht:∀ b xs,H b=some (.tup xs)->H' b=some (.tup xs)):bQ P w H' h' a o:=by
 induction o with
 | lst xs=>obtain ⟨z,ao,n,r,e⟩:=x;exact ⟨z,ao,n,r,k _ _ (.inl rfl) e⟩
 | tup xs=>obtain ⟨z,ao,r,ob,e,c⟩:=x;exact ⟨z,ao,r,ob,k _ _ (.inl rfl) e,c⟩
 | dK kvs=>obtain ⟨z,y,vs,r,ob,es,ep,e,c⟩:=x;exact ⟨z,y,vs,r,ob,es,ep,k _ _ (.inl rfl) e,c⟩
 | dT kvs =>
  obtain ⟨z,y,xs,r,ob,es,ep,e,c⟩:=x;exact ⟨z,y,xs,Paired.zl r fun p q z=>⟨z.1,ht _ _ z.2.1,z.2.2⟩,ob,es,ep,k _ _ (.inl rfl) e,c⟩
 | set S n=>obtain ⟨ob,es,ep,t,e,c⟩:=x;exact ⟨ob,es,ep,t,k _ _ (.inl rfl) e,c⟩
 | ins C dx fs =>
  obtain ⟨d,z,ne,e,mA,⟨od,es,ep,e2,c⟩,r⟩:=x;exact ⟨ho _ d,z,ne,k _ _ (.inl rfl) e,mA,⟨od,es,ep,k _ _ (.inr d) e2,c⟩,r⟩
 | own y=>obtain ⟨ob,e⟩:=x;exact ⟨ob,k _ _ (.inl rfl) e⟩
 | xd fs=>obtain ⟨mA,⟨od,es,ep,e,c⟩,r⟩:=x;exact ⟨mA,⟨od,es,ep,k _ _ (.inl rfl) e,c⟩,r⟩
 | vJ lo hi=>obtain ⟨t,u,v,e⟩:=x;exact ⟨t,u,v,k _ _ (.inl rfl) e⟩
 | dI ob u ih=>obtain ⟨e,q⟩:=x;exact ⟨k _ _ (.inl rfl) e,ih q⟩
 | mf ps =>
  have e:h.get? a=some { cls:=.none,data:=.fields ps }:=x;show h'.get? a=some { cls:=.none,data:=.fields ps };exact k a _ (.inl rfl) e
 | met f y =>
  have e:h.get? a=some (W.methodObj (.ref f) (.ref y)):=x;show h'.get? a=some (W.methodObj (.ref f) (.ref y));exact k a _ (.inl rfl) e
 | ext φ=>obtain ⟨p,⟨o,e⟩,st⟩:=x;exact ⟨st _ _ p fun o q=>k _ _ (.inl rfl) q,⟨o,k _ _ (.inl rfl) e⟩,st⟩
def bD.lt (x:bD P w H h) (e:H a=some o):a < h.objs.size:=(x a o e).lt
def bD.fresh (x:bD P w H h) (e:h.objs.size<=a):H a=none:=by
 cases q:H a with
 | none=>rfl
 | some u=>exact absurd (wS (x.lt q) e) (GE _)
def bD.kept (x:bD P w H h) (k:∀ b u,h.get? b=some u->h'.get? b=some u):bD P w H h':=fun a o e =>
 (x a o e).gX (fun b u _ q=>k b u q) (fun _ q=>q) fun _ _ q=>q
def bD.laid (x:bD P w H h) (k:∀ b u,h.get? b=some u->h'.get? b=some u) (hp:h.objs.size<=a) (new:bQ P w (upd H a o) h' a o):bD P w (upd H a o) h':=fun b u e=>by
 have hn:=x.fresh hp;by_cases hb:b=a
 ·subst hb;rw [ay] at e;cases e;exact new
 ·rw [aj hb] at e;exact (x b u e).gX (fun c v _ q=>k c v q) (fun c q=>by rw [aj (gd q hn)];exact q) fun c xs q=>by rw [aj (gd q hn)];exact q
end
def Rd (H:Hp) (a:Addr) (u:HO):Prop:=H a=some u\/∃ o,H a=some (.dI o u)
def Rd.ok {P:Program} {w:World} {H:Hp} {h:Heap} {a:Addr} {u:HO} (r:Rd H a u) (x:bD P w H h):bQ P w H h a u:=by
 rcases r with r | ⟨o,r⟩
 ·exact x a u r
 ·obtain ⟨_,q⟩:=x a _ r;exact q
def tj:Option HO->Prop
 | some (.lst _)=>True
 | some (.dK _)=>True
 | some (.dT _)=>True
 | some (.set _ _)=>True
 | some (.ins _ _ _)=>True
 | some (.ext _)=>True
 | _=>False
section
variable {P:Program} {w:World} {H:Hp} {h h':Heap} {x e:Addr} {o':HO}
def bD.write (ok:bD P w H h) (mu:tj (H x)) (he:e=x\/H e=some (.own x)) (k:∀ b u,b≠e->h.get? b=some u->h'.get? b=some u) (qX:∃ u,h'.get? e=some u)
  (new:bQ P w (upd H x o') h' x o'):bD P w (upd H x o') h':=fun b u q=>by
 have M5:∀ c y,H c=some (.own y)->c≠x:=fun c y r z=>by subst z;rw [r] at mu;exact mu
 have ntup:∀ c xs,H c=some (.tup xs)->c≠x:=fun c xs r z=>by subst z;rw [r] at mu;exact mu
 by_cases hb:b=x
 ·subst hb;rw [ay] at q;cases q;exact new
 ·rw [aj hb] at q;by_cases oI:b=e
  ·have q':H b=some (.own x):=by
    rcases he with z | z
    ·exact absurd (oI.trans z) hb
    ·rw [oI];exact z
   rw [q] at q';cases q';obtain ⟨v,hv⟩:=qX;exact ⟨v,by rw [oI];exact hv⟩
  ·refine (ok b u q).gX (fun c v hc r=>k c v ?_ r) (fun c r=>by rw [aj (M5 c b r)];exact r) fun c xs r=>by rw [aj (ntup c xs r)];exact r
   rcases hc with rfl | hc
   ·exact oI
   ·rintro rfl;rcases he with z | z
    ·exact M5 c b hc z
    ·rw [hc] at z;cases z;exact hb rfl
end
structure Un (fs ex:List Addr) (H H':Hp) (h h':Heap):Prop where
 keep:∀ b o,h.get? b=some o->H b=none->b ∉ fs->b ∉ ex->h'.get? b=some o
 slot:∀ b o,h.get? b=some o->H b=none->b∈fs->b ∉ ex->∃ sl,h'.get? b=some { o with slots:=sl }
 free:∀ b o,h.get? b=some o->H b=none->b ∉ ex->H' b=none
 there:∀ b o,h.get? b=some o->b ∉ ex->∃ o',h'.get? b=some o'
 fb:∀ b xs,H b=some (.tup xs)->H' b=some (.tup xs)
 eM:∀ b o u,H b=some (.dI o u)->H' b=some (.dI o u)
 eT:∀ b ps,H b=some (.mf ps)->∃ more,H' b=some (.mf (ps++more))
section
variable {fs fs' ex ex':List Addr} {H H1 H2:Hp} {h h1 h2 h':Heap} {a x e:Addr} {o:HO}
def Un.any (u:Un fs ex H H1 h h1) {b:Addr} {ob:Obj} (q:h.get? b=some ob) (n:H b=none) (hx:b ∉ ex):∃ sl,h1.get? b=some { ob with slots:=sl }:=by
 by_cases hb:b∈fs
 ·exact u.slot b ob q n hb hx
 ·exact ⟨ob.slots,u.keep b ob q n hb hx⟩
def Un.kept (k:∀ b u,h.get? b=some u->h'.get? b=some u):Un fs ex H H h h' :=
 ⟨fun b ob q _ _ _=>k b ob q,fun b ob q _ _ _=>⟨ob.slots,k b ob q⟩,fun _ _ _ n _=>n,fun b ob q _=>⟨ob,k b ob q⟩,fun _ _ q=>q,fun _ _ _ q=>q,fun _ ps q=>⟨#[],by rw [q];simp⟩⟩
def Un.refl:Un fs ex H H h h:=Un.kept fun _ _ q=>q
def Un.laid (k:∀ b u,h.get? b=some u->h'.get? b=some u) (hp:h.objs.size<=a) (hn:H a=none):Un fs ex H (upd H a o) h h' where
 keep:=fun b u q _ _ _=>k b u q
 slot:=fun b u q _ _ _=>⟨u.slots,k b u q⟩
 free:=fun b u q n _=>by rw [aj (xL (wS (sB q) hp))];exact n
 there:=fun b u q _=>⟨u,k b u q⟩
 fb:=fun b xs q=>by rw [aj (gd q hn)];exact q
 eM:=fun b u xs q=>by rw [aj (gd q hn)];exact q
 eT:=fun b ps q=>⟨#[],by rw [aj (gd q hn),q];simp⟩
def Un.write (mu:tj (H x)) (he:e=x\/H e=some (.own x)) (k:∀ b u,b≠e->h.get? b=some u->h'.get? b=some u) (qX:∃ u,h'.get? e=some u):Un fs ex H (upd H x o) h h':=by
 have hx:∀ b,H b=none->b≠x:=fun b n z=>by subst z;rw [n] at mu;exact mu
 have hb:∀ b,H b=none->b≠e:=fun b n z=>by
  subst z;rcases he with r | r
  ·exact hx b n r
  ·rw [n] at r;cases r
 have hm:∀ b u,H b=some u->¬ tj (some u)->b≠x:=fun b u q nm z=>by subst z;rw [q] at mu;exact nm mu
 refine ⟨fun b u q n _ _=>k b u (hb b n) q,fun b u q n _ _=>⟨u.slots,k b u (hb b n) q⟩,fun b u q n _=>by rw [aj (hx b n)];exact n,fun b u q _=>?_,
  fun b xs q=>by rw [aj (hm b _ q fun z=>z)];exact q,fun b u xs q=>by rw [aj (hm b _ q fun z=>z)];exact q,fun b ps q=>⟨#[],by rw [aj (hm b _ q fun z=>z),q];simp⟩⟩
 by_cases oI:b=e
 ·subst oI;exact qX
 ·exact ⟨u,k b u oI q⟩
end
def wm (h:Heap) (H:Hp):List Addr:=(List.range h.objs.size).filter fun a=>(H a).isSome
def iX (h:Heap) (H:Hp):Heap:=W.hideAll h (wm h H)
def Wh (h:Heap) (H:Hp):(iX h H).objs.size=h.objs.size:=W.hideAll_size _ _
def abP {h:Heap} {H:Hp} {b:Addr} {o:Obj} (e:h.get? b=some o) (n:H b=none):(iX h H).get? b=some o :=
 Ja1 _ e fun hm=>by
  have q:(H b).isSome=true:=(_6.mp hm).2;rw [n] at q;simp at q
def aaw {h:Heap} {H:Hp} {b:Addr} {o:Obj} (e:(iX h H).get? b=some o):h.get? b=some o/\H b=none:=by
 have e':h.get? b=some o:=Ja9 (wm h H) e;refine ⟨e',?_⟩;cases q:H b with
 | none=>rfl
 | some x =>
  have hm:b∈wm h H:=_6.mpr ⟨Jaa.mpr (sB e'),by simp [q]⟩;have z:(iX h H).get? b=none:=W.hideAll_none (wm h H) hm;rw [z] at e;cases e
def WG (g h:Heap) (L:Addr):List (Addr×Obj):=(List.range h.objs.size).filterMap fun a=>if a=L\/(g.get? a).isSome=true then none else (h.get? a).map fun o=>(a,o)
def rest (g h:Heap) (L d:Addr):List (Addr×Obj):=(WG g h L).filter fun p=>decide (p.1≠d)
structure Mod (K:ν) (mg:Str->Option Value) (base:Heap):Prop where
 gS:K.In base
 glob:base.Ns mainGlobals mg
 blt:∃ mb,base.Ns builtinsNs mb/\∀ x:Str,x ≠ "__name__" -> mb x=bootBuiltins x
 nolimit:base.NoLimit
structure Cx where
 prog:Program
 w:World
 K:ν
 mg:Str->Option Value
 base:Heap
 A:Around
 N:List Str
 s₀:Shared
 H₀:Hp
 env:Env
 outer:List Env
 stack:List Env
 ex:List Addr
 fn:Str->Bool
 calm:Bool
 pn:List (Addr×Obj)
 xe:Value->Shared->Prop
def bK (l:List Env):List Addr:=l.filterMap (·.frame)
abbrev Cx.fs (X:Cx):List Addr:=bK X.outer
def mH (sc:Scope) (x:Str):Prop:=sc.names.lookup x=some .local\/sc.names.lookup x=some .cell\/sc.names.lookup x=some .free
def Loc (sc:Scope) (x:Str):Prop:=sc.names.lookup x=some .local\/sc.names.lookup x=some .cell
def Look (env:Env) (h:Heap) (m:Str->Option Value) (x:Str) (u:Value):Prop :=
 (env.kindOf x=some .local/\m x=some u)\/((env.kindOf x=some .cell\/env.kindOf x=some .free)/\∃ c,env.cells.lookup x=some c/\h.IsCell c (some u))
structure Cx.Ok (X:Cx):Prop where
 mod:Mod X.K X.mg X.base
 kind:X.env.scope.kind=.function
 glob:X.env.globals=mainGlobals
 blt:X.env.builtins=builtinsNs
 above:X.s₀.heap.objs.size<=X.env.locals
 inj:∀ x y c,X.env.cells.lookup x=some c->X.env.cells.lookup y=some c->x=y
 has:∀ x,(X.env.kindOf x=some .cell\/X.env.kindOf x=some .free)->∃ c,X.env.cells.lookup x=some c
 jn:∀ x c,X.fn x=true->X.env.cells.lookup x=some c->X.s₀.heap.objs.size<=c
 hd:X.calm=true->X.A.handled=none
 frames:X.A.frames=some X.stack
 ei:X.stack=X.outer\/(X.stack=X.env::X.outer/\X.env.frame=some X.env.locals)
 tR:∀ b∈X.ex,b≠X.env.locals/\∀ x c,X.env.cells.lookup x=some c->c≠b
 bs:∀ b o,X.base.get? b=some o->X.s₀.heap.get? b=some o/\X.H₀ b=none
 gB:X.base.objs.size<=X.s₀.heap.objs.size
 l8:∀ b o,X.base.get? b=some o->b ∉ X.ex
 mS:∀ b∈X.ex,b ∉ X.fs
 eU:X.s₀.heap.FunFrames X.base X.outer
 g8:∀ b∈X.fs,X.H₀ b=none
structure Inv (X:Cx) (π:List (Addr×Obj)) (σ:List (Option V)) (H:Hp) (s:Shared):Prop where
 ok:X.Ok
 os:s.os=X.s₀.os
 bare:AllBare s.gens
 base:Un X.fs X.ex X.H₀ H X.s₀.heap s.heap
 loc:∃ m,s.heap.Ns X.env.locals m/\∀ (i:Nat) (x:Str) (v:V),X.N[i]?=some x->σ[i]?=some (some v)->mH X.env.scope x->∃ u,RelV v u/\Look X.env s.heap m x u
 cell:∀ x c,X.env.cells.lookup x=some c->∃ v,s.heap.IsCell c v
 free:H X.env.locals=none
 eW:∀ x c,X.env.cells.lookup x=some c->H c=none
 pin:∀ p∈X.pn++π,s.heap.get? p.1=some p.2/\H p.1=none/\p.1≠X.env.locals/\p.1 ∉ X.fs/\∀ v,p.2.data≠.cell v
 au:bD X.prog X.w H s.heap
 len:σ.length=X.N.length
section
variable {X:Cx} {π:List (Addr×Obj)} {σ:List (Option V)} {H H':Hp} {s:Shared} {h':Heap}
def Cx.Ok.acX (ok:X.Ok) {b:Addr} {o:Obj} (e:X.base.get? b=some o):b ∉ X.fs:=fun hb=>by
 have:=(ok.eU.mem hb).1;rw [e] at this;cases this
def Inv.bs (I:Inv X π σ H s):∀ b o,X.base.get? b=some o->s.heap.get? b=some o/\H b=none:=fun b o e =>
 ⟨I.base.keep b o (I.ok.bs b o e).1 (I.ok.bs b o e).2 (I.ok.acX e) (I.ok.l8 b o e),I.base.free b o (I.ok.bs b o e).1 (I.ok.bs b o e).2 (I.ok.l8 b o e)⟩
def Inv.bk (I:Inv X π σ H s):∀ b o,X.base.get? b=some o->s.heap.get? b=some o:=fun b o e=>(I.bs b o e).1
def Inv.mod (I:Inv X π σ H s):Mod X.K X.mg X.base:=I.ok.mod
def Inv.cj (I:Inv X π σ H s):X.K.In s.heap:=I.ok.mod.gS.keeps I.bk
def Inv.lt (I:Inv X π σ H s):X.env.locals < s.heap.objs.size:=let ⟨_,hn,_⟩:=I.loc;hn.lt
def Inv.sz (I:Inv X π σ H s):X.s₀.heap.objs.size<=s.heap.objs.size:=wE I.ok.above (Ja6 I.lt)
def Inv.LC (I:Inv X π σ H s) {a:Addr} (h:s.heap.objs.size<=a):a ∉ X.fs:=fun hb=>by
 obtain ⟨_,o,ho,_⟩:=I.ok.eU.mem hb;exact absurd (wS (sB ho) (wE I.sz h)) (GE _)
def Inv.jH (I:Inv X π σ H s):∀ x c,X.env.cells.lookup x=some c->c≠X.env.locals:=fun x c e z=>by
 obtain ⟨v,o,ho,hd⟩:=I.cell x c e;obtain ⟨m,⟨o',es,ep,ho',hd',_⟩,_⟩:=I.loc;rw [z,ho'] at ho;cases ho;rw [hd'] at hd;cases hd
def Inv.eU (I:Inv X π σ H s):s.heap.FunFrames X.base X.outer:=by
 have all:∀ (l:List Env),(∀ b∈bK l,b∈X.fs)->X.s₀.heap.FunFrames X.base l->s.heap.FunFrames X.base l:=by
  intro l
  induction l with
  | nil=>intro _ _;trivial
  | cons env r ih =>
   intro hs hl;obtain ⟨hk,⟨L,o,hf,hn,ho,hd⟩,hr⟩:=hl;have hL:L∈X.fs:=hs L (by unfold bK;rw [_h,hf];exact _p);obtain ⟨sl,e⟩:=I.base.slot L o ho (I.ok.g8 L hL) hL fun z=>I.ok.mS L z hL;exact ⟨hk,⟨L,_,hf,hn,e,hd⟩,ih (fun b hb=>hs b (by unfold bK;rw [_h,hf];exact KK _ hb)) hr⟩
 exact all X.outer (fun _ hb=>hb) I.ok.eU
def Inv.stack (I:Inv X π σ H s):s.heap.FunFrames X.base X.stack:=by
 rcases I.ok.ei with e | ⟨e,hf⟩
 ·rw [e];exact I.eU
 ·rw [e];obtain ⟨m,hn,_⟩:=I.loc;refine .cons (by rw [I.ok.kind];decide) hf hn ?_ I.eU;exact ST (wE I.ok.gB I.ok.above)
def Inv.tu (I:Inv X π σ H s):∀ b∈bK X.stack,b∈X.env.locals::X.fs:=fun b hb=>by
 rcases I.ok.ei with e | ⟨e,hf⟩
 ·rw [e] at hb;exact KK _ hb
 ·rw [e] at hb;unfold bK at hb;rw [_h,hf] at hb;exact hb
def Inv.wH (I:Inv X π σ H s):∀ b∈bK X.stack,H b=none:=fun b hb=>by
 rcases pi.mp (I.tu b hb) with e | hb
 ·rw [e];exact I.free
 ·obtain ⟨_,o,ho,_⟩:=I.ok.eU.mem hb;exact I.base.free b o ho (I.ok.g8 b hb) fun z=>I.ok.mS b z hb
def Inv.step {g':Array GenState} {t':Nat} {d':Drawn} {ch:List Addr} (I:Inv X π σ H s)
  (ko:∀ b∈ch,(b∈X.ex\/X.s₀.heap.objs.size<=b)/\b≠X.env.locals/\(∀ x c,X.env.cells.lookup x=some c->c≠b)/\∀ p∈X.pn++π,p.1≠b)
  (keep:∀ b o,b≠X.env.locals->b ∉ X.fs->b ∉ ch->s.heap.get? b=some o->H b=none->h'.get? b=some o)
  (slot:∀ b o,b≠X.env.locals->b∈X.fs->b ∉ ch->s.heap.get? b=some o->H b=none->∃ sl,h'.get? b=some { o with slots:=sl }) (free:∀ b o,b ∉ ch->s.heap.get? b=some o->H b=none->H' b=none)
  (there:∀ b o,b ∉ ch->s.heap.get? b=some o->∃ o',h'.get? b=some o')
  (fb:∀ b xs,H b=some (.tup xs)->H' b=some (.tup xs)) (eM:∀ b o u,H b=some (.dI o u)->H' b=some (.dI o u)) (eT:∀ b ps,H b=some (.mf ps)->∃ more,H' b=some (.mf (ps++more)))
  (ns:∀ m,s.heap.Ns X.env.locals m->h'.Ns X.env.locals m) (au:bD X.prog X.w H' h') (hg:AllBare g') :
  Inv X π σ H' { s with heap:=h',gens:=g',drawn:=d',toks:=t' }:=by
 have uF:∀ b o,X.s₀.heap.get? b=some o->b≠X.env.locals:=fun b o e=>xL (wS (sB e) I.ok.above);have yt:∀ b o,X.s₀.heap.get? b=some o->b ∉ X.ex->b ∉ ch:=fun b o e hx hb=>by
  rcases (ko b hb).1 with z | z
  ·exact hx z
  ·exact absurd (wS (sB e) z) (GE _)
 have cellK:∀ x c,X.env.cells.lookup x=some c->∀ v,s.heap.IsCell c v->h'.IsCell c v:=fun x c e v ⟨o,ho,hd⟩=>by
  have uu:c ∉ ch:=fun z=>(ko c z).2.2.1 x c e rfl;by_cases hc:c∈X.fs
  ·obtain ⟨sl,q⟩:=slot c o (I.jH x c e) hc uu ho (I.eW x c e);exact ⟨_,q,hd⟩
  ·exact ⟨o,keep c o (I.jH x c e) hc uu ho (I.eW x c e),hd⟩
 refine ⟨I.ok,I.os,hg,⟨fun b o e n hb hx=>?_,fun b o e n hb hx=>?_,fun b o e n hx=>?_,fun b o e hx=>?_,fun b xs e=>fb b xs (I.base.fb b xs e),fun b o xs e=>eM b o xs (I.base.eM b o xs e),fun b ps e=>?_⟩,?_,fun x c e=>?_,?_,fun x c e=>?_,fun p hp=>?_,au,I.len⟩
 ·exact keep b o (uF b o e) hb (yt b o e hx) (I.base.keep b o e n hb hx) (I.base.free b o e n hx)
 ·obtain ⟨sl,e1⟩:=I.base.slot b o e n hb hx;obtain ⟨sl',e2⟩:=slot b _ (uF b o e) hb (yt b o e hx) e1 (I.base.free b o e n hx);exact ⟨sl',e2⟩
 ·obtain ⟨o',e1⟩:=I.base.there b o e hx;exact free b o' (yt b o e hx) e1 (I.base.free b o e n hx)
 ·obtain ⟨o',e1⟩:=I.base.there b o e hx;exact there b o' (yt b o e hx) e1
 ·obtain ⟨m1,e1⟩:=I.base.eT b ps e;obtain ⟨m2,e2⟩:=eT b _ e1;exact ⟨m1++m2,by rw [e2,Array.append_assoc]⟩
 ·obtain ⟨m,hn,hl⟩:=I.loc;refine ⟨m,ns m hn,fun i x v e1 e2 e3=>?_⟩;obtain ⟨u,r,l⟩:=hl i x v e1 e2 e3;refine ⟨u,r,?_⟩;rcases l with l | ⟨k,c,e,z⟩
  ·exact .inl l
  ·exact .inr ⟨k,c,e,cellK x c e _ z⟩
 ·obtain ⟨v,z⟩:=I.cell x c e;exact ⟨v,cellK x c e v z⟩
 ·obtain ⟨m,⟨o,_,_,ho,_⟩,_⟩:=I.loc;exact free _ o (fun z=>(ko _ z).2.1 rfl) ho I.free
 ·obtain ⟨v,o,ho,hd⟩:=I.cell x c e;exact free c o (fun z=>(ko c z).2.2.1 x c e rfl) ho (I.eW x c e)
 ·obtain ⟨e,n,ne,nf,d⟩:=I.pin p hp;have uu:p.1 ∉ ch:=fun z=>(ko p.1 z).2.2.2 p hp rfl;exact ⟨keep p.1 p.2 ne nf uu e n,free p.1 p.2 uu e n,ne,nf,d⟩
def Inv.un {t':Nat} (I:Inv X π σ H s) (u:Un X.fs [] H H' s.heap h') (au:bD X.prog X.w H' h'):Inv X π σ H' { s with heap:=h',toks:=t' }:=by
 obtain ⟨m,⟨o,es,ep,ho,r⟩,_⟩:=id I.loc;obtain ⟨sl,hL⟩:=u.any ho I.free (by simp);exact I.step (g':=s.gens) (d':=s.drawn) (ch:=[]) (fun _ z=>nomatch z) (fun b o _ hb _ e n=>u.keep b o e n hb (by simp)) (fun b o _ hb _ e n=>u.slot b o e n hb (by simp)) (fun b o _ e n=>u.free b o e n (by simp)) (fun b o _ e=>u.there b o e (by simp)) u.fb u.eM u.eT (fun m' hm=>by
  obtain ⟨o',es',ep',ho',r'⟩:=hm;rw [ho] at ho';cases ho';exact ⟨_,es',ep',hL,r'⟩) au I.bare
def Inv.call {g':Array GenState} {t':Nat} {d':Drawn} {ch:List Addr} (I:Inv X π σ H s) (u:Un (bK X.stack) ch H H' s.heap h') (au:bD X.prog X.w H' h') (hg:AllBare g')
  (ko:∀ b∈ch,(b∈X.ex\/X.s₀.heap.objs.size<=b)/\b≠X.env.locals/\(∀ x c,X.env.cells.lookup x=some c->c≠b)/\∀ p∈X.pn++π,p.1≠b) :
  Inv X π σ H' { s with heap:=h',gens:=g',drawn:=d',toks:=t' }:=by
 obtain ⟨m,⟨o,es,ep,ho,r⟩,_⟩:=id I.loc;obtain ⟨sl,hL⟩:=u.any ho I.free fun z=>(ko _ z).2.1 rfl;exact I.step (ch:=ch) ko (fun b o hL hb hc e n=>u.keep b o e n (fun z=>(pi.mp (I.tu b z)).elim hL hb) hc) (fun b o _ _ hc e n=>u.any e n hc) (fun b o hc e n=>u.free b o e n hc) (fun b o hc e=>u.there b o e hc) u.fb u.eM u.eT (fun m' hm=>by
  obtain ⟨o',es',ep',ho',r'⟩:=hm;rw [ho] at ho';cases ho';exact ⟨_,es',ep',hL,r'⟩) au hg
def Inv.turned {t':Nat} {it:Addr} (I:Inv X π σ H s) (k:∀ b o,b≠it->s.heap.get? b=some o->h'.get? b=some o) (hn:H it=none) (hL:it≠X.env.locals)
  (h1:it∈X.ex\/X.s₀.heap.objs.size<=it) (h2:∀ x c,X.env.cells.lookup x=some c->c≠it) (h3:∀ p∈X.pn++π,p.1≠it):Inv X π σ H { s with heap:=h',toks:=t' }:=by
 have N5:∀ b u,H b=some u->b≠it:=fun b u e z=>by rw [z,hn] at e;cases e
 refine I.step (g':=s.gens) (d':=s.drawn) (ch:=[it]) (fun b hb=>?_) (fun b o _ _ hc e _=>k b o (fun z=>hc (by simp [z])) e) (fun b o _ _ hc e _=>⟨o.slots,k b o (fun z=>hc (by simp [z])) e⟩) (fun _ _ _ _ n=>n)
  (fun b o hc e=>⟨o,k b o (fun z=>hc (by simp [z])) e⟩) (fun _ _ e=>e) (fun _ _ _ e=>e) (fun b ps e=>⟨#[],by rw [e];simp⟩) (fun m hm=>?_) (fun b u e=>?_) I.bare
 ·have e:b=it:=by simpa using hb
  subst e;exact ⟨h1,hL,h2,h3⟩
 ·obtain ⟨o,es,ep,ho,r⟩:=hm;exact ⟨o,es,ep,k _ o (wP hL) ho,r⟩
 ·refine (I.au b u e).gX (fun c v hc q=>k c v ?_ q) (fun _ q=>q) fun _ _ q=>q;rcases hc with z | z
  ·rw [z];exact N5 b u e
  ·exact N5 c _ z
def Inv.tok (I:Inv X π σ H s) (t:Nat):Inv X π σ H { s with toks:=t }:=I.un (h':=s.heap) (t':=t) Un.refl I.au
def Inv.kept {t':Nat} (I:Inv X π σ H s) (k:∀ b u,s.heap.get? b=some u->h'.get? b=some u):Inv X π σ H { s with heap:=h',toks:=t' }:=I.un (Un.kept k) (I.au.kept k)
def Inv.laid {a:Addr} {o:HO} {t':Nat} (I:Inv X π σ H s) (k:∀ b u,s.heap.get? b=some u->h'.get? b=some u) (hp:s.heap.objs.size<=a) (new:bQ X.prog X.w (upd H a o) h' a o) :
  Inv X π σ (upd H a o) { s with heap:=h',toks:=t' }:=I.un (Un.laid k hp (I.au.fresh hp)) (I.au.laid k hp new)
def Inv.write {x e:Addr} {o:HO} {t':Nat} (I:Inv X π σ H s) (mu:tj (H x)) (he:e=x\/H e=some (.own x)) (k:∀ b u,b≠e->s.heap.get? b=some u->h'.get? b=some u) (qX:∃ u,h'.get? e=some u)
  (new:bQ X.prog X.w (upd H x o) h' x o):Inv X π σ (upd H x o) { s with heap:=h',toks:=t' }:=I.un (Un.write mu he k qX) (I.au.write mu he k qX new)
def Inv.sI {π':List (Addr×Obj)} (I:Inv X π σ H s) (h:∀ p∈π',s.heap.get? p.1=some p.2/\H p.1=none/\p.1≠X.env.locals/\p.1 ∉ X.fs/\∀ v,p.2.data≠.cell v):Inv X π' σ H s :=
 ⟨I.ok,I.os,I.bare,I.base,I.loc,I.cell,I.free,I.eW,fun p hp=>(_O.mp hp).elim (fun z=>I.pin p (_d _ z)) (h p),I.au,I.len⟩
def zZ {N:List Str} (hN:N.Nodup) {i j:Nat} {x:Str} (a:N[i]?=some x) (b:N[j]?=some x):i=j:=by
 obtain ⟨h1,e1⟩:=sK.mp a;obtain ⟨h2,e2⟩:=sK.mp b;exact (List.getElem_inj hN).mp (e1.trans e2.symm)
def Fm {M:Model} {A:Around} {E:Value->Shared->Prop} {i:Nat} {x:Str} {v:V} {u:Value} {Q:Unit->Shared->Prop} (I:Inv X π σ H s) (hN:X.N.Nodup) (hi:X.N[i]?=some x) (hx:Loc X.env.scope x) (r:RelV v u)
  (h:∀ s',Inv X π (σ.set i (some v)) H s'->(∃ a,Heap.SameBut a s.heap s'.heap/\(a=X.env.locals\/X.env.cells.lookup x=some a))->Q () s') (hf:X.fn x=true\/X.env.scope.names.lookup x=some .local:=by first | exact .inl rfl | exact .inr rfl | assumption):wpAny M A (storeName X.env x u) Q E s:=by
 obtain ⟨m,hn,hl⟩:=id I.loc;have uG:(X.env.scope.kind == .class || (X.env.scope.kind == .module && X.env.locals != X.env.globals))=false:=by rw [I.ok.kind];rfl
 have Np:i < σ.length:=by rw [I.len];exact (sK.mp hi).1
 have jH:=I.jH;have tracked:∀ {a:Addr} {h':Heap},(∃ o,s.heap.get? a=some o/\H a=none)->Heap.SameBut a s.heap h'->bD X.prog X.w H h':=fun {a h'} ha hs b ob e=>by
  obtain ⟨_,_,mU⟩:=ha;refine (I.au b ob e).gX (fun c w' hc q=>(hs.2 c ?_).trans q) (fun _ q=>q) fun _ _ q=>q;rintro rfl;rcases hc with rfl | hc
  ·rw [mU] at e;cases e
  ·rw [mU] at hc;cases hc
 rcases hx with hk | hk
 ·refine wpAny_storeName_local hk hn (fun h' hn' hs=>?_) uG;obtain ⟨oL,_,_,ie,_⟩:=id hn;refine h _ ⟨I.ok,I.os,I.bare,⟨fun b o e n hb hx=>?_,fun b o e n hb hx=>?_,I.base.free,fun b o e hx=>?_,I.base.fb,I.base.eM,I.base.eT⟩,⟨_,hn',fun j y v' e1 e2 e3=>?_⟩,fun y c e=>?_,I.free,I.eW,fun p hp=>?_,tracked ⟨oL,ie,I.free⟩ hs,by simpa using I.len⟩ ⟨_,hs,.inl rfl⟩
  ·exact (hs.2 b (xL (wS (sB e) I.ok.above))).trans (I.base.keep b o e n hb hx)
  ·obtain ⟨sl,e1⟩:=I.base.slot b o e n hb hx;exact ⟨sl,(hs.2 b (xL (wS (sB e) I.ok.above))).trans e1⟩
  ·obtain ⟨o',e1⟩:=I.base.there b o e hx;exact ⟨o',(hs.2 b (xL (wS (sB e) I.ok.above))).trans e1⟩
  ·by_cases hj:j=i
   ·subst hj;rw [hi] at e1;cases e1;rw [TW Np] at e2;cases e2;exact ⟨u,r,.inl ⟨hk,by simp⟩⟩
   ·rw [SZ (wP hj)] at e2;obtain ⟨u',r',q⟩:=hl j y v' e1 e2 e3;refine ⟨u',r',?_⟩;rcases q with ⟨k,e⟩ | ⟨k,c,e,z⟩
    ·refine .inl ⟨k,?_⟩;have:y≠x:=fun e=>hj (zZ hN e1 (e ▸ hi));simp [this,e]
    ·exact .inr ⟨k,c,e,z.sameBut hs (jH y c e)⟩
  ·obtain ⟨w',z⟩:=I.cell y c e;exact ⟨w',z.sameBut hs (jH y c e)⟩
  ·obtain ⟨e,n,ne,nf,d⟩:=I.pin p hp;exact ⟨(hs.2 p.1 ne).trans e,n,ne,nf,d⟩
 ·have iM:X.fn x=true:=by
   rcases hf with z | z
   ·exact z
   ·rw [z] at hk;cases hk
  obtain ⟨c,hc⟩:=I.ok.has x (.inl hk);obtain ⟨w',z⟩:=I.cell x c hc;refine wpAny_storeName_cell I.ok.kind hk hc z (fun h' hc' hs=>?_);obtain ⟨oc,M4,hocd⟩:=id z;refine h { s with heap:=h' } ⟨I.ok,I.os,I.bare,⟨fun b o e n hb hx=>?_,fun b o e n hb hx=>?_,I.base.free,fun b o e hx=>?_,I.base.fb,I.base.eM,I.base.eT⟩,⟨m,hn.sameBut hs (wP (jH x c hc)),fun j y v' e1 e2 e3=>?_⟩,fun y c' e=>?_,I.free,I.eW,fun p hp=>?_,tracked ⟨oc,M4,I.eW x c hc⟩ hs,by simpa using I.len⟩ ⟨c,hs,.inr hc⟩
  ·exact (hs.2 b (xL (wS (sB e) (I.ok.jn x c iM hc)))).trans (I.base.keep b o e n hb hx)
  ·obtain ⟨sl,e1⟩:=I.base.slot b o e n hb hx;exact ⟨sl,(hs.2 b (xL (wS (sB e) (I.ok.jn x c iM hc)))).trans e1⟩
  ·obtain ⟨o',e1⟩:=I.base.there b o e hx;exact ⟨o',(hs.2 b (xL (wS (sB e) (I.ok.jn x c iM hc)))).trans e1⟩
  ·by_cases hj:j=i
   ·subst hj;rw [hi] at e1;cases e1;rw [TW Np] at e2;cases e2;exact ⟨u,r,.inr ⟨.inl hk,c,hc,hc'⟩⟩
   ·rw [SZ (wP hj)] at e2;obtain ⟨u',r',q⟩:=hl j y v' e1 e2 e3;refine ⟨u',r',?_⟩;rcases q with q | ⟨k,c',e,z'⟩
    ·exact .inl q
    ·refine .inr ⟨k,c',e,z'.sameBut hs ?_⟩;rintro rfl;exact hj (zZ hN e1 (I.ok.inj _ _ _ e hc ▸ hi))
  ·by_cases yq:c'=c
   ·subst yq;exact ⟨_,hc'⟩
   ·obtain ⟨w2,z2⟩:=I.cell y c' e;exact ⟨w2,z2.sameBut hs yq⟩
  ·obtain ⟨e,n,ne,nf,d⟩:=I.pin p hp;refine ⟨(hs.2 p.1 ?_).trans e,n,ne,nf,d⟩;intro q;rw [q,M4] at e;have q':oc=p.2:=Fk e;exact d w' (by rw [<- q'];exact hocd)
def zD {M:Model} {A:Around} {E:Value->Shared->Prop} {i:Nat} {x:Str} {v:V} {u:Value} {Q:Unit->Shared->Prop} (I:Inv X π σ H s) (hN:X.N.Nodup) (hi:X.N[i]?=some x) (hx:Loc X.env.scope x) (r:RelV v u)
  (h:∀ s',Inv X π (σ.set i (some v)) H s'->Q () s') (hf:X.fn x=true\/X.env.scope.names.lookup x=some .local:=by first | exact .inl rfl | exact .inr rfl | assumption):wpAny M A (storeName X.env x u) Q E s :=
 Fm I hN hi hx r (fun s' I' _=>h s' I') hf
def Inv.Jz {s':Shared} {ch:List Addr} (I:Inv X π σ H s) (ho:s'.os=s.os) (u:Un (bK X.stack) ch H H' s.heap s'.heap) (au:bD X.prog X.w H' s'.heap) (hg:AllBare s'.gens)
  (ko:∀ b∈ch,(b∈X.ex\/X.s₀.heap.objs.size<=b)/\b≠X.env.locals/\(∀ x c,X.env.cells.lookup x=some c->c≠b)/\∀ p∈X.pn++π,p.1≠b):Inv X π σ H' s':=by
 obtain ⟨h',g',d',t',o'⟩:=s';have e:o'=s.os:=ho;subst e;exact I.call (g':=g') (t':=t') (d':=d') u au hg ko
end
abbrev XK:=Value->Option Addr->Hp->Prop
abbrev St:=List (Option V)
abbrev VK:=V->Hp->Prop
abbrev TE:=St->Hp->VK->Prop
abbrev TT:=St->Hp->(Bool->Hp->Prop)->Prop
abbrev TA:=St->Hp->(List V->Hp->Prop)->Prop
structure Ends where
 nx:St->Hp->Prop
 rt:VK
 bk:St->Hp->Prop:=fun _ _=>False
 ct:St->Hp->Prop:=fun _ _=>False
abbrev TS:=Ends->St->Hp->Prop
def EP (X:Cx) (π:List (Addr×Obj)) (σ:St) (Q:VK) (u:Value) (s':Shared):Prop:=∃ v H',Inv X π σ H' s'/\RelV v u/\Q v H'
def TP (X:Cx) (π:List (Addr×Obj)) (σ:St) (Q:Bool->Hp->Prop) (b:Bool) (s':Shared):Prop:=∃ H',Inv X π σ H' s'/\Q b H'
def AP (X:Cx) (π:List (Addr×Obj)) (σ:St) (Q:List V->Hp->Prop) (us:List Value) (s':Shared):Prop:=∃ vs H',Inv X π σ H' s'/\Vals vs us/\Q vs H'
def SP (X:Cx) (π:List (Addr×Obj)) (D:Ends) (f:Flow) (s':Shared):Prop :=
 match f with
 | .next=>∃ σ' H',Inv X π σ' H' s'/\D.nx σ' H'
 | .brk=>∃ σ' H',Inv X π σ' H' s'/\D.bk σ' H'
 | .cont=>∃ σ' H',Inv X π σ' H' s'/\D.ct σ' H'
 | .ret u=>∃ v σ' H',Inv X π σ' H' s'/\RelV v u/\D.rt v H'
def PE (X:Cx) (e:Expr) (t:TE):Prop :=
 ∀ (π:List (Addr×Obj)) (s:Shared) (σ:St) (H:Hp) (Q:VK),Inv X π σ H s->t σ H Q->wpAny (model X.prog X.w) X.A (eval e X.env) (EP X π σ Q) X.xe s
def PT (X:Cx) (e:Expr) (t:TT):Prop :=
 ∀ (π:List (Addr×Obj)) (s:Shared) (σ:St) (H:Hp) (Q:Bool->Hp->Prop),Inv X π σ H s->t σ H Q->wpAny (model X.prog X.w) X.A (isTrue e X.env (eval e X.env)) (TP X π σ Q) X.xe s
def PW (X:Cx) (e:Expr) (t:TT):Prop :=
 ∀ (whole:Sem Value) (π:List (Addr×Obj)) (s:Shared) (σ:St) (H:Hp) (Q:Bool->Hp->Prop),Inv X π σ H s->t σ H Q->wpAny (model X.prog X.w) X.A (isTrue e X.env whole) (TP X π σ Q) X.xe s
def PW.pt {X:Cx} {e:Expr} {t:TT} (h:PW X e t):PT X e t:=h _
def PA (X:Cx) (es:List Expr) (t:TA):Prop :=
 ∀ (pos:Pos) (π:List (Addr×Obj)) (s:Shared) (σ:St) (H:Hp) (Q:List V->Hp->Prop),Inv X π σ H s->t σ H Q->wpAny (model X.prog X.w) X.A (spliced (backTo pos (starEach es X.env))) (AP X π σ Q) X.xe s
def PS (X:Cx) (st:Stmt) (t:TS):Prop :=
 ∀ (π:List (Addr×Obj)) (s:Shared) (σ:St) (H:Hp) (D:Ends),Inv X π σ H s->t D σ H->wpAny (model X.prog X.w) X.A (exec st X.env) (SP X π D) X.xe s
def dv (X:Cx) (st:List Stmt) (t:TS):Prop :=
 ∀ (π:List (Addr×Obj)) (s:Shared) (σ:St) (H:Hp) (D:Ends),Inv X π σ H s->t D σ H->wpAny (model X.prog X.w) X.A (execs st X.env) (SP X π D) X.xe s
def aC {α:Type} {t:Sem α} {Q Q':α->Shared->Prop} {M:Model} {A:Around} {E:Value->Shared->Prop} {s:Shared} (h:wpAny M A t Q E s) (hQ:∀ a s,Q a s->Q' a s):wpAny M A t Q' E s:=GT h hQ fun _ _ x=>x
section
variable {X:Cx}
def Fi (i:Nat):TE:=fun σ H Q=>∃ v,σ[i]?=some (some v)/\Q v H
def tC (v:V):TE:=fun _ H Q=>Q v H
def Ar {i:Nat} {x:Str} {pos:Pos} (hN:X.N[i]?=some x) (hv:mH X.env.scope x) (hd:(x == ("__debug__":Str))=false:=by decide) (aV:(x == ("__classdict__":Str))=false:=by decide):PE X (.Name x pos) (Fi i):=by
 intro π s σ H Q I h;obtain ⟨v,e,h⟩:=h;obtain ⟨m,hn,hl⟩:=I.loc;obtain ⟨u,r,l⟩:=hl i x v hN e hv;have fin:EP X π σ Q u s:=⟨v,H,I,r,h⟩;rcases l with ⟨hk,hm⟩ | ⟨hk,c,hc,MH⟩
 ·exact wpAny_Name (wpAny_loadName_local I.ok.kind hk hn hm fin) hd
 ·rcases hk with hk | hk
  ·exact wpAny_Name (wpAny_loadName_cell I.ok.kind hk hc MH fin) hd
  ·exact wpAny_Name (wpAny_loadName_free I.ok.kind hk hc MH fin aV) hd
def abS {i j pos}:PE X (.Constant (.int i) j pos) (tC (.int i)):=fun _ _ _ H _ I h=>wpAny_Constant_int ⟨.int i,H,I.tok _,⟨_,rfl⟩,h⟩
def acL {b j pos}:PE X (.Constant (.bool b) j pos) (tC (.bl b)):=fun _ _ _ H _ I h=>Constant_bool ⟨.bl b,H,I,rfl,h⟩
def Ym {j pos}:PE X (.Constant .none j pos) (tC .aw):=fun _ _ _ H _ I h=>Constant_none ⟨.aw,H,I,rfl,h⟩
def Xk {x j pos}:PE X (.Constant (.str x) j pos) (tC (.str x)):=fun _ _ _ H _ I h=>Calls.Constant_str ⟨.str x,H,I.tok _,⟨_,rfl⟩,h⟩
def Gl (X:Cx) (x:Str):Prop:=X.env.kindOf x=some .globalImplicit
def kW {E:Value->Shared->Prop} {π:List (Addr×Obj)} {s:Shared} {σ:St} {H:Hp} {x:Str} {u:Value} {pos:Pos} {Q:Value->Shared->Prop} (I:Inv X π σ H s) (hg:Gl X x) (hm:X.mg x=some u) (h:Q u s)
  (hd:(x == ("__debug__":Str))=false:=by decide):wpAny (model X.prog X.w) X.A (eval (.Name x pos) X.env) Q E s :=
 Calls.Name_function_global I.ok.kind hg (Calls.loadGlobal_global (by rw [I.ok.glob];exact I.mod.glob.keeps I.bk) hm h) hd
def oh {E:Value->Shared->Prop} {π:List (Addr×Obj)} {s:Shared} {σ:St} {H:Hp} {x:Str} {u:Value} {pos:Pos} {Q:Value->Shared->Prop} (I:Inv X π σ H s) (hg:Gl X x) (hm:X.mg x=none) (hv:bootBuiltins x=some u) (h:Q u s)
  (hn:x ≠ "__name__" := by decide) (hd:(x == ("__debug__":Str))=false:=by decide):wpAny (model X.prog X.w) X.A (eval (.Name x pos) X.env) Q E s:=by
 obtain ⟨mb,h1,h2⟩:=I.mod.blt;exact Calls.Name_function_global I.ok.kind hg (Calls.loadGlobal_builtin (by rw [I.ok.glob];exact I.mod.glob.keeps I.bk) hm (by rw [I.ok.blt];exact h1.keeps I.bk) ((h2 x hn).trans hv) h) hd
def O2 {x:Str} {v:V} {u:Value} {pos:Pos} (hg:Gl X x) (hm:X.mg x=some u) (r:RelV v u) (hd:(x == ("__debug__":Str))=false:=by decide):PE X (.Name x pos) (tC v) :=
 fun _ _ _ H _ I h=>kW I hg hm ⟨v,H,I,r,h⟩ hd
def Wb {x:Str} {v:V} {u:Value} {pos:Pos} (hg:Gl X x) (hm:X.mg x=none) (hv:bootBuiltins x=some u) (r:RelV v u) (hn:x ≠ "__name__" := by decide) (hd:(x == ("__debug__":Str))=false:=by decide):PE X (.Name x pos) (tC v) :=
 fun _ _ _ H _ I h=>oh I hg hm hv ⟨v,H,I,r,h⟩ hn hd
def Xi (ta tb:TE) (k:Int->Int->Hp->Prop):St->Hp->Prop:=fun σ H=>ta σ H fun x H1=>tb σ H1 fun y H2=>∃ i j,x=.int i/\y=.int j/\k i j H2
variable {a b:Expr} {ta tb:TE} {pos:Pos}
def PC (X:Cx) (op:CmpOp) (a b:Expr) (t:TE):Prop :=
 ∀ (π:List (Addr×Obj)) (s:Shared) (σ:St) (H:Hp) (Q:VK),Inv X π σ H s->t σ H Q ->
  wpAny (model X.prog X.w) X.A (eval a X.env) (fun v s₁=>wpAny (model X.prog X.w) X.A (eval b X.env) (fun u s₂=>wpAny (model X.prog X.w) X.A (compareOp op v u) (EP X π σ Q) X.xe s₂) X.xe s₁) X.xe s
def wB (b:Expr) {op:CmpOp} (h:op≠.In) (h2:op≠.NotIn):behindInMarks op b=false:=by
 have e1:(op == CmpOp.In)=false:=by cases op <;> first | rfl | exact absurd rfl h
 have e2:(op == CmpOp.NotIn)=false:=by cases op <;> first | rfl | exact absurd rfl h2
 cases b <;> simp [behindInMarks,e1,e2]
def qF (p:Int->Int->Bool) (ta tb:TE):TE:=fun σ H Q=>Xi ta tb (fun i j H2=>Q (.bl (p i j)) H2) σ H
abbrev tLt:TE->TE->TE:=qF fun i j=>decide (i < j)
abbrev tLe:TE->TE->TE:=qF fun i j=>decide (i<=j)
abbrev tGt:TE->TE->TE:=qF fun i j=>decide (j < i)
abbrev tGe:TE->TE->TE:=qF fun i j=>decide (j<=i)
abbrev ad0:TE->TE->TE:=qF fun i j=>decide (i=j)
abbrev adU:TE->TE->TE:=qF fun i j=>!decide (i=j)
def T6 (ta:TE):TE:=fun σ H Q=>ta σ H fun x H1=>Q (.bl (decide (x=.aw))) H1
def tB (t:TE):TT:=fun σ H Q=>t σ H fun x H1=>∃ c,x=.bl c/\Q c H1
variable {tA tB':TT} {rest:List Expr}
def yF (t u:TT):TT:=fun σ H Q=>t σ H fun c H1=>if c=true then u σ H1 Q else Q false H1
def C6 (t u:TT):TT:=fun σ H Q=>t σ H fun c H1=>if c=true then Q true H1 else u σ H1 Q
def A0 (t:TT):TT:=fun σ H Q=>t σ H fun c H1=>Q (!c) H1
def ace (ha:PT X a tA):PW X (.BoolOp .And [a] pos) tA:=by
 intro wh π s σ H Q I h;refine isTrue_and (aC (ha π s σ H Q I h) fun c s1 e=>?_);cases c with
 | true=>exact isTrue_and_nil e
 | false=>exact e
def Vi (ha:PT X a tA):PW X (.BoolOp .Or [a] pos) tA:=by
 intro wh π s σ H Q I h;refine isTrue_or (aC (ha π s σ H Q I h) fun c s1 e=>?_);cases c with
 | false=>exact isTrue_or_nil e
 | true=>exact e
def Px (ha:PT X a tA) (hb:PW X (.BoolOp .And (b::rest) pos) tB'):PW X (.BoolOp .And (a::b::rest) pos) (yF tA tB'):=by
 intro wh π s σ H Q I h;refine isTrue_and (aC (ha π s σ H _ I h) fun c s1 ⟨H1,I1,q1⟩=>?_);cases c with
 | true=>exact hb wh π s1 σ H1 Q I1 q1
 | false=>exact ⟨H1,I1,q1⟩
def Vl (ha:PT X a tA) (hb:PW X (.BoolOp .Or (b::rest) pos) tB'):PW X (.BoolOp .Or (a::b::rest) pos) (C6 tA tB'):=by
 intro wh π s σ H Q I h;refine isTrue_or (aC (ha π s σ H _ I h) fun c s1 ⟨H1,I1,q1⟩=>?_);cases c with
 | true=>exact ⟨H1,I1,q1⟩
 | false=>exact hb wh π s1 σ H1 Q I1 q1
def RZ (ha:PT X a tA):PT X (.UnaryOp .Not a pos) (A0 tA):=by
 intro π s σ H Q I h;exact isTrue_not (ha π s σ H (fun c H1=>Q (!c) H1) I h)
def Po {op} {t:TE} (h:PE X a t):PE X (.BoolOp op [a] pos) t:=fun π s σ H Q I hw=>BoolOp_one (h π s σ H Q I hw)
def Dx (t:TT) (ta tb:TE):TE:=fun σ H Q=>t σ H fun c H1=>if c=true then ta σ H1 Q else tb σ H1 Q
def adL {c:Expr} (hc:PT X c tA) (ha:PE X a ta) (hb:PE X b tb):PE X (.IfExp c a b pos) (Dx tA ta tb):=by
 intro π s σ H Q I h;refine wpAny_IfExp (aC (hc π s σ H _ I h) fun d s1 ⟨H1,I1,q1⟩=>?_);cases d with
 | true=>exact ha π s1 σ H1 Q I1 q1
 | false=>exact hb π s1 σ H1 Q I1 q1
end
def aH (K:ν) (H:Hp) (a:Addr) (xs:List V):Prop :=
 Rd H a (.lst xs) \/
  ∃ (o:Obj) (ao:Array Value) (n:Nat),K.lookup a=some o/\o.cls=.type "list" /\ o.dict=none/\o.data=.seq ao n/\ao.size<=sizeLine/\Vals xs ao.toList
def bT (K:ν) (H:Hp) (a:Addr) (xs:List V):Prop :=
 Rd H a (.tup xs) \/
  ∃ (o:Obj) (ao:Array Value) (n:Nat),K.lookup a=some o/\o.cls=.type "tuple" /\ o.data=.seq ao n/\ao.size<=sizeLine/\Vals xs ao.toList
def Pc:Value->Option V
 | .none=>some .aw
 | .bool b=>some (.bl b)
 | .int i _=>some (.int i)
 | .str x _=>some (.str x)
 | .bytes b _=>some (.byt b)
 | .float b _=>some (.nA b)
 | .ref a=>some (.ref a)
 | .type n=>some (.ty n)
 | _=>none
def RelV.abs {x:V} {u:Value} (r:RelV x u):Pc u=some x:=by
 cases x with
 | aw=>cases r;rfl
 | bl _=>cases r;rfl
 | int _=>obtain ⟨t,rfl⟩:=r;rfl
 | str _=>obtain ⟨t,rfl⟩:=r;rfl
 | byt _=>obtain ⟨t,rfl⟩:=r;rfl
 | nA _=>obtain ⟨t,rfl⟩:=r;rfl
 | ref _=>cases r;rfl
 | ty _=>cases r;rfl
def RelV.inj {x y:V} {u:Value} (r:RelV x u) (q:RelV y u):x=y:=Fk (r.abs.symm.trans q.abs)
def Vals.inj:∀ {xs ys:List V} {us:List Value},Vals xs us->Vals ys us->xs=ys
 | _,_,_,.nil,.nil=>rfl
 | _,_,_,.cons r t,.cons r' t'=>by rw [r.inj r',Vals.inj t t']
section
variable {X:Cx} {π:List (Addr×Obj)} {σ:St} {H:Hp} {s:Shared} {a:Addr} {xs ys:List V}
def aH.of {K:ν} (h:H a=some (.lst xs)):aH K H a xs:=.inl (.inl h)
def bT.of {K:ν} (h:H a=some (.tup xs)):bT K H a xs:=.inl (.inl h)
def Inv.list (I:Inv X π σ H s) (h:aH X.K H a xs):∃ ao:List Value,Vals xs ao/\PlainL s.heap a ao.toArray/\xs.length<=sizeLine:=by
 rcases h with h | ⟨o,ao,n,hk,hc,hd,hs,hz,r⟩
 ·obtain ⟨z,ao,n,r,e⟩:=h.ok I.au;exact ⟨ao,r,⟨_,n,e,rfl,rfl,rfl⟩,z⟩
 ·refine ⟨ao.toList,r,⟨o,n,I.cj a o hk,hc,hd,by simpa using hs⟩,?_⟩;have e:=r.length;simp only [On] at e;omega
def Inv.tuple (I:Inv X π σ H s) (h:bT X.K H a xs):∃ ao:List Value,Vals xs ao/\IsTup s.heap a ao.toArray/\xs.length<=sizeLine:=by
 rcases h with h | ⟨o,ao,n,hk,hc,hs,hz,r⟩
 ·obtain ⟨z,ao,r,p⟩:=h.ok I.au;exact ⟨ao,r,p.t,z⟩
 ·refine ⟨ao.toList,r,⟨o,I.cj a o hk,hc,n,by simpa using hs⟩,?_⟩;have e:=r.length;simp only [On] at e;omega
def Inv.acz (I:Inv X π σ H s) (h:aH X.K H a xs) (h':aH X.K H a ys):xs=ys:=by
 obtain ⟨ao,r,⟨o,n,e,_,_,d⟩,_⟩:=I.list h;obtain ⟨its',r',⟨o',n',e',_,_,d'⟩,_⟩:=I.list h';rw [e] at e';cases e';rw [d] at d';injection d' with d1 _;have:ao=its':=by simpa using PP Array.toList d1
 subst this;exact r.inj r'
end
abbrev Cx.wish (X:Cx) (E:Value->Shared->Prop):Cx:={ X with xe:=E }
abbrev Cx.w6 (X:Cx):Cx:=X.wish fun _ _=>False
def Cx.Ok.wish {X:Cx} (ok:X.Ok) (E:Value->Shared->Prop):(X.wish E).Ok :=
 ⟨ok.mod,ok.kind,ok.glob,ok.blt,ok.above,ok.inj,ok.has,ok.jn,ok.hd,ok.frames,ok.ei,ok.tR,ok.bs,ok.gB,ok.l8,ok.mS,ok.eU,ok.g8⟩
def Cx.Ok.mj {X:Cx} {E:Value->Shared->Prop} (ok:(X.wish E).Ok):X.Ok :=
 ⟨ok.mod,ok.kind,ok.glob,ok.blt,ok.above,ok.inj,ok.has,ok.jn,ok.hd,ok.frames,ok.ei,ok.tR,ok.bs,ok.gB,ok.l8,ok.mS,ok.eU,ok.g8⟩
section
variable {X:Cx} {π:List (Addr×Obj)} {σ:St} {H:Hp} {s:Shared} {E:Value->Shared->Prop}
def Inv.wish (I:Inv X π σ H s) (E:Value->Shared->Prop):Inv (X.wish E) π σ H s:=⟨I.ok.wish E,I.os,I.bare,I.base,I.loc,I.cell,I.free,I.eW,I.pin,I.au,I.len⟩
def Inv.mj (I:Inv (X.wish E) π σ H s):Inv X π σ H s:=⟨I.ok.mj,I.os,I.bare,I.base,I.loc,I.cell,I.free,I.eW,I.pin,I.au,I.len⟩
def SP.mj {D:Ends} {f:Flow} {s':Shared} (h:SP (X.wish E) π D f s'):SP X π D f s':=by
 cases f with
 | next=>obtain ⟨σ',H',I,q⟩:=h;exact ⟨σ',H',I.mj,q⟩
 | brk=>obtain ⟨σ',H',I,q⟩:=h;exact ⟨σ',H',I.mj,q⟩
 | cont=>obtain ⟨σ',H',I,q⟩:=h;exact ⟨σ',H',I.mj,q⟩
 | ret u=>obtain ⟨v,σ',H',I,r,q⟩:=h;exact ⟨v,σ',H',I.mj,r,q⟩
def dv.w6 {st:List Stmt} {t:TS} (h:dv X.w6 st t):dv X st t:=fun π s σ H D I hw =>
 GT (h π s σ H D (I.wish _) hw) (fun _ _ q=>q.mj) fun _ _ z=>False.elim z
end
section
variable {X:Cx} {st:Stmt} {rest:List Stmt} {t u:TS} {e:Expr} {te:TE} {pos:Pos}
def rZ:TS:=fun D σ H=>D.nx σ H
def Vz (t u:TS):TS:=fun D σ H=>t { D with nx:=u D } σ H
def Rw:dv X [] rZ:=fun _ _ σ H _ I h=>_P ⟨σ,H,I,h⟩
def Ru (h1:PS X st t) (h2:dv X rest u):dv X (st::rest) (Vz t u):=by
 intro π s σ H D I h;refine _Z (aC (h1 π s σ H { D with nx:=u D } I h) fun f s1 q=>?_);cases f with
 | next =>
  obtain ⟨σ',H',I',q⟩:=q;exact h2 π s1 σ' H' D I' q
 | ret v=>exact q
 | brk=>exact q
 | cont=>exact q
def adG (h1:PS X st t):dv X [st] t:=by
 intro π s σ H D I h;refine _Z (aC (h1 π s σ H D I h) fun f s1 q=>?_);cases f with
 | next=>exact _P q
 | ret v=>exact q
 | brk=>exact q
 | cont=>exact q
def Inv.quiet {π:List (Addr×Obj)} {σ:St} {H:Hp} {s:Shared} (I:Inv X π σ H s):interactive X.env=false:=by simp [interactive,I.ok.kind]
def nB (te:TE):TS:=fun D σ H=>te σ H fun _ H1=>D.nx σ H1
def Zt (he:PE X e te) (hs:swapsWith e none pos.line X.env=pure false:=by rfl):PS X (.Expr e pos) (nB te):=by
 intro π s σ H D I h;exact wpAny_Expr_any (aC (he π s σ H _ I h) fun v s1 ⟨x,H1,I1,r1,q1⟩=>⟨σ,H1,I1,q1⟩) I.quiet hs
def Bc (te:TE):TS:=fun D σ H=>te σ H D.rt
def Ss (he:PE X e te):PS X (.Return (some e) pos) (Bc te):=by
 intro π s σ H D I h;exact wpAny_Return_some (aC (he π s σ H _ I h) fun v s1 ⟨x,H1,I1,r1,q1⟩=>⟨x,σ,H1,I1,r1,q1⟩)
def C8:TS:=fun D _ H=>D.rt .aw H
def Py:PS X (.Return none pos) C8:=fun _ _ σ H _ I h=>wpAny_Return_none ⟨.aw,σ,H,I,rfl,h⟩
def rL (c:TT) (t u:TS):TS:=fun D σ H=>c σ H fun b H1=>if b=true then t D σ H1 else u D σ H1
def Tj {c:Expr} {a b:List Stmt} {tc:TT} (hc:PT X c tc) (ha:dv X a t) (hb:dv X b u):PS X (.If c a b pos) (rL tc t u):=by
 intro π s σ H D I h;refine wpAny_If (aC (hc π s σ H _ I h) fun d s1 ⟨H1,I1,q1⟩=>?_);cases d with
 | true=>exact ha π s1 σ H1 D I1 q1
 | false=>exact hb π s1 σ H1 D I1 q1
def Dw:TS:=fun _ _ _=>False
def Yo:PS X st Dw:=fun _ _ _ _ _ _ h=>h.elim
end
abbrev TG:=V->St->Hp->(St->Hp->Prop)->Prop
abbrev j0:=List V->St->Hp->(St->Hp->Prop)->Prop
def PG (X:Cx) (target:Expr) (t:TG):Prop :=
 ∀ (π:List (Addr×Obj)) (s:Shared) (σ:St) (H:Hp) (v:V) (u:Value) (Q:St->Hp->Prop),Inv X π σ H s->RelV v u->t v σ H Q ->
  wpAny (model X.prog X.w) X.A (assign target X.env u) (fun _ s'=>∃ σ' H',Inv X π σ' H' s'/\Q σ' H') X.xe s
def sZ (X:Cx) (ts:List Expr) (t:j0):Prop :=
 ∀ (π:List (Addr×Obj)) (s:Shared) (σ:St) (H:Hp) (vs:List V) (us:List Value) (Q:St->Hp->Prop),Inv X π σ H s->Vals vs us->t vs σ H Q ->
  wpAny (model X.prog X.w) X.A (assignInOrder ((assignEach ts X.env).map (·.2)) us) (fun _ s'=>∃ σ' H',Inv X π σ' H' s'/\Q σ' H') X.xe s
abbrev rR:=V->V->V->Hp->(Hp->Prop)->Prop
def xH (X:Cx) (t:rR):Prop :=
 ∀ (π:List (Addr×Obj)) (s:Shared) (σ:St) (H:Hp) (o i v:V) (ov iv u:Value) (Q:Hp->Prop),Inv X π σ H s->RelV o ov->RelV i iv->RelV v u->t o i v H Q ->
  wpAny (model X.prog X.w) X.A (setItem ov iv u) (fun _ s'=>∃ H',Inv X π σ H' s'/\Q H') X.xe s
abbrev TIp:=V->V->Hp->VK->Prop
section
variable {X:Cx} {pos:Pos}
def fT (i:Nat):TG:=fun v σ H Q=>Q (σ.set i (some v)) H
def SU {i:Nat} {x:Str} (hN:X.N.Nodup) (hi:X.N[i]?=some x) (hx:Loc X.env.scope x) (hf:X.fn x=true\/X.env.scope.names.lookup x=some .local:=by first | exact .inl rfl | exact .inr rfl | assumption):PG X (.Name x pos) (fT i):=by
 intro π s σ H v u Q I r h;exact wpAny_assign_Name (zD I hN hi hx r (fun s' I'=>⟨_,H,I',h⟩) hf)
def Ck:j0:=fun vs σ H Q=>vs=[]/\Q σ H
def BH (t:TG) (u:j0):j0:=fun vs σ H Q=>∃ v r,vs=v::r/\t v σ H fun σ' H'=>u r σ' H' Q
def aau:sZ X [] Ck:=by
 intro π s σ H vs us Q I r h;obtain ⟨e,h⟩:=h;subst e;cases r;exact assignInOrder_nil ⟨σ,H,I,h⟩
def adx {e:Expr} {es:List Expr} {t:TG} {u:j0} (h1:PG X e t) (h2:sZ X es u)
  (hs:(assignEach (e::es) X.env).map (·.2)=assign e X.env::(assignEach es X.env).map (·.2):=by rfl):sZ X (e::es) (BH t u):=by
 intro π s σ H vs us Q I r h;obtain ⟨v,vr,e1,h⟩:=h;subst e1;cases r with
 | cons r rr =>
  rw [hs];refine assignInOrder_cons (aC (h1 π s σ H _ _ _ I r h) fun _ s1 ⟨σ1,H1,I1,q1⟩=>?_);exact h2 π s1 σ1 H1 _ _ Q I1 rr q1
def Au (K:ν) (n:Nat) (t:j0):TG:=fun v σ H Q=>∃ a xs,v=.ref a/\bT K H a xs/\xs.length=n/\t xs σ H Q
def Yv {es:List Expr} {k:Nat} {t:j0} {n:Nat} (hc:X.calm=true) (h:sZ X es t)
  (hn:(assignEach es X.env).length=n:=by rfl) (bt:(assignEach es X.env).findIdx? (·.1)=none:=by rfl):PG X (.Tuple es k pos) (Au X.K n t):=by
 intro π s σ H v u Q I r hw;obtain ⟨a,xs,e1,hq,hl,hw⟩:=hw;subst e1;cases r;obtain ⟨ao,rv,ht,hz⟩:=I.tuple hq;refine assign_Tuple_tuple (I.ok.hd hc) ht (by simp [hn,<- hl,rv.length]) bt fun h' hx=>?_;have I1:Inv X π σ H { s with heap:=h' }:=I.kept (t':=s.toks) fun b o e=>hx b o (xL (sB e)) e;exact h π _ σ H xs _ Q I1 (by simpa using rv) hw
def z7 (to ti:TE) (t:rR):TG:=fun v σ H Q=>to σ H fun o H1=>ti σ H1 fun i H2=>t o i v H2 fun H3=>Q σ H3
def Sd {o i:Expr} {to ti:TE} {t:rR} (ho:PE X o to) (hi:PE X i ti) (hs:xH X t)
  (ha:∀ v,assign (.Subscript o i pos) X.env v=(do
   let ov <- holding [v] (eval o X.env)
   let iv <- holding [v,ov] (eval i X.env)
   standAt pos
   holding [v,ov,iv] (setItem ov iv v)
   release [v,ov,iv] []):=by intro _;rfl):PG X (.Subscript o i pos) (z7 to ti t):=by
 intro π s σ H v u Q I r h;rw [ha];refine lv (Id (aC (ho π s σ H _ I h) fun ov s1 ⟨x,H1,I1,r1,q1⟩=>?_));refine lv (Id (aC (hi π s1 σ H1 _ I1 q1) fun iv s2 ⟨y,H2,I2,r2,q2⟩=>?_));refine lv (_1 (lv (Id (aC (hs π s2 σ H2 x y v ov iv u _ I2 r1 r2 r q2) fun _ s3 ⟨H3,I3,q3⟩=>?_))));exact wpAny_release ⟨σ,H3,I3,q3⟩
def mC (te:TE) (g:TG):TS:=fun D σ H=>te σ H fun x H1=>g x σ H1 D.nx
def aaK {tg e:Expr} {te:TE} {g:TG} (he:PE X e te) (hg:PG X tg g) (hs:swapsWithSole [tg] e pos.line X.env=pure false:=by rfl) (hw:swappedStores [tg] e X.env=pure none:=by rfl)
  (h1:(assignEach [tg] X.env).map (·.2)=[assign tg X.env]:=by rfl):PS X (.Assign [tg] e pos) (mC te g):=by
 intro π s σ H D I h;refine wpAny_Assign_stores (aC (he π s σ H _ I h) fun v s1 ⟨x,H1,I1,r1,q1⟩=>?_) hs hw;rw [h1];exact aC (hg π s1 σ H1 x v _ I1 r1 q1) fun _ s2 q=>q
def ZJ {i:Nat} {x:Str} {e:Expr} {te:TE} {pos':Pos} (hN:X.N.Nodup) (hi:X.N[i]?=some x) (hx:Loc X.env.scope x) (he:PE X e te) (hs:swapsWith e (some (.Name x pos')) pos.line X.env=pure false:=by rfl) (hf:X.fn x=true\/X.env.scope.names.lookup x=some .local:=by first | exact .inl rfl | exact .inr rfl | assumption) :
  PS X (.Assign [.Name x pos'] e pos) (mC te (fT i)):=by
 intro π s σ H D I h;refine wpAny_Assign_Name (aC (he π s σ H _ I h) fun v s1 ⟨y,H1,I1,r1,q1⟩=>?_) hs;exact zD I1 hN hi hx r1 (fun s2 I2=>⟨_,H1,I2,q1⟩) hf
end
section
variable {X:Cx} {pos:Pos}
def Mr (c:TT) (tb:TS):TS:=fun D σ H=>∃ W:Nat->St->Hp->Prop,(∃ m,W m σ H)/\∀ m σ H,W m σ H ->
 c σ H fun b H1=>if b=true then ∃ N:St->Hp->Prop,(∀ σ' H',N σ' H'->∃ m',m' < m/\W m' σ' H')/\tb { D with nx:=N,ct:=N,bk:=D.nx } σ H1 else D.nx σ H1
def adh {c:Expr} {body:List Stmt} {tc:TT} {tb:TS} (hp:PassesOwn (model X.prog X.w) X.A X.env X.xe) (hc:PT X c tc) (hb:dv X body tb):PS X (.While c body [] pos) (Mr tc tb):=by
 intro π s σ H D I h;obtain ⟨W,⟨m0,w0⟩,turn⟩:=h;refine wpAny_While (codeAny_whileLoop (fun n s'=>∃ σ' H',Inv X π σ' H' s'/\W n σ' H') ?_ m0 ⟨σ,H,I,w0⟩);rintro n s1 ⟨σ1,H1,I1,w1⟩;refine _b hp (aC (hc π s1 σ1 H1 _ I1 (turn n σ1 H1 w1)) fun b s2 ⟨H2,I2,q2⟩=>?_);cases b with
 | true =>
  obtain ⟨N,hN,q2⟩:=q2;rw [AT rfl];refine _b hp (aC (hb π s2 σ1 H2 _ I2 q2) fun f s3 q3=>?_);cases f with
  | next =>
   obtain ⟨σ3,H3,I3,n3⟩:=q3;obtain ⟨m',hm,w3⟩:=hN σ3 H3 n3;exact ⟨m',hm,σ3,H3,I3,w3⟩
  | cont =>
   obtain ⟨σ3,H3,I3,n3⟩:=q3;obtain ⟨m',hm,w3⟩:=hN σ3 H3 n3;exact ⟨m',hm,σ3,H3,I3,w3⟩
  | brk=>exact q3
  | ret v=>exact q3
 | false =>
  rw [zn wT];exact _P ⟨σ1,H2,I2,q2⟩
end
structure It where
 go:Nat->Hp->Prop
 kC:Nat->Hp->V->Hp->Prop
 stop:Nat->Hp->Prop
def gP (X:Cx) (π:List (Addr×Obj)) (H:Hp) (b:Addr):Prop :=
 H b=none/\b≠X.env.locals/\b ∉ X.fs/\(b∈X.ex\/X.s₀.heap.objs.size<=b)/\(∀ x c,X.env.cells.lookup x=some c->c≠b)/\∀ p∈X.pn++π,p.1≠b
def Inv.zQ {X:Cx} {π:List (Addr×Obj)} {σ:St} {H H':Hp} {s:Shared} {b:Addr} (I:Inv X π σ H s) (hb:s.heap.objs.size<=b) (hn:H' b=none):gP X π H' b:=by
 refine ⟨hn,Ja7 (wS I.lt hb),I.LC hb,.inr (wE I.sz hb),fun x c e z=>?_,fun p hp z=>?_⟩
 ·obtain ⟨v,q⟩:=I.cell x c e;exact absurd (wS q.lt (by rw [z];exact hb)) (GE _)
 ·exact absurd (wS (sB (I.pin p hp).1) (by rw [z];exact hb)) (GE _)
structure Turn (P:Program) (w:World) (K:ν) (tg:Expr) (J:It) (fp:List Addr) (it:Addr) (tn:Nat->Heap->Prop):Prop where
 mem:it∈fp
 obj:∀ i h,tn i h->∀ b∈fp,∃ o,h.get? b=some o/\∀ v,o.data≠.cell v
 keep:∀ i h h',tn i h->(∀ b∈fp,∀ o,h.get? b=some o->h'.get? b=some o)->tn i h'
 item:∀ (X:Cx),X.prog=P->X.w=w->X.K=K->X.calm=true->∀ (i:Nat) (π:List (Addr×Obj)) (s:Shared) (σ:St) (H:Hp) (E:Value->Shared->Prop),Inv X π σ H s->(∀ b∈fp,gP X π H b)->tn i s.heap->J.go i H ->
  wpAny (model P w) X.A (pyNext (.ref it)) (fun r s1=>∃ u,r=some u /\
   wpAny (model P w) X.A (letOwnedTupleGo tg (.ref it) u) (fun _ s2=>∃ x H',Inv X π σ H' s2/\RelV x u/\J.kC i H x H'/\tn (i+1) s2.heap/\∀ b∈fp,H' b=none) E s1) E s
 done:∀ (X:Cx),X.prog=P->X.w=w->X.K=K->X.calm=true->∀ (i:Nat) (π:List (Addr×Obj)) (s:Shared) (σ:St) (H:Hp) (E:Value->Shared->Prop),Inv X π σ H s->(∀ b∈fp,gP X π H b)->tn i s.heap->J.stop i H ->
  wpAny (model P w) X.A (pyNext (.ref it)) (fun r s1=>r=none/\Inv X π σ H s1) E s
 self:∀ (A:Around) (i:Nat) (s:Shared) (Q:Value->Shared->Prop) (E:Value->Shared->Prop),tn i s.heap->Q (.ref it) s->wpAny (model P w) A (pyIter (.ref it)) Q E s
abbrev TI:=St->Hp->(It->Hp->Prop)->Prop
def JQ (X:Cx) (π:List (Addr×Obj)) (σ:St) (tg:Expr) (R:It->Hp->Prop) (Eu:Value) (s2:Shared):Prop :=
 ∃ (it:Addr) (fp:List Addr) (tn:Nat->Heap->Prop) (J:It) (H':Hp),Eu=.ref it/\Inv X π σ H' s2/\Turn X.prog X.w X.K tg J fp it tn/\tn 0 s2.heap/\(∀ b∈fp,gP X π H' b)/\R J H'
def PI (X:Cx) (tg iter:Expr) (wi:TI):Prop :=
 ∀ (π:List (Addr×Obj)) (s:Shared) (σ:St) (H:Hp) (R:It->Hp->Prop),Inv X π σ H s->wi σ H R ->
  wpAny (model X.prog X.w) X.A (eval iter X.env) (fun v s1=>wpAny (model X.prog X.w) X.A (pyIter v) (JQ X π σ tg R) X.xe s1) X.xe s
def BS {M:Model} {A:Around} {E:Value->Shared->Prop} {s:Shared} {tg:Expr} {it:Addr} {u:Value} {o:Obj} {n:String} {vs:Array Value} {Q:Unit->Shared->Prop} (ho:s.heap.get? it=some o) (hc:o.cls=.type n) (hd:o.data=.fields vs)
  (hn:["enumerate","zip","dict_itemiterator","dict_reverseitemiterator","odict_iterator","itertools.zip_longest","itertools.pairwise"].contains n=false) (hQ:Q () s):wpAny M A (letOwnedTupleGo tg (.ref it) u) Q E s:=by
 unfold letOwnedTupleGo;cases tg <;> first
  | exact sw hQ
  | (cases u <;> first
    | exact sw hQ
    | (refine lv (wpAny_load ho ?_)
       rw [hc,hd];show wpAny M A (if (["enumerate","zip","dict_itemiterator","dict_reverseitemiterator","odict_iterator","itertools.zip_longest","itertools.pairwise"].contains n && vs[0]? == some (rawInt _))=true then _ else _) Q E s;rw [zn (by intro h;rw [hn,Jab] at h;cases h)];exact sw hQ))
def jY (K:ν) (a:Addr):It :=
 ⟨fun i H=>∃ xs x,aH K H a xs/\xs[i]?=some x,fun i H x H'=>H'=H/\∀ xs,aH K H a xs->xs[i]?=some x,fun i H=>∃ xs,aH K H a xs/\xs.length<=i⟩
def kN (lo:Int) (n:Nat):It:=⟨fun i _=>i < n,fun i H x H'=>H'=H/\x=.int (lo+i),fun i _=>n<=i⟩
def Y1 {P:Program} {w:World} {K:ν} {tg:Expr} (a it:Addr):Turn P w K tg (jY K a) [it] it (fun i h=>h.IsListIter it a i) where
 mem:=by simp
 obj:=fun i h st b hb=>by
  have e:b=it:=by simpa using hb
  subst e;obtain ⟨o,e,c,d⟩:=st;exact ⟨o,e,fun v z=>by rw [d] at z;cases z⟩
 keep:=fun i h h' st k=>st.at fun o e=>k it (by simp) o e
 item:=by
  intro X hP hw hK hc i π s σ H E I hf st hg;subst hP hw hK;obtain ⟨xs,x,hq,hx⟩:=hg;obtain ⟨ao,rv,p,hz⟩:=I.list hq;obtain ⟨u,hu,ru⟩:=rv.get hx;obtain ⟨f0,f1,f2,f3,f4,f5⟩:=hf it (by simp);refine wpAny_pyNext_list_item st p.isList (x:=u) (by simpa using hu) fun h' st' sb=>?_;have I1:Inv X π σ H { s with heap:=h' }:=I.turned (t':=s.toks) (fun b o hb e=>(sb.2 b hb).trans e) f0 f1 f3 f4 f5;obtain ⟨o,e,c,d⟩:=id st';exact ⟨u,rfl,BS (s:={ s with heap:=h' }) e c d (by decide) ⟨x,H,I1,ru,⟨rfl,fun ys hy=>by rw [I.acz hy hq];exact hx⟩,st',fun b hb=>(hf b hb).1⟩⟩
 done:=by
  intro X hP hw hK hc i π s σ H E I hf st hg;subst hP hw hK;obtain ⟨xs,hq,hx⟩:=hg;obtain ⟨ao,rv,p,hz⟩:=I.list hq;obtain ⟨f0,f1,f2,f3,f4,f5⟩:=hf it (by simp);have hl:=rv.length;exact wpAny_pyNext_list_end (I.ok.hd hc) st p.isList (by simp;omega) fun h' eb=>⟨rfl,I.turned (t':=s.toks) (fun b o hb e=>eb b o hb e) f0 f1 f3 f4 f5⟩
 self:=fun _ _ _ _ _ st h=>wpAny_pyIter_listiter st h
def P9 {P:Program} {w:World} {K:ν} {tg:Expr} (it:Addr) (lo:Int) (n:Nat):Turn P w K tg (kN lo n) [it] it (fun i h=>IsRangeIter h it (lo+(i:Nat) * 1) ((n:Int) - (i:Nat)) 1) where
 mem:=by simp
 obj:=fun i h st b hb=>by
  have e:b=it:=by simpa using hb
  subst e;exact ⟨_,st,fun v z=>by
   have z':Data.fields _=Data.cell v:=z;cases z'⟩
 keep:=fun i h h' st k=>k it (by simp) _ st
 item:=by
  intro X hP hw hK hc i π s σ H E I hf st hg;subst hP hw hK;obtain ⟨f0,f1,f2,f3,f4,f5⟩:=hf it (by simp);have W:=Walks.range (prog:=X.prog) (w:=X.w) (I.ok.hd hc) it lo 1 n;refine W.item i s _ _ hg st fun v h' tk hv st' kk=>?_;obtain ⟨t,rfl⟩:=hv;have I1:Inv X π σ H { s with heap:=h',toks:=tk }:=I.turned (fun b o hb e=>kk b o (by simpa using hb) e) f0 f1 f3 f4 f5;refine ⟨_,rfl,BS (s:={ s with heap:=h',toks:=tk }) (n := "range_iterator") st' rfl rfl (by decide) ⟨.int (lo+i),H,I1,⟨t,?_⟩,⟨rfl,rfl⟩,st',fun b hb=>(hf b hb).1⟩⟩;rw [Int.mul_one]
 done:=by
  intro X hP hw hK hc i π s σ H E I hf st hg;subst hP hw hK;obtain ⟨f0,f1,f2,f3,f4,f5⟩:=hf it (by simp);exact wpAny_pyNext_range_end (I.ok.hd hc) st (by have:n<=i:=hg;omega) fun h' eb=>⟨rfl,I.turned (t':=s.toks) (fun b o hb e=>eb b o hb e) f0 f1 f3 f4 f5⟩
 self:=fun _ _ _ _ _ st h=>wpAny_pyIter_rangeiter st h
section
variable {X:Cx} {tg:Expr}
def We (K:ν) (tl:TE):TI:=fun σ H R=>tl σ H fun x H1=>∃ a,x=.ref a/\(∃ xs,aH K H1 a xs)/\R (jY K a) H1
def Vm {l:Expr} {tl:TE} (hl:PE X l tl):PI X tg l (We X.K tl):=by
 intro π s σ H R I h;refine aC (hl π s σ H _ I h) fun v s1 ⟨x,H1,I1,r1,q1⟩=>?_;obtain ⟨a,e,⟨xs,hq⟩,q⟩:=q1;subst e;cases r1;obtain ⟨ao,rv,p,hz⟩:=I1.list hq;refine wpAny_pyIter_list p.isList ?_;refine ⟨s1.heap.objs.size,[s1.heap.objs.size],_,_,H1,rfl,I1.kept (t':=s1.toks) fun b o e=>pc _ e,Y1 a _,⟨_,u8 _ rfl,rfl,rfl⟩,fun b hb=>?_,q⟩;have e:b=s1.heap.objs.size:=by simpa using hb
 subst e;exact I1.zQ (ul _) (I1.au.fresh (ul _))
def Z3 {π:List (Addr×Obj)} {σ:St} {H:Hp} {s:Shared} {R:It->Hp->Prop} {E:Value->Shared->Prop} {lo hi:Int} {t u v:Tok} {tk:Nat} (I:Inv X π σ H s) (h1:-(2 ^ 62)<=lo) (h2:lo < 2 ^ 62) (h3:-(2 ^ 62)<=hi) (h4:hi < 2 ^ 62)
  (q:R (kN lo (hi - lo).toNat) H):wpAny (model X.prog X.w) X.A (pyIter (.ref s.heap.objs.size)) (JQ X π σ tg R) E { s with heap:=s.heap.push { cls:=.type "range",data:=.fields #[.int lo t,.int hi u,.int 1 v] },toks:=tk }:=by
 refine wpAny_pyIter_range (IsRange.new ..) (small_one h1 h2 h3 h4) ?_;have I1:Inv X π σ H { s with heap:=s.heap.push { cls:=.type "range",data:=.fields #[.int lo t,.int hi u,.int 1 v] },toks:=tk }:=I.kept fun b o e=>pc _ e;refine ⟨(s.heap.push { cls:=.type "range",data:=.fields #[.int lo t,.int hi u,.int 1 v] }).objs.size,[(s.heap.push { cls:=.type "range",data:=.fields #[.int lo t,.int hi u,.int 1 v] }).objs.size],_,_,H,rfl,
  I1.kept (t':=tk) fun b o e=>pc _ e,P9 _ lo (hi - lo).toNat,?_,fun b hb=>?_,q⟩
 ·have e1:lo+((0:Nat):Int) * 1=lo:=by simp
  have e2:(((hi - lo).toNat:Nat):Int) - ((0:Nat):Int)=Builtin.Range.rangeSize lo hi 1:=by rw [rangeSize_one];split <;> omega
  show IsRangeIter _ _ (lo+((0:Nat):Int) * 1) ((((hi - lo).toNat:Nat):Int) - ((0:Nat):Int)) 1;rw [e1,e2];exact u8 _ rfl
 ·have e:b=(s.heap.push { cls:=.type "range",data:=.fields #[.int lo t,.int hi u,.int 1 v] }).objs.size:=by simpa using hb
  subst e;exact I1.zQ (ul _) (I1.au.fresh (ul _))
def Vd (ta:TA):TI:=fun σ H R=>ta σ H fun vs H1=>∃ j:Int,vs=[.int j]/\-(2 ^ 62)<=j/\j < 2 ^ 62/\R (kN 0 j.toNat) H1
def QL {a:Expr} {ta:TA} {p pos:Pos} (hg:Gl X "range") (hm:X.mg "range" = none) (ha:PA X [a] ta) (hs:starEach [a] X.env=[(false,eval a X.env)]:=by rfl):PI X tg (.Call (.Name "range" p) [a] [] pos) (Vd ta):=by
 intro π s σ H R I h;refine Call_ (oh I hg hm boot_range (T0 (aC (ha pos π s σ H _ I h) fun us s1 ⟨vs,H1,I1,r1,q1⟩=>?_) hs rfl));obtain ⟨j,e,q1,q2,q⟩:=q1;subst e;cases r1 with
 | cons r rr =>
  cases rr;obtain ⟨t,rfl⟩:=r;exact call_range_1 (Z3 I1 (by omega) (by omega) q1 q2 (by simpa using q))
def zg (wi:TI) (g:TG) (tb:TS):TS:=fun D σ H=>wi σ H fun J H1=>∃ W:Nat->Nat->St->Hp->Prop,(∃ m,W 0 m σ H1)/\∀ i m σ H,W i m σ H ->
 (J.stop i H/\D.nx σ H)\/(J.go i H/\∃ N:St->Hp->Prop,(∀ σ' H',N σ' H'->∃ m',m' < m/\W (i+1) m' σ' H')/\∀ x H',J.kC i H x H'->g x σ H' fun σ2 H2=>tb { D with nx:=N,ct:=N,bk:=D.nx } σ2 H2)
def rj (fp:List Addr) (h:Heap):List (Addr×Obj):=fp.filterMap fun b=>(h.get? b).map fun o=>(b,o)
def xi {fp:List Addr} {h:Heap} {b:Addr} {o:Obj} (hb:b∈fp) (e:h.get? b=some o):(b,o)∈rj fp h:=_q.mpr ⟨b,hb,by rw [e];rfl⟩
def Pj {fp:List Addr} {h:Heap} {p:Addr×Obj} (hp:p∈rj fp h):p.1∈fp/\h.get? p.1=some p.2:=by
 obtain ⟨b,hb,e⟩:=_q.mp hp;cases q:h.get? b with
 | none=>rw [q] at e;cases e
 | some o =>
  rw [q] at e;have e':(b,o)=p:=Fk e;subst e';exact ⟨hb,q⟩
def Inv.pinned {π:List (Addr×Obj)} {σ:St} {H:Hp} {s:Shared} {fp:List Addr} (I:Inv X π σ H s) (hf:∀ b∈fp,gP X π H b) (ho:∀ b∈fp,∃ o,s.heap.get? b=some o/\∀ v,o.data≠.cell v):Inv X (π++rj fp s.heap) σ H s :=
 I.sI fun p hp=>(_O.mp hp).elim (fun z=>I.pin p (Cl _ z)) fun z=>by
  obtain ⟨hb,e⟩:=Pj z;obtain ⟨f0,f1,f2,_⟩:=hf p.1 hb;obtain ⟨o,e',d⟩:=ho p.1 hb;rw [e] at e';cases e';exact ⟨e,f0,f1,f2,d⟩
def Inv.B8 {π pl:List (Addr×Obj)} {σ:St} {H:Hp} {s:Shared} (I:Inv X (π++pl) σ H s):Inv X π σ H s:=I.sI fun p hp=>I.pin p (Cl _ (_d _ hp))
def Wk {iter:Expr} {body:List Stmt} {wi:TI} {g:TG} {tb:TS} {pos:Pos} (hp:PassesOwn (model X.prog X.w) X.A X.env X.xe) (hc:X.calm=true) (hi:PI X tg iter wi) (hg:PG X tg g) (hb:dv X body tb)
  (hs:∀ x,foldedSetIterable iter X.env x=pure x:=by intro _;rfl):PS X (.For tg iter body [] pos) (zg wi g tb):=by
 intro π s σ H D I h;refine wpAny_For (aC (hi π s σ H _ I h) fun v s1 h1=>aC h1 fun Eu s2 h2=>?_) hs;obtain ⟨it,fp,tn,J,H2,e,I2,T,kc,f2,W,⟨m0,w0⟩,turn⟩:=h2;subst e
 -- what stays true of kq iterator's objects through kq loop
 have EF:∀ {H':Hp},(∀ b∈fp,H' b=none)->∀ b∈fp,gP X π H' b:=fun hn b hb=>⟨hn b hb,(f2 b hb).2⟩;refine codeAny_forLoop_any (fun n s'=>∃ i σ' H',Inv X π σ' H' s'/\tn i s'.heap/\(∀ b∈fp,H' b=none)/\W i n σ' H') ?_ m0 ⟨0,σ,H2,I2,kc,fun b hb=>(f2 b hb).1,w0⟩;rintro n s3 ⟨i,σ3,H3,I3,MV,xQ,w3⟩;rcases turn i n σ3 H3 w3 with ⟨stop,qn⟩ | ⟨go,N,hN,step⟩
 ·refine _b hp (aC (T.done X rfl rfl rfl hc i π s3 σ3 H3 X.xe I3 (EF xQ) MV stop) fun r s4 ⟨hr,I4⟩=>?_);subst hr;exact _P ⟨σ3,H3,I4,qn⟩
 ·refine _b hp (aC (T.item X rfl rfl rfl hc i π s3 σ3 H3 X.xe I3 (EF xQ) MV go) fun r s4 ⟨u,hr,h4⟩=>?_);subst hr;refine _b hp (aC h4 fun _ s5 ⟨x,H5,I5,r5,y5,rb,yl⟩=>?_);have I5':=I5.pinned (EF yl) (T.obj _ _ rb);refine _b hp (aC (hg _ s5 σ3 H5 x u _ I5' r5 (step x H5 y5)) fun _ s6 ⟨σ6,H6,I6,q6⟩=>?_);refine _b hp (aC (hb _ s6 σ6 H6 _ I6 q6) fun f s7 q7=>?_);have again:∀ {σ7:St} {H7:Hp},Inv X (π++rj fp s5.heap) σ7 H7 s7->N σ7 H7->∃ m,m < n/\∃ i σ' H',Inv X π σ' H' s7/\tn i s7.heap/\(∀ b∈fp,H' b=none)/\W i m σ' H':=fun {σ7 H7} I7 n7=>by
   obtain ⟨m',hm,w7⟩:=hN σ7 H7 n7;refine ⟨m',hm,i+1,σ7,H7,I7.B8,T.keep _ _ _ rb fun b hb o e=>(I7.pin (b,o) (Cl _ (Cl _ (xi hb e)))).1,fun b hb=>?_,w7⟩;obtain ⟨o,e,d⟩:=T.obj _ _ rb b hb;exact (I7.pin (b,o) (Cl _ (Cl _ (xi hb e)))).2.1
  cases f with
  | next=>obtain ⟨σ7,H7,I7,n7⟩:=q7;exact again I7 n7
  | cont=>obtain ⟨σ7,H7,I7,n7⟩:=q7;exact again I7 n7
  | brk=>obtain ⟨σ7,H7,I7,q7⟩:=q7;exact ⟨σ7,H7,I7.B8,q7⟩
  | ret v=>obtain ⟨x7,σ7,H7,I7,r7,q7⟩:=q7;exact ⟨x7,σ7,H7,I7.B8,r7,q7⟩
end
def Wz {K:ν} {a:Addr} {xs:List V} {g:TG} {tb:TS} {D:Ends} {σ:St} {H:Hp} (Pv:Nat->St->Hp->Prop) (h0:Pv 0 σ H) (hl:∀ i σ H,i<=xs.length->Pv i σ H->aH K H a xs)
  (hs:∀ i x σ H,xs[i]?=some x->Pv i σ H->g x σ H fun σ2 H2=>tb { D with nx:=Pv (i+1),ct:=Pv (i+1),bk:=D.nx } σ2 H2) (hd:∀ σ H,Pv xs.length σ H->D.nx σ H) :
  ∃ W:Nat->Nat->St->Hp->Prop,(∃ m,W 0 m σ H)/\∀ i m σ H,W i m σ H ->
   ((jY K a).stop i H/\D.nx σ H)\/((jY K a).go i H/\∃ N:St->Hp->Prop,(∀ σ' H',N σ' H'->∃ m',m' < m/\W (i+1) m' σ' H')/\∀ x H',(jY K a).kC i H x H'->g x σ H' fun σ2 H2=>tb { D with nx:=N,ct:=N,bk:=D.nx } σ2 H2):=by
 refine ⟨fun i m σ H=>m=xs.length - i/\i<=xs.length/\Pv i σ H,⟨xs.length,by simp,Do _,h0⟩,?_⟩;rintro i m σ H ⟨rfl,hi,p⟩;have q:=hl i σ H hi p;by_cases cb:i < xs.length
 ·refine .inr ⟨⟨xs,xs[i],q,by simp [cb]⟩,Pv (i+1),fun σ' H' p'=>⟨xs.length - (i+1),by omega,rfl,cb,p'⟩,fun x H' y=>?_⟩;obtain ⟨e,y⟩:=y;subst e;exact hs i x σ _ (y xs q) p
 ·have e:i=xs.length:=by omega
  subst e;exact .inl ⟨⟨xs,q,ul _⟩,hd σ H p⟩
def Zr {lo:Int} {n:Nat} {g:TG} {tb:TS} {D:Ends} {σ:St} {H:Hp} (Pv:Nat->St->Hp->Prop) (h0:Pv 0 σ H)
  (hs:∀ i σ H,i < n->Pv i σ H->g (.int (lo+i)) σ H fun σ2 H2=>tb { D with nx:=Pv (i+1),ct:=Pv (i+1),bk:=D.nx } σ2 H2) (hd:∀ σ H,Pv n σ H->D.nx σ H) :
  ∃ W:Nat->Nat->St->Hp->Prop,(∃ m,W 0 m σ H)/\∀ i m σ H,W i m σ H ->
   ((kN lo n).stop i H/\D.nx σ H)\/((kN lo n).go i H/\∃ N:St->Hp->Prop,(∀ σ' H',N σ' H'->∃ m',m' < m/\W (i+1) m' σ' H')/\∀ x H',(kN lo n).kC i H x H'->g x σ H' fun σ2 H2=>tb { D with nx:=N,ct:=N,bk:=D.nx } σ2 H2):=by
 refine ⟨fun i m σ H=>m=n - i/\i<=n/\Pv i σ H,⟨n,by simp,Do _,h0⟩,?_⟩;rintro i m σ H ⟨rfl,hi,p⟩;by_cases cb:i < n
 ·refine .inr ⟨cb,Pv (i+1),fun σ' H' p'=>⟨n - (i+1),by omega,rfl,cb,p'⟩,fun x H' y=>?_⟩;obtain ⟨e,y⟩:=y;subst e y;exact hs i σ _ cb p
 ·have e:i=n:=by omega
  subst e;exact .inl ⟨ul _,hd σ H p⟩
abbrev R2:=V->V->Hp->VK->Prop
def aZ (X:Cx) (f:Value->Value->Sem Value) (r:R2):Prop :=
 ∀ (π:List (Addr×Obj)) (s:Shared) (σ:St) (H:Hp) (x y:V) (v u:Value) (Q:VK),Inv X π σ H s->RelV x v->RelV y u->r x y H Q ->
  wpAny (model X.prog X.w) X.A (f v u) (EP X π σ Q) X.xe s
def tw (X:Cx) (f:Value->Sem Value) (r:V->Hp->VK->Prop):Prop :=
 ∀ (π:List (Addr×Obj)) (s:Shared) (σ:St) (H:Hp) (x:V) (v:Value) (Q:VK),Inv X π σ H s->RelV x v->r x H Q ->
  wpAny (model X.prog X.w) X.A (f v) (EP X π σ Q) X.xe s
def dz (X:Cx) (f:Value) (r:List V->Hp->VK->Prop):Prop :=
 ∀ (π:List (Addr×Obj)) (s:Shared) (σ:St) (H:Hp) (xs:List V) (us:List Value) (Q:VK),Inv X π σ H s->Vals xs us->r xs H Q ->
  wpAny (model X.prog X.w) X.A (call f us) (EP X π σ Q) X.xe s
def iU (r:R2) (ta tb:TE):TE:=fun σ H Q=>ta σ H fun x H1=>tb σ H1 fun y H2=>r x y H2 Q
def yV (r:V->Hp->VK->Prop) (ta:TE):TE:=fun σ H Q=>ta σ H fun x H1=>r x H1 Q
def rI (C:Int->Int->Prop) (g:Int->Int->V):R2:=fun x y H Q=>∃ i j,x=.int i/\y=.int j/\C i j/\Q (g i j) H
def oH (g:Int->Int->V):R2:=fun x y H Q=>∃ i j,x=.int i/\y=.int j/\Q (g i j) H
def rU (g:Int->V):V->Hp->VK->Prop:=fun x H Q=>∃ i,x=.int i/\Q (g i) H
section
variable {X:Cx} {a b c:Expr} {ta tb tc:TE} {pos:Pos}
def Br (ha:PE X a ta) (hb:PE X b tb) {π:List (Addr×Obj)} {s:Shared} {σ:St} {H:Hp} {R:V->V->Hp->Prop} (I:Inv X π σ H s)
  (h:ta σ H fun x H1=>tb σ H1 fun y H2=>R x y H2) {Q:Value->Shared->Prop} {f:Value->Value->Sem Value}
  (hf:∀ v u s2 x y H2,Inv X π σ H2 s2->RelV x v->RelV y u->R x y H2->wpAny (model X.prog X.w) X.A (f v u) Q X.xe s2) :
  wpAny (model X.prog X.w) X.A (eval a X.env) (fun v s₁=>wpAny (model X.prog X.w) X.A (eval b X.env) (fun u s₂=>wpAny (model X.prog X.w) X.A (f v u) Q X.xe s₂) X.xe s₁) X.xe s:=by
 refine aC (ha π s σ H _ I h) fun v s1 ⟨x,H1,I1,r1,q1⟩=>?_;refine aC (hb π s1 σ H1 _ I1 q1) fun u s2 ⟨y,H2,I2,r2,q2⟩=>?_;exact hf v u s2 x y H2 I2 r1 r2 q2
def aa5 {op:Operator} {r:R2} (ho:aZ X (binaryOp op) r) (ha:PE X a ta) (hb:PE X b tb):PE X (.BinOp a op b pos) (iU r ta tb):=by
 intro π s σ H Q I h;exact wpAny_BinOp (Br ha hb I h fun v u s2 x y H2 I2 rx ry q=>ho π s2 σ H2 x y v u Q I2 rx ry q)
def VS {op:UnaryOp} {r:V->Hp->VK->Prop} (ho:tw X (unaryOp op) r) (ha:PE X a ta):PE X (.UnaryOp op a pos) (yV r ta):=by
 intro π s σ H Q I h;exact UnaryOp_ (aC (ha π s σ H _ I h) fun v s1 ⟨x,H1,I1,r1,q1⟩=>ho π s1 σ H1 x v Q I1 r1 q1)
def uT {f:Value->Value->Sem Value} {C:Int->Int->Prop} {g:Int->Int->Int}
  (rule:∀ (i j:Int) (t u:Tok) (s:Shared) (Q:Value->Shared->Prop) (E:Value->Shared->Prop),C i j->Q (.int (g i j) s.toks) { s with toks:=s.toks+1 }->wpAny (model X.prog X.w) X.A (f (.int i t) (.int j u)) Q E s) :
  aZ X f (rI C fun i j=>.int (g i j)):=by
 intro π s σ H x y v u Q I rx ry h;obtain ⟨i,j,rfl,rfl,hc,q⟩:=h;obtain ⟨t,rfl⟩:=rx;obtain ⟨t',rfl⟩:=ry;exact rule i j t t' s _ _ hc ⟨.int (g i j),H,I.tok _,⟨_,rfl⟩,q⟩
def Qa {f:Value->Value->Sem Value} {g:Int->Int->Int}
  (rule:∀ (i j:Int) (t u:Tok) (s:Shared) (Q:Value->Shared->Prop) (E:Value->Shared->Prop),Q (.int (g i j) s.toks) { s with toks:=s.toks+1 }->wpAny (model X.prog X.w) X.A (f (.int i t) (.int j u)) Q E s) :
  aZ X f (oH fun i j=>.int (g i j)):=by
 intro π s σ H x y v u Q I rx ry h;obtain ⟨i,j,rfl,rfl,q⟩:=h;obtain ⟨t,rfl⟩:=rx;obtain ⟨t',rfl⟩:=ry;exact rule i j t t' s _ _ ⟨.int (g i j),H,I.tok _,⟨_,rfl⟩,q⟩
def AZ {f:Value->Value->Sem Value} {g:Int->Int->Bool}
  (rule:∀ (i j:Int) (t u:Tok) (s:Shared) (Q:Value->Shared->Prop) (E:Value->Shared->Prop),Q (.bool (g i j)) s->wpAny (model X.prog X.w) X.A (f (.int i t) (.int j u)) Q E s) :
  aZ X f (oH fun i j=>.bl (g i j)):=by
 intro π s σ H x y v u Q I rx ry h;obtain ⟨i,j,rfl,rfl,q⟩:=h;obtain ⟨t,rfl⟩:=rx;obtain ⟨t',rfl⟩:=ry;exact rule i j t t' s _ _ ⟨.bl (g i j),H,I,rfl,q⟩
def LD (i j:Int):Prop:=0 < j/\j < 1073741824
def Kz (i j:Int):Prop:=0<=j/\j<=1000000/\i.natAbs < 2 ^ 64
def vT (i j:Int):Prop:=(-(2 ^ 64) < i/\i < 2 ^ 64)\/(-(2 ^ 64) < j/\j < 2 ^ 64)
def vT.ok {i j:Int} (h:vT i j):IntMulOk i j:=by
 rcases h with ⟨h1,h2⟩ | ⟨h1,h2⟩
 ·exact .of_left (intBits_le_64 h1 h2)
 ·exact .of_right (intBits_le_64 h1 h2)
def ac1:aZ X (binaryOp .Add) (oH fun i j=>.int (i+j)):=Qa fun _ _ _ _ _ _ _ q=>add_int q
def adS:aZ X (binaryOp .Mult) (rI vT fun i j=>.int (i * j)):=uT fun _ _ _ _ _ _ _ hc q=>mul_int q hc.ok
def aac:aZ X (binaryOp .FloorDiv) (rI LD fun i j=>.int (i / j)):=uT fun i j _ _ _ _ _ hc q=>by
 have h1:(0:Int) < j:=hc.1;have h2:j < 1073741824:=hc.2;exact floordiv_int (by omega) (by rw [Int.fdiv_eq_ediv_of_nonneg i (by omega)];exact q) (.inl (PyProof.noPylong_small (by omega)))
def aaE:aZ X (binaryOp .Mod) (rI (fun _ j=>0 < j) fun i j=>.int (i % j)):=uT fun i j _ _ _ _ _ hc q=>by
 have h1:(0:Int) < j:=hc;exact mod_int' (by omega) (by rw [Int.fmod_eq_emod_of_nonneg i (by omega)];exact q)
def SM:aZ X (binaryOp .Pow) (rI Kz fun i j=>.int (i ^ j.toNat)):=uT fun _ _ _ _ _ _ _ hc q=>pow_int_small hc.1 hc.2.1 hc.2.2 q
def WI {f:Value->Sem Value} {g:Int->Int}
  (rule:∀ (i:Int) (t:Tok) (s:Shared) (Q:Value->Shared->Prop) (E:Value->Shared->Prop),Q (.int (g i) s.toks) { s with toks:=s.toks+1 }->wpAny (model X.prog X.w) X.A (f (.int i t)) Q E s) :
  tw X f (rU fun i=>.int (g i)):=by
 intro π s σ H x v Q I rx h;obtain ⟨i,rfl,q⟩:=h;obtain ⟨t,rfl⟩:=rx;exact rule i t s _ _ ⟨.int (g i),H,I.tok _,⟨_,rfl⟩,q⟩
def Rn:tw X (unaryOp .USub) (rU fun i=>.int (-i)):=WI fun _ _ _ _ _ q=>neg_int q
end
def wO:V->V->Bool
 | .aw,.aw=>true | .aw,.int _=>true | .int _,.aw=>true | .aw,.bl _=>true | .bl _,.aw=>true | .aw,.str _=>true | .str _,.aw=>true
 | .int _,.int _=>true | .bl _,.bl _=>true | .str _,.str _=>true | .byt _,.byt _=>true
 | .int _,.str _=>true | .str _,.int _=>true | .bl _,.str _=>true | .str _,.bl _=>true
 | _,_=>false
def Rl:R2:=fun x y H Q=>wO x y=true/\Q (.bl (decide (x=y))) H
def rNe:R2:=fun x y H Q=>wO x y=true/\Q (.bl (!decide (x=y))) H
def FW {i j:Int}:decide (V.int i=V.int j)=(i == j):=by
 rw [_w];simp
def GB {i j:Bool}:decide (V.bl i=V.bl j)=(i == j):=by
 rw [_w];simp
def Gd {i j:Str}:decide (V.str i=V.str j)=(i == j):=by
 rw [_w];simp
def Kc {i j:Array UInt8}:decide (V.byt i=V.byt j)=(i.toList == j.toList):=by
 rw [_w];cases i;cases j;simp
section
variable {X:Cx} {a b c:Expr} {ta tb tc:TE} {pos:Pos}
def cG {π:List (Addr×Obj)} {σ:St} {H:Hp} {s:Shared} {Q:VK} {k k':Bool} (I:Inv X π σ H s) (q:Q (.bl k) H) (e:k=k'):EP X π σ Q (.bool k') s:=by
 subst e;exact ⟨.bl k,H,I,rfl,q⟩
def ab1:aZ X (compareOp .Eq) Rl:=by
 intro π s σ H x y v u Q I rx ry h;obtain ⟨hs,q⟩:=h;cases x with
 | aw =>
  cases rx;cases y with
  | aw=>cases ry;exact PySem.EqNone.eq_none_none (cG I q (by simp))
  | bl j=>cases ry;exact PySem.EqNone.eq_none_bool (cG I q (by simp))
  | int j=>obtain ⟨t',rfl⟩:=ry;exact PySem.EqNone.eq_none_int (cG I q (by simp))
  | str j=>obtain ⟨t',rfl⟩:=ry;exact PySem.EqNone.eq_none_str (cG I q (by simp))
  | _=>exact absurd (show false=true from hs) wT
 | bl i =>
  cases rx;cases y with
  | aw=>cases ry;exact PySem.EqNone.eq_bool_none (cG I q (by simp))
  | bl j=>cases ry;exact eq_bool (cG I q GB)
  | str j=>obtain ⟨t',rfl⟩:=ry;exact PySem.EqMixed.eq_bool_str (cG I q (by simp))
  | _=>exact absurd (show false=true from hs) wT
 | int i =>
  obtain ⟨t,rfl⟩:=rx;cases y with
  | aw=>cases ry;exact PySem.EqNone.eq_int_none (cG I q (by simp))
  | int j=>obtain ⟨t',rfl⟩:=ry;exact eq_int (cG I q FW)
  | str j=>obtain ⟨t',rfl⟩:=ry;exact PySem.EqMixed.eq_int_str (cG I q (by simp))
  | _=>exact absurd (show false=true from hs) wT
 | str i =>
  obtain ⟨t,rfl⟩:=rx;cases y with
  | aw=>cases ry;exact PySem.EqNone.eq_str_none (cG I q (by simp))
  | bl j=>cases ry;exact PySem.EqMixed.eq_str_bool (cG I q (by simp))
  | int j=>obtain ⟨t',rfl⟩:=ry;exact PySem.EqMixed.eq_str_int (cG I q (by simp))
  | str j=>obtain ⟨t',rfl⟩:=ry;exact eq_str (cG I q Gd)
  | _=>exact absurd (show false=true from hs) wT
 | byt i =>
  obtain ⟨t,rfl⟩:=rx;cases y with
  | byt j=>obtain ⟨t',rfl⟩:=ry;exact W.eq_bytes (cG I q Kc)
  | _=>exact absurd (show false=true from hs) wT
 | _=>cases y <;> exact absurd (show false=true from hs) wT
def aa9:aZ X (compareOp .NotEq) rNe:=by
 intro π s σ H x y v u Q I rx ry h;obtain ⟨hs,q⟩:=h;cases x with
 | aw =>
  cases rx;cases y with
  | aw=>cases ry;exact PySem.EqNone.ne_none_none (cG I q (by simp))
  | bl j=>cases ry;exact PySem.EqNone.ne_none_bool (cG I q (by simp))
  | int j=>obtain ⟨t',rfl⟩:=ry;exact PySem.EqNone.ne_none_int (cG I q (by simp))
  | str j=>obtain ⟨t',rfl⟩:=ry;exact PySem.EqNone.ne_none_str (cG I q (by simp))
  | _=>exact absurd (show false=true from hs) wT
 | bl i =>
  cases rx;cases y with
  | aw=>cases ry;exact PySem.EqNone.ne_bool_none (cG I q (by simp))
  | bl j=>cases ry;exact ne_bool (cG I q (PP not GB))
  | str j=>obtain ⟨t',rfl⟩:=ry;exact PySem.EqMixed.ne_bool_str (cG I q (by simp))
  | _=>exact absurd (show false=true from hs) wT
 | int i =>
  obtain ⟨t,rfl⟩:=rx;cases y with
  | aw=>cases ry;exact PySem.EqNone.ne_int_none (cG I q (by simp))
  | int j=>obtain ⟨t',rfl⟩:=ry;exact ne_int (cG I q (PP not FW))
  | str j=>obtain ⟨t',rfl⟩:=ry;exact PySem.EqMixed.ne_int_str (cG I q (by simp))
  | _=>exact absurd (show false=true from hs) wT
 | str i =>
  obtain ⟨t,rfl⟩:=rx;cases y with
  | aw=>cases ry;exact PySem.EqNone.ne_str_none (cG I q (by simp))
  | bl j=>cases ry;exact PySem.EqMixed.ne_str_bool (cG I q (by simp))
  | int j=>obtain ⟨t',rfl⟩:=ry;exact PySem.EqMixed.ne_str_int (cG I q (by simp))
  | str j=>obtain ⟨t',rfl⟩:=ry;exact ne_str (cG I q (PP not Gd))
  | _=>exact absurd (show false=true from hs) wT
 | byt i =>
  obtain ⟨t,rfl⟩:=rx;cases y with
  | byt j=>obtain ⟨t',rfl⟩:=ry;exact W.ne_bytes (cG I q (PP not Kc))
  | _=>exact absurd (show false=true from hs) wT
 | _=>cases y <;> exact absurd (show false=true from hs) wT
def U3:aZ X (compareOp .Lt) (oH fun i j=>.bl (decide (i < j))):=AZ fun _ _ _ _ _ _ _ q=>lt_int q
def O8:aZ X (compareOp .LtE) (oH fun i j=>.bl (decide (i<=j))):=AZ fun _ _ _ _ _ _ _ q=>le_int q
def Ua:aZ X (compareOp .Gt) (oH fun i j=>.bl (decide (j < i))):=AZ fun _ _ _ _ _ _ _ q=>gt_int q
def aap:aZ X (compareOp .In) (fun x y H Q=>∃ i j,x=.str i/\y=.str j/\Q (.bl (!(Builtin.Str.occurrences j i 0 j.length 1).isEmpty)) H):=by
 intro π s σ H x y v u Q I rx ry h;obtain ⟨i,j,rfl,rfl,q⟩:=h;obtain ⟨t,rfl⟩:=rx;obtain ⟨t',rfl⟩:=ry;exact in_str (cG I q rfl)
def xn:aZ X (compareOp .Is) (fun x y H Q=>y=.aw/\Q (.bl (decide (x=.aw))) H):=by
 intro π s σ H x y v u Q I rx ry h;obtain ⟨rfl,q⟩:=h;cases ry;refine is_none_gen (cG I q ?_);cases x <;> first
  | (cases rx;rfl)
  | (obtain ⟨t,rfl⟩:=rx;rfl)
def Iq:aZ X (compareOp .IsNot) (fun x y H Q=>y=.aw/\Q (.bl (!decide (x=.aw))) H):=by
 intro π s σ H x y v u Q I rx ry h;obtain ⟨rfl,q⟩:=h;cases ry;refine isnot_none_gen (cG I q ?_);cases x <;> first
  | (cases rx;rfl)
  | (obtain ⟨t,rfl⟩:=rx;rfl)
def aZ.or {f:Value->Value->Sem Value} {r r':R2} (h:aZ X f r) (h':aZ X f r'):aZ X f (fun x y H Q=>r x y H Q\/r' x y H Q):=by
 intro π s σ H x y v u Q I rx ry q;rcases q with q | q
 ·exact h π s σ H x y v u Q I rx ry q
 ·exact h' π s σ H x y v u Q I rx ry q
def Vo {op:CmpOp} {r:R2} (ho:aZ X (compareOp op) r) (ha:PE X a ta) (hb:PE X b tb) (hm:behindInMarks op b=false):PE X (.Compare a [op] [b] pos) (iU r ta tb):=by
 intro π s σ H Q I h;exact wpAny_Compare1 (Br ha hb I h fun v u s2 x y H2 I2 rx ry q=>ho π s2 σ H2 x y v u Q I2 rx ry q) hm
def ue:(sizeLine:Nat) < 2 ^ 63:=by rw [_n];decide
def Tn:aZ X (binaryOp .Add) (fun x y H Q=>∃ i j,x=.str i/\y=.str j/\i.length+j.length<=sizeLine/\Q (.str (i++j)) H):=by
 intro π s σ H x y v u Q I rx ry h;obtain ⟨i,j,rfl,rfl,hz,q⟩:=h;obtain ⟨t,rfl⟩:=rx;obtain ⟨t',rfl⟩:=ry;exact add_str (fun t' tk=>⟨.str (i++j),H,I.tok _,⟨_,rfl⟩,q⟩) hz
def vals1 {x:V} {us:List Value} (r:Vals [x] us):∃ u,us=[u]/\RelV x u:=by
 cases r with
 | cons r1 r2=>cases r2;exact ⟨_,rfl,r1⟩
def vals2 {x y:V} {us:List Value} (r:Vals [x,y] us):∃ u w',us=[u,w']/\RelV x u/\RelV y w':=by
 cases r with
 | cons r1 r2 =>
  cases r2 with
  | cons r3 r4=>cases r4;exact ⟨_,_,rfl,r1,r3⟩
def RX (K:ν) (x:V) (H:Hp) (n:Nat):Prop :=
 match x with
 | .str y=>y.length<=sizeLine/\n=y.length
 | .byt y=>y.size<=sizeLine/\n=y.size
 | .ref p=>(∃ xs,aH K H p xs/\n=xs.length)\/∃ xs,bT K H p xs/\n=xs.length
 | _=>False
def Ih:dz X (.builtin "len") (fun xs H Q=>∃ x n,xs=[x]/\RX X.K x H n/\Q (.int n) H):=by
 intro π s σ H xs us Q I r h;obtain ⟨x,n,rfl,e,q⟩:=h;obtain ⟨u,rfl,rx⟩:=vals1 r;have hl:=ue;have hs:sizeLine=16777216:=_n;cases x with
 | str y =>
  obtain ⟨t,rfl⟩:=rx;obtain ⟨hy,e'⟩:y.length<=sizeLine/\n=y.length:=e;subst e';exact len_str (by omega) ⟨.int _,H,I.tok _,⟨_,rfl⟩,q⟩
 | byt y =>
  obtain ⟨t,rfl⟩:=rx;obtain ⟨hy,e'⟩:y.size<=sizeLine/\n=y.size:=e;subst e';exact W.len_bytes (by omega) ⟨.int _,H,I.tok _,⟨_,rfl⟩,q⟩
 | ref p =>
  cases rx;have e':(∃ xs,aH X.K H p xs/\n=xs.length)\/∃ xs,bT X.K H p xs/\n=xs.length:=e;rcases e' with ⟨xs,hx,e'⟩ | ⟨xs,hx,e'⟩
  ·subst e';obtain ⟨ao,r',pl,hz⟩:=I.list hx;have hlen:=r'.length;exact Calls.call_len_list pl.isList (by simp only [ww];omega) ⟨.int xs.length,H,I.tok _,⟨_,by simp only [ww];rw [hlen]⟩,q⟩
  ·subst e';obtain ⟨ao,r',pl,hz⟩:=I.tuple hx;have hlen:=r'.length;exact len_tuple pl (by simp only [ww];omega) ⟨.int xs.length,H,I.tok _,⟨_,by simp only [ww];rw [hlen]⟩,q⟩
 | _=>exact (show False from e).elim
end
structure n8 (h:Heap) (x dx C:Addr) (mA:Str->Option Value):Prop where
 obj:h.get? x=some (W.instObj C dx)
 ns:h.Ns1 dx mA
 ne:dx≠x
def Rk {h:Heap} {dx:Addr} {mA:Str->Option Value} (n:h.Ns1 dx mA):∃ od,h.get? dx=some od/\∀ name,W.lookIn name od=some (mA name):=by
 obtain ⟨o,es,ep,ho,hd,hk,_,hm⟩:=n;refine ⟨o,ho,fun name=>?_⟩;have e:=hm name;unfold nsFind findBy at e;rw [<- Array.find?_toList] at e;unfold W.lookIn;rw [hd];dsimp only;split
 ·rename_i y q;rw [q] at e;exact PP some e
 ·rename_i q;rw [q] at e;have a:es.toList.any (·.refKey)=false:=by
   rw [List.any_eq_false];intro y hy;obtain ⟨z,t,hkey⟩:=hk y (Array.mem_toList_iff.mp hy);simp [DictEntry.refKey,hkey]
  have a':¬ es.toList.any (·.refKey)=true:=by rw [a];exact wT
  rw [zn a'];exact PP some e
def n8.look {h:Heap} {x dx C:Addr} {mA:Str->Option Value} (I:n8 h x dx C mA):∃ od,W.InstAt h x (W.instObj C dx) C (some od)/\∀ name,W.lookIn name od=some (mA name) :=
 let ⟨od,ho,hl⟩:=Rk I.ns
 ⟨od,⟨I.obj,rfl,rfl,ho⟩,hl⟩
section
variable {prog:Program} {w:World} {A:Around} {E:Value->Shared->Prop} {s:Shared} {K:ν} {x dx C f:Addr} {mA:Str->Option Value} {name:Str} {v:Value}
def get_map {expr:Bool} {Q:Value->Shared->Prop} (X:K.In s.heap) (I:n8 s.heap x dx C mA) (hg:W.plainGet K C name=true) (hh:W.hasDictIn K C=true)
  (ha:W.findIn K (.ref C) name=some none) (hv:mA name=some v) (hv':W.handedIn v=true) (h:Q v { s with toks:=s.toks+1 }) :
  wpAny (model prog w) A (getAttr (.ref x) name expr) Q E s:=by
 obtain ⟨od,J,hl⟩:=I.look;exact W.get_value X J (Ja2 hg).1 (W.findObj_own hh ha rfl (by rw [hl,hv])) hv' h
def Qm {pl:Sem Bool} {Q:Value×List Value->Shared->Prop} (X:K.In s.heap) (I:n8 s.heap x dx C mA) (hg:W.plainGet K C name=true)
  (hf:W.findIn K (.ref C) name=some (some (.ref f))) (ht:W.isFn K (.ref f)=true) (hv:mA name=none) (h:Q (.ref f,[.ref x]) s) :
  wpAny (model prog w) A (getMethod (.ref x) name pl) Q E s:=by
 obtain ⟨od,J,hl⟩:=I.look;exact W.method_fn X J (Ja2 hg).1 (Ja2 hg).2 hf (_r.mp ht) (by show (W.lookIn name od).map (·.isSome)=some false;rw [hl,hv];rfl) h
def Ui {ns:List Str} {Q:Unit->Shared->Prop} (X:K.In s.heap) (I:n8 s.heap x dx C mA)
  (hs:W.findIn K (.ref C) "__setattr__" = some (some (.builtin "object.__setattr__"))) (hp:W.plainOver K C=true) (ht:W.takerIn K C name=some none) (hh:W.hasDictIn K C=true)
  (hw:PySem.Within mA ns) (hsz:ns.length<=sizeLine)
  (h:∀ h',n8 h' x dx C (fun y=>if y=name then some v else mA y)->Heap.SameBut dx s.heap h'->Q () { s with heap:=h',toks:=s.toks+2 }) :
  wpAny (model prog w) A (setAttr (.ref x) name v) Q E s:=by
 obtain ⟨od,J,hl⟩:=I.look;refine W.set_plain X J hs (W.osa_open (s:={ s with toks:=s.toks+1 }) (r:=none) X J hp ht fun b=>?_);obtain ⟨cd,hc,hd'⟩:=W.any_some hh;have hx:s.heap.get? x=some ⟨.ref C,some dx,.plain,#[]⟩:=I.obj;refine lv (sw (lv (lv (_S hx (lv (W.Looks.here (s:={ s with toks:=s.toks+1 }) (W.looks_clsIn X hc) ?_))))));rw [hd'];refine sw (a:=some dx) (lv (sw (lv ?_)));refine wpAny_nsSet1 (s:={ s with toks:=s.toks+1 }) I.ns fun h' lQ xP=>?_;obtain ⟨oD,fU,epD,D4,DM,DQ⟩:=lQ.count (PySem.Within.cons name v hw);refine lv (wpAny_lookBehind D4 (by rw [DM];exact pastItsLine_dict (wE DQ (by rw [FS];omega))) ?_);exact sw (h _ ⟨(xP.2 _ (wP I.ne)).trans I.obj,lQ,I.ne⟩ xP)
def abE {R:Result->Shared->Prop} {vs:List Value} {kw:List (Str×Value)} (X:K.In s.heap) (hm:W.makesIn K C=true)
  (hi:W.findIn K (.ref C) "__init__" = some (some (.ref f))) (hf:W.typeIn K (.ref f)=some (.type "function"))
  (h:codeAny (model prog w) (A.under (.builtin "type.__call__" ⟨.ref C::vs,kw⟩)) (.call (.ref f) ⟨.ref (s.heap.objs.size+1)::vs,kw⟩) (W.InitBack (s.heap.objs.size+1) R)
   { s with heap:=(s.heap.push W.emptyDict).push (W.instObj C s.heap.objs.size) }) :
  codeAny (model prog w) A (.call (.ref C) ⟨vs,kw⟩) R s:=by
 obtain ⟨hh,g,d,t,os⟩:=s;exact W.make_core (W.makes_of X hm) (P3 X hi) (fun self=>W.bind_fn X self hf) (.inl rfl) h
end
def aA (f:Str) (v:V):List (Str×V)->List (Str×V)
 | []=>[(f,v)]
 | (g,x)::r=>if g=f then (g,v)::r else (g,x)::aA f v r
def eP (f g:Str) (v:V):∀ fs:List (Str×V),(aA f v fs).lookup g=if g=f then some v else fs.lookup g
 | []=>by
  show List.lookup g [(f,v)]=_;by_cases h:g=f
  ·have hb:(g == f)=true:=_r.mpr h;simp only [List.lookup,hb,AT h]
  ·have hb:(g == f)=false:=Fa.mpr h;simp only [List.lookup,hb,zn h]
 | (k,x)::r=>by
  have ih:=eP f g v r;rw [show aA f v ((k,x)::r)=(if k=f then (k,v)::r else (k,x)::aA f v r) from rfl];by_cases hk:k=f
  ·rw [AT hk];by_cases h:g=k
   ·have hb:(g == k)=true:=_r.mpr h;simp only [List.lookup,hb,AT (h.trans hk)]
   ·have hb:(g == k)=false:=Fa.mpr h;simp only [List.lookup,hb,zn (fun e:g=f=>h (e.trans hk.symm))]
  ·rw [zn hk];by_cases h:g=k
   ·have hb:(g == k)=true:=_r.mpr h;simp only [List.lookup,hb,zn (fun e:g=f=>hk (h.symm.trans e))]
   ·have hb:(g == k)=false:=Fa.mpr h;simp only [List.lookup,hb];exact ih
def DB (f:Str) (v:V):∀ fs:List (Str×V),f∈(aA f v fs).map (·.1)/\∀ g,g∈fs.map (·.1)->g∈(aA f v fs).map (·.1)
 | []=>⟨by simp [aA],fun g h=>by simp at h⟩
 | (k,x)::r=>by
  obtain ⟨i1,i2⟩:=DB f v r;rw [show aA f v ((k,x)::r)=(if k=f then (k,v)::r else (k,x)::aA f v r) from rfl];by_cases hk:k=f
  ·rw [AT hk];subst hk;exact ⟨by simp,fun g h=>by simpa using h⟩
  ·rw [zn hk];refine ⟨?_,fun g h=>?_⟩
   ·rw [ut];exact KK _ i1
   ·rw [ut] at h ⊢;rcases pi.mp h with e | e
    ·exact pi.mpr (.inl e)
    ·exact KK _ (i2 g e)
def y4 (f:Str) (v:V):∀ fs:List (Str×V),(aA f v fs).length<=fs.length+1
 | []=>by simp [aA]
 | (k,x)::r=>by
  have ih:=y4 f v r;rw [show aA f v ((k,x)::r)=(if k=f then (k,v)::r else (k,x)::aA f v r) from rfl];by_cases hk:k=f
  ·rw [AT hk,FS,FS];omega
  ·rw [zn hk,FS,FS];omega
def eL.some_of {v:V} {o:Option Value} (r:eL (some v) o):∃ u,o=some u/\RelV v u:=by
 cases o with
 | none=>exact (show False from r).elim
 | some u=>exact ⟨u,rfl,r⟩
def eL.none_of {o:Option Value} (r:eL none o):o=none:=by
 cases o with
 | none=>rfl
 | some u=>exact (show False from r).elim
def Rm {v:V} {u:Value} (r:RelV v u):W.handedIn u=true:=by
 cases v with
 | aw=>cases (show u=Value.none from r);rfl
 | bl b=>cases (show u=Value.bool b from r);rfl
 | int i=>obtain ⟨t,e⟩:=(show ∃ t,u=Value.int i t from r);cases e;rfl
 | str x=>obtain ⟨t,e⟩:=(show ∃ t,u=Value.str x t from r);cases e;rfl
 | byt b=>obtain ⟨t,e⟩:=(show ∃ t,u=Value.bytes b t from r);cases e;rfl
 | nA b=>obtain ⟨t,e⟩:=(show ∃ t,u=Value.float b t from r);cases e;rfl
 | ref a=>cases (show u=Value.ref a from r);rfl
 | ty n=>cases (show u=Value.type n from r);rfl
section
variable {P:Program} {w:World} {H H':Hp} {h h':Heap} {a C dx:Addr} {fs fs':List (Str×V)}
def we (au:bD P w H h) (e:H a=some (.ins C dx fs)):∃ mA,n8 h a dx C mA/\(∀ f,eL (fs.lookup f) (mA f))/\PySem.Within mA (fs.map (·.1))/\fs.length<=1000/\H dx=some (.own a):=by
 obtain ⟨d,z,ne,ob,mA,n,r,q⟩:=(show bQ P w H h a (.ins C dx fs) from au a _ e);exact ⟨mA,⟨ob,n,ne⟩,r,q,z,d⟩
end
structure c8 (K:ν) (C:Addr):Prop where
 pg:W.plainGet K C Str.empty=true
 hd:W.hasDictIn K C=true
 po:W.plainOver K C=true
 sa:W.findIn K (.ref C) "__setattr__" = some (some (.builtin "object.__setattr__"))
def c8.get {K:ν} {C:Addr} (c:c8 K C) (f:Str):W.plainGet K C f=true:=c.pg
def bC (K:ν) (C:Addr) (f:Str):Prop:=W.findIn K (.ref C) f=some none
def bC.WY {K:ν} {C:Addr} {f:Str} (n:bC K C f):W.takerIn K C f=some none:=by
 unfold W.takerIn;rw [show W.findIn K (.ref C) f=some none from n];rfl
structure Con (K:ν) (C:Addr) (f:Str) (v:V) (u:Value):Prop where
 at_:W.findIn K (.ref C) f=some (some u)
 rel:RelV v u
 get:W.specialIn K u "__get__" = some none
 cp:W.copiedNames.contains f=false
structure Meth (K:ν) (C:Addr) (m:Str) (f:Addr):Prop where
 at_:W.findIn K (.ref C) m=some (some (.ref f))
 fn:W.isFn K (.ref f)=true
 kp:W.keepIn K (.ref f)=true
section
variable {X:Cx} {π:List (Addr×Obj)} {σ:St} {H:Hp} {s:Shared} {a C dx:Addr} {fs:List (Str×V)} {f:Str} {v:V} {A:Around} {E:Value->Shared->Prop}
def ID {b:Bool} {Q:Value->Shared->Prop} (I:Inv X π σ H s) (e:H a=some (.ins C dx fs)) (c:c8 X.K C) (n:bC X.K C f) (l:fs.lookup f=some v)
  (h:∀ u s',Inv X π σ H s'->RelV v u->Q u s'):wpAny (model X.prog X.w) A (getAttr (.ref a) f b) Q E s:=by
 obtain ⟨mA,O,r,_,_,_⟩:=we I.au e;obtain ⟨u,hu,ru⟩:=eL.some_of (v:=v) (o:=mA f) (by rw [<- l];exact r f);exact get_map I.cj O (c.get f) c.hd n hu (Rm ru) (h u _ (I.tok _) ru)
def Bo {m:Str} {g:Addr} {pl:Sem Bool} {Q:Value×List Value->Shared->Prop} (I:Inv X π σ H s) (e:H a=some (.ins C dx fs)) (c:c8 X.K C) (k:Meth X.K C m g) (l:fs.lookup m=none)
  (h:Q (.ref g,[.ref a]) s):wpAny (model X.prog X.w) A (getMethod (.ref a) m pl) Q E s:=by
 obtain ⟨mA,O,r,_,_,_⟩:=we I.au e;have hn:mA m=none:=eL.none_of (by rw [<- l];exact r m);exact Qm I.cj O (c.get m) k.at_ k.fn hn h
def Kj {y:V} {u:Value} {Q:Unit->Shared->Prop} (I:Inv X π σ H s) (e:H a=some (.ins C dx fs)) (c:c8 X.K C) (n:bC X.K C f) (hl:fs.length < 1000) (ry:RelV y u)
  (h:∀ s',Inv X π σ (upd H a (.ins C dx (aA f y fs))) s'->Q () s'):wpAny (model X.prog X.w) A (setAttr (.ref a) f u) Q E s:=by
 obtain ⟨mA,O,r,wi,_,ho⟩:=we I.au e;have hz:(fs.map (·.1)).length<=sizeLine:=by rw [pp,_n];omega
 refine Ui I.cj O c.sa c.po n.WY c.hd wi hz fun h' O' sb=>h _ ?_;have hd:∃ o,h'.get? dx=some o:=let ⟨o,_,_,e',_⟩:=O'.ns;⟨o,e'⟩
 refine I.write (x:=a) (e:=dx) (by rw [e];exact True.intro) (.inr ho) (fun b q hb z=>(sb.2 b hb).trans z) hd ?_;refine ⟨by rw [aj O.ne];exact ho,?_,O.ne,O'.obj,_,O'.ns,fun g=>?_,fun g hg=>?_⟩
 ·have:=y4 f y fs;omega
 ·show eL ((aA f y fs).lookup g) (if g=f then some u else mA g);rw [eP];by_cases q:g=f
  ·rw [AT q,AT q];exact ry
  ·rw [zn q,zn q];exact r g
 ·by_cases q:g=f
  ·rw [q];exact (DB f y fs).1
  ·refine (DB f y fs).2 g (wi g fun z=>hg ?_);show (if g=f then some u else mA g)=none;rw [zn q];exact z
def Inv.made (I:Inv X π σ H s):Inv X π σ (upd (upd H s.heap.objs.size (.own (s.heap.objs.size+1))) (s.heap.objs.size+1) (.ins C s.heap.objs.size []))
  { s with heap:=(s.heap.push W.emptyDict).push (W.instObj C s.heap.objs.size) }:=by
 have e1:(s.heap.push W.emptyDict).get? s.heap.objs.size=some W.emptyDict:=u8 s.heap rfl;have e2:((s.heap.push W.emptyDict).push (W.instObj C s.heap.objs.size)).get? (s.heap.objs.size+1)=some (W.instObj C s.heap.objs.size):=by
  have:=u8 (s.heap.push W.emptyDict) (o:=W.instObj C s.heap.objs.size) rfl
  rwa [WF] at this
 have e3:(s.heap.push W.emptyDict).Ns s.heap.objs.size (fun _=>none):=⟨W.emptyDict,#[],_,e1,rfl,(fun e he=>absurd he (by simp)),fun _=>rfl⟩;have I1:=I.laid (a:=s.heap.objs.size) (o:=.own (s.heap.objs.size+1)) (h':=s.heap.push W.emptyDict) (t':=s.toks) (fun b u q=>pc _ q) (ul _) ⟨_,e1⟩;refine I1.laid (a:=s.heap.objs.size+1) (o:=.ins C s.heap.objs.size []) (t':=s.toks) (fun b u q=>pc _ q) (Nat.le_of_eq (WF _ _)) ?_;have ne:s.heap.objs.size≠s.heap.objs.size+1:=xL (Re _);refine ⟨by rw [aj ne,ay],Do _,ne,e2,fun _=>none,(Heap.Ns1.of_empty e3).at fun o q=>pc _ q,fun _=>True.intro,fun y hy=>absurd rfl hy⟩
def adv {prog:Program} {w:World} {env:Env} {e:Expr} {f:Str} {pos:Pos} {s:Shared} {Q:Value->Shared->Prop} (hb:attributeBase e f env (eval e env)=eval e env)
  (h:wpAny (model prog w) A (eval e env) (fun o s₁=>wpAny (model prog w) A (getAttr o f true) Q E s₁) E s):wpAny (model prog w) A (eval (.Attribute e f pos) env) Q E s :=
 Attribute_any_ h (by rw [arm_eval_Attribute,hb])
end
def zG (X:Cx) (op:Operator) (rd:V->V->Hp->VK->Prop):Prop :=
 ∀ (π:List (Addr×Obj)) (s:Shared) (σ:St) (H:Hp) (x y:V) (u v:Value) (Q:VK),Inv X π σ H s->RelV x u->RelV y v->rd x y H Q->wpAny (model X.prog X.w) X.A (inplaceOp op u v) (EP X π σ Q) X.xe s
section
variable {X:Cx} {o e value:Expr} {f:Str} {pos pos' qP:Pos} {ta tv:TE}
def Ie:V->V->Hp->VK->Prop:=fun x y H Q=>∃ i j,x=.int i/\y=.int j/\Q (.int (i+j)) H
def ni:zG X .Add Ie:=by
 rintro π s σ H x y u v Q I rx ry ⟨i,j,rfl,rfl,q⟩;obtain ⟨t,rfl⟩:=(show ∃ t,u=Value.int i t from rx);obtain ⟨t',rfl⟩:=(show ∃ t',v=Value.int j t' from ry);exact PyProof.Rows.iadd_int ⟨.int (i+j),H,I.tok _,⟨_,rfl⟩,q⟩
end
section
variable {X:Cx} {π:List (Addr×Obj)} {σ:St} {H:Hp} {s:Shared} {A:Around} {E:Value->Shared->Prop} {Q:Value->Shared->Prop} {c:Value} {b:Bool}
inductive fP (K:ν) (H:Hp):V->Value->Prop where
 | aw:fP K H .aw (.type "NoneType")
 | bl (x:Bool):fP K H (.bl x) (.type "bool")
 | int (i:Int):fP K H (.int i) (.type "int")
 | str (x:Str):fP K H (.str x) (.type "str")
 | nA (x:UInt64):fP K H (.nA x) (.type "float")
 | lst {a:Addr} {xs:List V} (e:H a=some (.lst xs)):fP K H (.ref a) (.type "list")
 | dI {a:Addr} {o:Obj} {xs:List V} (e:H a=some (.dI o (.lst xs))):fP K H (.ref a) (.type "list")
 | tup {a:Addr} {xs:List V} (e:H a=some (.tup xs)):fP K H (.ref a) (.type "tuple")
 | dK {a:Addr} {kvs:List (Key×V)} (e:H a=some (.dK kvs)):fP K H (.ref a) (.type "dict")
 | dT {a:Addr} {kvs:List (List Key×V)} (e:H a=some (.dT kvs)):fP K H (.ref a) (.type "dict")
 | ins {a C dx:Addr} {fs:List (Str×V)} (e:H a=some (.ins C dx fs)) (cl:c8 K C) (ha:W.findIn K (.ref C) "__class__" = some (some (.builtin "object.__class__")))
   (hn:W.specialIn K (.builtin "object.__class__") "__get__" = some (some (.builtin "getset_descriptor.__get__"))) (fA:W.takesIn K (.builtin "object.__class__")=some true)
   (hm:W.mroIn K C (.type "object")=some true):fP K H (.ref a) (.ref C)
def Bx {x:V} {u t:Value} (I:Inv X π σ H s) (rx:RelV x u) (ty:fP X.K H x t) (e:W.kitOne X.K t c=some b) (h:∀ tk,Q (.bool b) { s with toks:=tk }) :
  wpAny (model X.prog X.w) A (call (.builtin "isinstance") [u,c]) Q E s:=by
 cases ty with
 | aw=>cases (show u=Value.none from rx);exact IN W.kitx_none I.cj True.intro e (fun z=>nomatch z) h
 | bl y=>cases (show u=Value.bool y from rx);exact IN W.kitx_bool I.cj True.intro e (fun z=>nomatch z) h
 | int i=>obtain ⟨t,q⟩:=(show ∃ t,u=Value.int i t from rx);cases q;exact IN W.kitx_int I.cj True.intro e (fun z=>nomatch z) h
 | str y=>obtain ⟨t,q⟩:=(show ∃ t,u=Value.str y t from rx);cases q;exact IN W.kitx_str I.cj True.intro e (fun z=>nomatch z) h
 | nA y=>obtain ⟨t,q⟩:=(show ∃ t,u=Value.float y t from rx);cases q;exact IN W.kitx_float I.cj True.intro e (fun z=>nomatch z) h
 | @lst a xs ea =>
  cases (show u=Value.ref a from rx);obtain ⟨_,_,n,_,h1⟩:=(show bQ X.prog X.w H s.heap a (.lst xs) from I.au a _ ea);exact IN W.kitx_list I.cj ⟨_,h1,rfl⟩ e (fun z=>nomatch z) h
 | @dI a ob xs ea =>
  cases (show u=Value.ref a from rx);obtain ⟨_,_,_,n,_,h1⟩:=(show bQ X.prog X.w H s.heap a (.dI ob (.lst xs)) from I.au a _ ea);exact IN W.kitx_list I.cj ⟨_,h1,rfl⟩ e (fun z=>nomatch z) h
 | @tup a xs ea =>
  cases (show u=Value.ref a from rx);obtain ⟨_,_,_,p⟩:=(show bQ X.prog X.w H s.heap a (.tup xs) from I.au a _ ea);obtain ⟨o,h1,h2,_⟩:=p;exact IN W.kitx_tuple I.cj ⟨o,h1,h2⟩ e (fun z=>nomatch z) h
 | @dK a kvs ea =>
  cases (show u=Value.ref a from rx);obtain ⟨_,_,vs,_,p⟩:=(show bQ X.prog X.w H s.heap a (.dK kvs) from I.au a _ ea);obtain ⟨o,es,ep,h1,h2,_⟩:=p;exact IN W.kitx_dict I.cj ⟨o,h1,h2.1⟩ e (fun z=>nomatch z) h
 | @dT a kvs ea =>
  cases (show u=Value.ref a from rx);obtain ⟨_,_,xs,_,o,es,ep,h1,h2,_⟩:=(show bQ X.prog X.w H s.heap a (.dT kvs) from I.au a _ ea);exact IN W.kitx_dict I.cj ⟨o,h1,h2.1⟩ e (fun z=>nomatch z) h
 | @ins a C dx fs ea cl ha hn fA hm =>
  cases (show u=Value.ref a from rx);obtain ⟨mA,O,_⟩:=we I.au ea;obtain ⟨od,J,_⟩:=O.look;exact IN (W.kitx_own (cl.get _) cl.hd ha hn fA hm) I.cj J e (fun z=>nomatch z) h
end
structure bc (k:Nat) (A:Around):Prop where
 hd:A.handled=none
 dp:A.depth+3 * k+5 < recursionLimit
 un:A.units+16 * k+200 < cLine
def bc.mono {j k:Nat} {A:Around} (r:bc k A) (h:j<=k):bc j A:=⟨r.hd,by have:=r.dp;omega,by have:=r.un;omega⟩
def bc.deeper {k:Nat} {A:Around} (r:bc (k+1) A) (env:Env):bc k (A.deeper env) :=
 ⟨r.hd,by have:=r.dp;show A.depth+1+3 * k+5 < _;omega,by have:=r.un;show A.units+3+16 * k+200 < _;omega⟩
def PY {A:Around} {C:Addr} {us:List Value} {kw:List (Str×Value)}:(A.under (.builtin "type.__call__" ⟨.ref C::us,kw⟩)).depth=A.depth+1:=by
 first | rfl | simp [Around.under,Code.weight,Code.isCreation,Code.isGuard,Code.isCaller,Code.frames,Code.isFrame,guardIds]
def Qf {A:Around} {C:Addr} {us:List Value} {kw:List (Str×Value)}:(A.under (.builtin "type.__call__" ⟨.ref C::us,kw⟩)).units=A.units+1:=by
 first | rfl | simp [Around.under,Code.cUnits,Code.frames,Code.isFrame]
def bc.make {k:Nat} {A:Around} (r:bc (k+1) A) (C:Addr) (us:List Value) (kw:List (Str×Value)):bc k (A.under (.builtin "type.__call__" ⟨.ref C::us,kw⟩)) :=
 ⟨r.hd,by have:=r.dp;rw [PY];omega,by have:=r.un;rw [Qf];omega⟩
def bc.depth {k:Nat} {A:Around} (r:bc k A):A.depth < recursionLimit:=by have:=r.dp;omega
def bc.units {k:Nat} {A:Around} (r:bc k A):A.units+64 < cLine:=by have:=r.un;omega
def bc.mT {k:Nat} {A:Around} (r:bc k A):A.units < cLine:=by have:=r.un;omega
def iZ:TA:=fun _ H Q=>Q [] H
def mz (ta:TE) (tr:TA):TA:=fun σ H Q=>ta σ H fun x H1=>tr σ H1 fun xs H2=>Q (x::xs) H2
section
variable {X:Cx} {e:Expr} {es:List Expr} {te:TE} {t:TA} {pos:Pos}
def aad:PA X [] iZ:=fun _ _ _ _ H Q I h=>Tk ⟨[],H,I,.nil,h⟩
def Zu (ha:PE X e te) (hr:PA X es t) (hs:starEach (e::es) X.env=(false,eval e X.env)::starEach es X.env:=by rfl):PA X (e::es) (mz te t):=by
 intro pos π s σ H Q I h;rw [hs];show wpAny _ _ (spliced ((false,eval e X.env)::backTo pos (starEach es X.env))) _ _ s;refine Ps (aC (ha π s σ H _ I h) fun u s1 ⟨x,H1,I1,r1,q1⟩=>?_);exact aC (hr pos π s1 σ H1 _ I1 q1) fun us s2 ⟨xs,H2,I2,r2,q2⟩=>⟨x::xs,H2,I2,.cons r1 r2,q2⟩
def zh (t:TA):TE:=fun σ H Q=>t σ H fun xs H1=>xs.length<=sizeLine/\∀ p,H1 p=none->Q (.ref p) (upd H1 p (.tup xs))
def zu (t:TA):TE:=fun σ H Q=>t σ H fun xs H1=>xs.length<=sizeLine/\∀ p,H1 p=none->Q (.ref p) (upd H1 p (.lst xs))
def abK {x1} (h:PA X es t):PE X (.Tuple es x1 pos) (zh t):=by
 intro π s σ H Q I hq;refine wpAny_Tuple_spliced (aC (h pos π s σ H _ I hq) fun us s1 ⟨xs,H1,I1,r,z,q⟩=>⟨by rw [<- r.length];exact z,?_⟩);have hf:H1 s1.heap.objs.size=none:=I1.au.fresh (ul _);refine ⟨.ref s1.heap.objs.size,upd H1 s1.heap.objs.size (.tup xs),I1.laid (t':=s1.toks) (fun b u e=>pc _ e) (ul _) ?_,rfl,q _ hf⟩;exact ⟨z,us,r,⟨_,u8 _ rfl,rfl,_,rfl,rfl⟩⟩
def Pw (h:PA X es t):PE X (.List es pos) (zu t):=by
 intro π s σ H Q I hq;refine wpAny_List_spliced (aC (h pos π s σ H _ I hq) fun us s1 ⟨xs,H1,I1,r,z,q⟩=>⟨by rw [<- r.length];exact z,?_⟩);have hf:H1 s1.heap.objs.size=none:=I1.au.fresh (ul _);refine ⟨.ref s1.heap.objs.size,upd H1 s1.heap.objs.size (.lst xs),I1.laid (t':=s1.toks) (fun b u e=>pc _ e) (ul _) ?_,rfl,q _ hf⟩;exact ⟨z,us,0,r,u8 _ rfl⟩
end
abbrev Sp:=List V->Hp->VK->XK->Prop
abbrev dj:=List Env->Hp->Shared->XK->Value->Shared->Prop
structure hU (P:Program) (w:World) (K:ν) (mg:Str->Option Value) (base:Heap) (A:Around) (outer:List Env) (s:Shared) (H:Hp):Prop where
 frames:A.frames=some outer
 mod:Mod K mg base
 bs:∀ b o,base.get? b=some o->s.heap.get? b=some o/\H b=none
 gB:base.objs.size<=s.heap.objs.size
 eU:s.heap.FunFrames base outer
 g8:∀ b∈bK outer,H b=none
 au:bD P w H s.heap
 bare:AllBare s.gens
def CE (outer:List Env) (P:Program) (w:World) (H:Hp) (s:Shared) (Q:VK) (u:Value) (s':Shared):Prop :=
 ∃ v H',s'.os=s.os/\AllBare s'.gens/\Un (bK outer) [] H H' s.heap s'.heap/\bD P w H' s'.heap/\RelV v u/\Q v H'
def CR (CX:dj) (outer:List Env) (P:Program) (w:World) (H:Hp) (s:Shared) (Q:VK) (E:XK) (r:Result) (s':Shared):Prop :=
 match r with
 | .ok (.ret u)=>CE outer P w H s Q u s'
 | .ok _=>False
 | .error e=>CX outer H s E e s'
structure aq (P:Program) (w:World) (K:ν) (mg:Str->Option Value) (base:Heap) (CX:dj) (k:Nat) (f:Addr) (fd:FuncData) (ps:List Str) (sp:Sp):Prop where
 len:∀ vs H Q E,sp vs H Q E->vs.length=ps.length
 run:∀ (A:Around) (outer:List Env) (s:Shared) (H:Hp) (args:Args) (us:List Value) (vs:List V) (Q:VK) (E:XK),bc k A->hU P w K mg base A outer s H->BindsTo s fd args (ps.zip us)->Vals vs us->sp vs H Q E ->
  codeAny (model P w) A (.call (.ref f) args) (CR CX outer P w H s Q E) s
def hU.make {P:Program} {w:World} {K:ν} {mg:Str->Option Value} {base:Heap} {A:Around} {outer:List Env} {s:Shared} {H:Hp} (e:hU P w K mg base A outer s H) (C:Addr) (us:List Value) (kw:List (Str×Value)) :
  hU P w K mg base (A.under (.builtin "type.__call__" ⟨.ref C::us,kw⟩)) outer s H:=⟨by first | exact e.frames | (simpa [Around.under,Code.envs,Code.isFrame,pushEnvs] using e.frames),e.mod,e.bs,e.gB,e.eU,e.g8,e.au,e.bare⟩
section
variable {X:Cx} {π:List (Addr×Obj)} {σ:St} {H:Hp} {s s':Shared}
def Inv.qk (I:Inv X π σ H s):hU X.prog X.w X.K X.mg X.base X.A X.stack s H :=
 ⟨I.ok.frames,I.ok.mod,I.bs,wE I.ok.gB I.sz,I.stack,I.wH,I.au,I.bare⟩
def Inv.after {Q:VK} {u:Value} (I:Inv X π σ H s) (h:CE X.stack X.prog X.w H s Q u s'):EP X π σ Q u s':=by
 obtain ⟨v,H',os,bare,un,au,r,q⟩:=h;obtain ⟨hh,g,d,t,os'⟩:=s';obtain rfl:os'=s.os:=os;exact ⟨v,H',I.call (h':=hh) (g':=g) (d':=d) (t':=t) (ch:=[]) un au bare (fun b z=>absurd z (by simp)),r,q⟩
end
def wa (sp:Sp) (bu:List V) (E:XK) (t:TA):TE:=fun σ H Q=>t σ H fun vs H1=>sp (vs++bu) H1 Q E
inductive MI (C:Addr) (m:Str) (x:V) (H:Hp) (q:Prop):Prop
 | mk:∀ a dx fs,x=.ref a->H a=some (.ins C dx fs)->fs.lookup m=none->q->MI C m x H q
def tX (C:Addr) (m:Str) (sp:Sp) (bu:List V) (E:XK) (ta:TE) (t:TA):TE:=fun σ H Q=>ta σ H fun x H1=>MI C m x H1 (t σ H1 fun vs H2=>sp (x::(vs++bu)) H2 Q E)
def tQ (C:Addr) (sp:Sp) (bu:List V) (E:XK) (t:TA):TE:=fun σ H Q=>t σ H fun vs H1=>∀ x dx,H1 x=none->H1 dx=none->dx≠x ->
 sp (.ref x::(vs++bu)) (upd (upd H1 dx (.own x)) x (.ins C dx [])) (fun v H2=>v=.aw/\Q (.ref x) H2) E
def Binds (K:ν) (fd:FuncData) (ps:List Str) (ds:List Value):Prop :=
 ∀ (s:Shared) (us:List Value),K.In s.heap->(us++ds).length=ps.length->BindsTo s fd ⟨us,[]⟩ (ps.zip (us++ds))
def Binds.all {K:ν} {fd:FuncData} {ps:List Str} (h:∀ us:List Value,us.length=ps.length->bindArgs fd ⟨us,[]⟩=pure (ps.zip us)):Binds K fd ps []:=fun s us _ hl=>by
 rw [_7] at hl ⊢;exact .of_eq (h us hl)
def Passes (CX:dj) (X:Cx) (E:XK):Prop:=∀ (π:List (Addr×Obj)) (σ:St) (H:Hp) (s:Shared) (e:Value) (s':Shared),Inv X π σ H s->CX X.stack H s E e s'->X.xe e s'
section
variable {X:Cx} {CX:dj} {k:Nat} {f C:Addr} {fd:FuncData} {ps:List Str} {sp:Sp} {bu:List V} {ds:List Value} {E:XK} {x m:Str} {p pos apos:Pos} {e o:Expr} {es:List Expr} {ta:TE} {t:TA}
def Dg {π:List (Addr×Obj)} {σ:St} {H:Hp} {s:Shared} {Q:VK} {us:List Value} {vs:List V} (F:aq X.prog X.w X.K X.mg X.base CX k f fd ps sp) (hr:bc k X.A) (hb:Binds X.K fd ps ds) (hd:Vals bu ds) (hx:Passes CX X E)
  (I:Inv X π σ H s) (r:Vals vs us) (h:sp (vs++bu) H Q E):wpAny (model X.prog X.w) X.A (call (.ref f) us) (EP X π σ Q) X.xe s:=by
 have r2:Vals (vs++bu) (us++ds):=r.append hd;have hl:(us++ds).length=ps.length:=by rw [<- r2.length];exact F.len _ _ _ _ h
 refine _f (Uf (F.run X.A X.stack s H ⟨us,[]⟩ (us++ds) (vs++bu) Q E hr I.qk (hb s us I.cj hl) r2 h) fun r s' hq=>?_);cases r with
 | error e=>exact hx π σ H s e s' I hq
 | ok fl =>
  cases fl with
  | ret u=>exact I.after hq
  | next=>exact False.elim hq
  | brk=>exact False.elim hq
  | cont=>exact False.elim hq
def PN (F:aq X.prog X.w X.K X.mg X.base CX k f fd ps sp) (hr:bc k X.A) (hg:Gl X x) (hm:X.mg x=some (.ref f)) (hk:W.keepIn X.K (.ref f)=true) (hb:Binds X.K fd ps ds) (hd:Vals bu ds) (hx:Passes CX X E)
  (ha:PA X (e::es) t) (bM:(x == ("__debug__":Str))=false:=by decide) (he:starEach (e::es) X.env=(false,eval e X.env)::starEach es X.env:=by rfl) (cf:(backTo pos (starEach es X.env)).any (·.1)=false:=by rfl) :
  PE X (.Call (.Name x p) (e::es) [] pos) (wa sp bu E t):=by
 intro π s σ H Q I h;refine Go (kW I hg hm ?_ bM);refine SL (h₀:=X.base) I.ok.mod.gS hk (aC (ha pos π s σ H _ I h) fun us s1 ⟨vs,H1,I1,r,q⟩=>⟨I1.cj,?_⟩) he cf;exact Dg F hr hb hd hx I1 r q
def YG {pl:Sem Bool} (he:PE X o ta) (c:c8 X.K C) (hm:Meth X.K C m f) (F:aq X.prog X.w X.K X.mg X.base CX k f fd ps sp) (hr:bc k X.A) (hb:Binds X.K fd ps ds) (hd:Vals bu ds) (hx:Passes CX X E) (ha:PA X (e::es) t)
  (bt:starEach (e::es) X.env=(false,eval e X.env)::starEach es X.env:=by rfl) (cf:(backTo pos (starEach es X.env)).any (·.1)=false:=by rfl)
  (ht:eval (.Call (.Attribute o m apos) (e::es) [] pos) X.env=(do
   let ov <- eval o X.env
   standAt apos.atName
   let (f,first) <- holding [ov] (getMethod ov m pl)
   callWith pos f first (backTo pos (starEach (e::es) X.env)) (backToKw pos (keywordEach [] X.env))):=by rfl) :
  PE X (.Call (.Attribute o m apos) (e::es) [] pos) (tX C m sp bu E ta t):=by
 intro π s σ H Q I h;refine _W (pl:=pl) (aC (he π s σ H _ I h) fun u s1 ⟨x,H1,I1,rx,a,dx,fs,ex,ea,l,q⟩=>?_) ht;subst ex;obtain rfl:u=Value.ref a:=rx;refine Bo I1 ea c hm l ?_;refine SL (first:=[.ref a]) (h₀:=X.base) I.ok.mod.gS hm.kp (aC (ha pos π s1 σ H1 _ I1 q) fun us s2 ⟨vs,H2,I2,r,q2⟩=>⟨I2.cj,?_⟩) bt cf;exact Dg (us:=.ref a::us) (vs:=.ref a::vs) F hr hb hd hx I2 (.cons rfl r) q2
def Yq {pl:Sem Bool} (he:PE X o ta) (c:c8 X.K C) (hm:Meth X.K C m f) (F:aq X.prog X.w X.K X.mg X.base CX k f fd ps sp) (hr:bc k X.A) (hb:Binds X.K fd ps ds) (hd:Vals bu ds) (hx:Passes CX X E)
  (ht:eval (.Call (.Attribute o m apos) [] [] pos) X.env=(do
   let ov <- eval o X.env
   standAt apos.atName
   let (f,first) <- holding [ov] (getMethod ov m pl)
   callWith pos f first (backTo pos (starEach [] X.env)) (backToKw pos (keywordEach [] X.env))):=by rfl) :
  PE X (.Call (.Attribute o m apos) [] [] pos) (tX C m sp bu E ta iZ):=by
 intro π s σ H Q I h;refine _W (pl:=pl) (aC (he π s σ H _ I h) fun u s1 ⟨x,H1,I1,rx,a,dx,fs,ex,ea,l,q⟩=>?_) ht;subst ex;obtain rfl:u=Value.ref a:=rx;refine Bo I1 ea c hm l ?_;exact W.callWith_K0 (first:=[.ref a]) I1.cj hm.kp (Dg (us:=[.ref a]) (vs:=[.ref a]) F hr hb hd hx I1 (.cons rfl .nil) q)
structure Mk (K:ν) (C f:Addr):Prop where
 makes:W.makesIn K C=true
 init:W.findIn K (.ref C) "__init__" = some (some (.ref f))
 fn:W.isFn K (.ref f)=true
 kp:W.keepIn K (.ref C)=true
def Kd {π:List (Addr×Obj)} {σ:St} {H:Hp} {s:Shared} {Q:VK} {us:List Value} {vs:List V} (M:Mk X.K C f) (F:aq X.prog X.w X.K X.mg X.base CX k f fd ps sp) (hr:bc (k+1) X.A) (hb:Binds X.K fd ps ds) (hd:Vals bu ds)
  (hx:Passes CX X E) (I:Inv X π σ H s) (r:Vals vs us)
  (h:∀ x dx,H x=none->H dx=none->dx≠x->sp (.ref x::(vs++bu)) (upd (upd H dx (.own x)) x (.ins C dx [])) (fun v H2=>v=.aw/\Q (.ref x) H2) E) :
  wpAny (model X.prog X.w) X.A (call (.ref C) us) (EP X π σ Q) X.xe s:=by
 have hq:=h (s.heap.objs.size+1) s.heap.objs.size (I.au.fresh (_2 _)) (I.au.fresh (ul _)) (xL (Re _));have I2:=Inv.made (C:=C) I;have r2:Vals (V.ref (s.heap.objs.size+1)::(vs++bu)) (Value.ref (s.heap.objs.size+1)::(us++ds)):=.cons rfl (r.append hd);have hl:(Value.ref (s.heap.objs.size+1)::us++ds).length=ps.length:=by
  have e:=r2.length;rw [F.len _ _ _ _ hq] at e;exact e.symm
 refine _f (abE (f:=f) I.cj M.makes M.init (_r.mp M.fn) (Uf (F.run _ X.stack _ _ ⟨Value.ref (s.heap.objs.size+1)::us,[]⟩ (Value.ref (s.heap.objs.size+1)::(us++ds)) _ _ E (hr.make C us [])
  (I2.qk.make C us []) (hb _ (Value.ref (s.heap.objs.size+1)::us) I2.cj hl) r2 hq) fun r s' hq'=>?_))
 cases r with
 | error e=>exact hx π σ _ _ e s' I2 hq'
 | ok fl =>
  cases fl with
  | ret u =>
   obtain ⟨v,H',I3,rv,ev,q3⟩:=I2.after hq';subst ev;exact ⟨rv,⟨V.ref (s.heap.objs.size+1),H',I3,rfl,q3⟩⟩
  | next=>exact False.elim hq'
  | brk=>exact False.elim hq'
  | cont=>exact False.elim hq'
def acS (M:Mk X.K C f) (F:aq X.prog X.w X.K X.mg X.base CX k f fd ps sp) (hr:bc (k+1) X.A) (hg:Gl X x) (hm:X.mg x=some (.ref C)) (hb:Binds X.K fd ps ds) (hd:Vals bu ds) (hx:Passes CX X E)
  (ha:PA X (e::es) t) (bM:(x == ("__debug__":Str))=false:=by decide) (he:starEach (e::es) X.env=(false,eval e X.env)::starEach es X.env:=by rfl) (cf:(backTo pos (starEach es X.env)).any (·.1)=false:=by rfl) :
  PE X (.Call (.Name x p) (e::es) [] pos) (tQ C sp bu E t):=by
 intro π s σ H Q I h;refine Go (kW I hg hm ?_ bM);refine SL (h₀:=X.base) I.ok.mod.gS M.kp (aC (ha pos π s σ H _ I h) fun us s1 ⟨vs,H1,I1,r,q⟩=>⟨I1.cj,?_⟩) he cf;exact Kd M F hr hb hd hx I1 r q
def XC (M:Mk X.K C f) (F:aq X.prog X.w X.K X.mg X.base CX k f fd ps sp) (hr:bc (k+1) X.A) (hg:Gl X x) (hm:X.mg x=some (.ref C)) (hb:Binds X.K fd ps ds) (hd:Vals bu ds) (hx:Passes CX X E)
  (bM:(x == ("__debug__":Str))=false:=by decide):PE X (.Call (.Name x p) [] [] pos) (tQ C sp bu E iZ):=by
 intro π s σ H Q I h;refine Go (kW I hg hm ?_ bM);exact W.callWith_K0 I.cj M.kp (Kd (us:=[]) M F hr hb hd hx I .nil h)
end
section
variable {X:Cx} {CX:dj} {k:Nat} {f C:Addr} {fd:FuncData} {ps ks:List Str} {sp:Sp} {E:XK} {x m:Str} {p pos apos kpos:Pos} {e o:Expr} {es:List Expr} {kws:List Keyword} {te ta:TE} {t tk:TA} {nm:Option Str}
structure aeh (K:ν) (fd:FuncData) (ps ks:List Str) (g:List Value->List Value->List Value) (gV:List V->List V->List V):Prop where
 to:∀ (s:Shared) (us ws:List Value),K.In s.heap->(g us ws).length=ps.length->BindsTo s fd ⟨us,ks.zip ws⟩ (ps.zip (g us ws))
 rel:∀ {vs:List V} {us:List Value} {zs:List V} {ws:List Value},Vals vs us->Vals zs ws->Vals (gV vs zs) (g us ws)
def PM (sp:Sp) (gV:List V->List V->List V) (E:XK) (t tk:TA):TE:=fun σ H Q=>t σ H fun vs H1=>tk σ H1 fun zs H2=>sp (gV vs zs) H2 Q E
variable {g:List Value->List Value->List Value} {gV:List V->List V->List V}
end
structure aF (N P:List Str) (sc:Scope):Prop where
 kind:sc.kind=.function
 co:sc.isCoroutine=false
 gen:sc.isGenerator=false
 nd:N.Nodup
 pre:N.take P.length=P
 par:∀ x∈P,sc.names.lookup x=some .local\/sc.names.lookup x=some .cell
 Wo:∀ y∈sc.names,y.2≠.free
def K8 {kindOf:Str->Option NameKind} {x:Str}:∀ {binds:List (Str×Value)} {m:Str->Option Value},(∀ v,(x,v) ∉ binds)->bindL kindOf binds m x=m x
 | [],_,_=>rfl
 | (n,v)::r,m,h=>by
  unfold bindL;rw [K8 fun w hw=>h w (KK _ hw)];split
  ·have:x≠n:=by rintro rfl;exact h v _p
   simp [this]
  ·rfl
def GF {kindOf:Str->Option NameKind} {x:Str}:∀ {binds:List (Str×Value)} {m:Str->Option Value},(∀ v,(x,v) ∉ binds)->bindC kindOf binds m x=m x
 | [],_,_=>rfl
 | (n,v)::r,m,h=>by
  unfold bindC;rw [GF fun w hw=>h w (KK _ hw)];split
  ·rfl
  ·have:x≠n:=by rintro rfl;exact h v _p
   simp [this]
def FE {kindOf:Str->Option NameKind} {x:Str} {v:Value}:∀ {P:List Str} {vs:List Value} {i:Nat} {m:Str->Option Value},P.Nodup->P[i]?=some x->vs[i]?=some v->kindOf x=some .local ->
  bindL kindOf (P.zip vs) m x=some v
 | [],_,_,_,_,h,_,_=>by simp at h
 | _::_,[],_,_,_,_,h,_=>by simp at h
 | p::P,w::vs,0,m,nd,h1,h2,hk=>by
  simp at h1 h2;subst h1;subst h2;show bindL kindOf ((p,w)::P.zip vs) m p=_;unfold bindL;rw [K8 fun v hv=>(Fr.mp nd).1 (_Q hv).1,AT hk];simp
 | p::P,w::vs,i+1,m,nd,h1,h2,hk=>by
  show bindL kindOf ((p,w)::P.zip vs) m x=_;unfold bindL;exact FE (i:=i) (Fr.mp nd).2 (by simpa using h1) (by simpa using h2) hk
def GY {kindOf:Str->Option NameKind} {x:Str} {v:Value}:∀ {P:List Str} {vs:List Value} {i:Nat} {m:Str->Option Value},P.Nodup->P[i]?=some x->vs[i]?=some v->kindOf x≠some .local ->
  bindC kindOf (P.zip vs) m x=some v
 | [],_,_,_,_,h,_,_=>by simp at h
 | _::_,[],_,_,_,_,h,_=>by simp at h
 | p::P,w::vs,0,m,nd,h1,h2,hk=>by
  simp at h1 h2;subst h1;subst h2;show bindC kindOf ((p,w)::P.zip vs) m p=_;unfold bindC;rw [GF fun v hv=>(Fr.mp nd).1 (_Q hv).1,zn hk];simp
 | p::P,w::vs,i+1,m,nd,h1,h2,hk=>by
  show bindC kindOf ((p,w)::P.zip vs) m x=_;unfold bindC;exact GY (i:=i) (Fr.mp nd).2 (by simpa using h1) (by simpa using h2) hk
def start (N:List Str) (vs:List V):St:=vs.map some++List.replicate (N.length - vs.length) none
def c7 (CX:dj) (P:Program) (w:World) (K:ν) (mg:Str->Option Value) (base:Heap) (N:List Str) (qual:Str) (scope:Scope) (f:Addr) (cd:Value) (A:Around) (outer:List Env) (s:Shared) (H:Hp) (E:XK):Cx where
 prog:=P
 w:=w
 K:=K
 mg:=mg
 base:=base
 A:=A.deeper (envOfC qual scope s.heap.objs.size f cd)
 N:=N
 s₀:=s
 H₀:=H
 env:=envOfC qual scope s.heap.objs.size f cd
 outer:=outer
 stack:=envOfC qual scope s.heap.objs.size f cd::outer
 ex:=[]
 calm:=true
 fn:=fun _=>true
 pn:=[]
 xe:=fun e s'=>wpAny (model P w) (A.deeper (envOfC qual scope s.heap.objs.size f cd)) (leaving (envOfC qual scope s.heap.objs.size f cd) e) (fun _ s''=>CX outer H s E e s'') (fun e' s''=>CX outer H s E e' s'') s'
def LO {sc:Scope} {n:Nat} {x:Str} (h:sc.names.lookup x=some .cell):∃ c,(cellsFrom n sc.names []).lookup x=some c:=by
 have q:=_s sc.names n [] (.inl h);exact Option.isSome_iff_exists.mp q
def yU {CX:dj} {P:Program} {w:World} {K:ν} {mg:Str->Option Value} {base:Heap} {N ps:List Str} {qual:Str} {scope:Scope} {f:Addr} {cd:Value} {A:Around} {outer:List Env} {s s1:Shared} {H:Hp} {E:XK} {us:List Value} {vs:List V}
  (S:aF N ps scope) (hd:A.handled=none) (e0:hU P w K mg base A outer s H) (hl:vs.length=ps.length) (r:Vals vs us)
  (x:InCallC s s.heap.objs.size (bindL (envOfC qual scope s.heap.objs.size f cd).kindOf (ps.zip us) fun _=>none) (cellsFrom (s.heap.objs.size+1) scope.names []) (bindC (envOfC qual scope s.heap.objs.size f cd).kindOf (ps.zip us) fun _=>none) s1) :
  Inv (c7 CX P w K mg base N qual scope f cd A outer s H E) [] (start N vs) H s1:=by
 have cf:ps.length<=N.length:=by have:=PP List.length S.pre;rw [Wp] at this;omega
 obtain ⟨h1,tk,rfl,hk⟩:=x.done;have lS:∀ b:Addr,b ∉ (c7 CX P w K mg base N qual scope f cd A outer s H E).ex:=fun b z=>absurd (show b∈([]:List Addr) from z) (by simp);refine ⟨⟨e0.mod,S.kind,rfl,rfl,ul _,fun y z c h1 h2=>?_,fun y hy=>?_,fun y c _ h=>?_,fun _=>hd,Around.frames_deeper e0.frames,.inr ⟨rfl,rfl⟩,fun b z=>absurd z (lS b),e0.bs,e0.gB,fun b _ _=>lS b,fun b z=>absurd z (lS b),e0.eU,e0.g8⟩,
  rfl,e0.bare,Un.kept hk,⟨_,x.toInCall.ns,fun i y v h1 h2 h3=>?_⟩,fun y c h=>⟨_,x.cell y c h⟩,e0.au.fresh (ul _),fun y c h=>?_,fun p hp=>absurd (show p∈([]:List (Addr×Obj)) from hp) (by simp),e0.au.kept hk,?_⟩
 ·exact name_of_addr x.apart (Db h1) (Db h2)
 ·have hy:scope.names.lookup y=some .cell\/scope.names.lookup y=some .free:=hy;rcases hy with hy | hy
  ·exact LO hy
  ·exact absurd rfl (S.Wo _ (Db hy))
 ·exact Ja6 (x.above y c (Db h))
 ·have hi:i < vs.length:=by
   unfold start at h2;by_cases hi:i < vs.length
   ·exact hi
   ·rw [Ev (by simpa using hi)] at h2;rw [List.getElem?_replicate] at h2;split at h2 <;> cases h2
  have ha:vs[i]?=some v:=by
   unfold start at h2;rw [FM (by simpa using hi),Da] at h2;cases e:vs[i]? with
   | none=>rw [e] at h2;cases h2
   | some a=>rw [e] at h2;cases h2;rfl
  obtain ⟨u,hu,rv⟩:=r.get ha;have hp:ps[i]?=some y:=by
   rw [<- S.pre,List.getElem?_take_of_lt (by omega)];exact h1
  have NR:ps.Nodup:=by rw [<- S.pre];exact S.nd.sublist (List.take_sublist _ _)
  refine ⟨u,rv,?_⟩;rcases S.par y (KM hp) with k | k
  ·exact .inl ⟨k,FE NR hp hu k⟩
  ·obtain ⟨c,e⟩:=LO (n:=s.heap.objs.size+1) k;refine .inr ⟨.inl k,c,e,?_⟩;have q:=x.cell y c e;rw [GY NR hp hu (by show scope.names.lookup y≠_;rw [k];decide)] at q;exact q
 ·exact e0.au.fresh (Ja6 (x.above y c (Db h)))
 ·unfold start;show _=N.length;rw [LE,pp,List.length_replicate];omega
def v8 {CX:dj} {P:Program} {w:World} {K:ν} {mg:Str->Option Value} {base:Heap} {k:Nat} {f:Addr} {name qual:Str} {params:Arguments} {body:List Stmt} {scope:Scope} {dV kV doc pm cdv ct oc:Value} {an od:Option Addr}
  {dq:Array (Option Value)} {N ps:List Str} {sp:Sp} (lk:K.lookup f=some ⟨oc,od,.func (W.fnOf name qual params body scope dV kV doc pm an cdv ct),dq⟩) (aV:W.codeIn K cdv qual=true) (S:aF N ps scope)
  (len:∀ vs H Q E,sp vs H Q E->vs.length=ps.length)
  (o1:∀ (A:Around) (outer:List Env) (s:Shared) (H:Hp) (vs:List V) (Q:VK) (E:XK),bc k (A.deeper (envOfC qual scope s.heap.objs.size f cdv))->sp vs H Q E ->
   ∃ t,dv (c7 CX P w K mg base N qual scope f cdv A outer s H E) body t/\t { nx:=fun _ H'=>Q .aw H',rt:=Q } (start N vs) H) :
  aq P w K mg base CX (k+1) f (W.fnOf name qual params body scope dV kV doc pm an cdv ct) ps sp:=by
 refine ⟨len,fun A outer s H args us vs Q E hr e0 hb r dm=>?_⟩;have hl:=len _ _ _ _ dm;have KX:K.In s.heap:=e0.mod.gS.keeps fun b o e=>(e0.bs b o e).1;have lim:s.heap.NoLimit:=e0.mod.nolimit.keeps fun b o e=>(e0.bs b o e).1;have uO:∀ y∈ps.zip us,scope.names.lookup y.1=some .local\/(scope.names.lookup y.1=some .cell/\((cellsFrom (s.heap.objs.size+1) scope.names []).lookup y.1).isSome=true):=fun ⟨n,v⟩ hy=>by
  rcases S.par n (_Q hy).1 with q | q
  ·exact .inl q
  ·exact .inr ⟨q,_s _ _ _ (.inl q)⟩
 refine _X hr.depth (KX _ _ lk) rfl S.co S.gen rfl (Jac KX aV) (hb _ _ _ _ ?_);refine _A S.kind uO fun env he s1 x=>?_;subst he;refine ⟨lim.keeps x.toInCall.keep,codeAny_func ?_⟩;obtain ⟨t,ht,hq⟩:=o1 A outer s H vs Q E (hr.deeper _) dm;have I:Inv (c7 CX P w K mg base N qual scope f cdv A outer s H E) [] (start N vs) H s1:=yU S hr.hd e0 hl r x;refine GT (ht [] s1 (start N vs) H _ I hq) (fun fl s' hs=>?_) fun e s' hs=>hs;have fin:∀ {σ':St} {H':Hp} {v:V} {u:Value},Inv (c7 CX P w K mg base N qual scope f cdv A outer s H E) [] σ' H' s'->RelV v u->Q v H'->CE outer P w H s Q u s' :=
  fun {σ' H' v u} J rv q=>⟨v,H',J.os,J.bare,J.base,J.au,rv,q⟩
 cases fl with
 | ret u =>
  obtain ⟨v,σ',H',J,rv,q⟩:=hs;exact fin J rv q
 | next =>
  obtain ⟨σ',H',J,q⟩:=hs;exact fin (v:=V.aw) (u:=Value.none) J rfl q
 | brk =>
  obtain ⟨_,_,_,q⟩:=hs;exact False.elim q
 | cont =>
  obtain ⟨_,_,_,q⟩:=hs;exact False.elim q
section
variable {X:Cx} {x:Str} {p pos:Pos} {e:Expr} {es:List Expr} {t:TA} {id T:String} {r:List V->Hp->VK->Prop}
def oy (r:List V->Hp->VK->Prop) (t:TA):TE:=fun σ H Q=>t σ H fun vs H1=>r vs H1 Q
def T9 (hc:dz X (.builtin id) r) (hg:Gl X x) (hm:X.mg x=none) (hv:bootBuiltins x=some (.builtin id)) (ha:PA X (e::es) t) (hn:x ≠ "__name__" := by decide) (bM:(x == ("__debug__":Str))=false:=by decide)
  (he:starEach (e::es) X.env=(false,eval e X.env)::starEach es X.env:=by rfl) (cf:(backTo pos (starEach es X.env)).any (·.1)=false:=by rfl):PE X (.Call (.Name x p) (e::es) [] pos) (oy r t):=by
 intro π s σ H Q I h;refine Go (oh I hg hm hv ?_ hn bM);exact PyProof.Rows.callWith_builtin1 (aC (ha pos π s σ H _ I h) fun us s1 ⟨vs,H1,I1,r1,q1⟩=>hc π s1 σ H1 vs us Q I1 r1 q1) he cf
def aa0 (hc:dz X (.type T) r) (hg:Gl X x) (hm:X.mg x=none) (hv:bootBuiltins x=some (.type T)) (ha:PA X (e::es) t) (hn:x ≠ "__name__" := by decide) (bM:(x == ("__debug__":Str))=false:=by decide)
  (he:starEach (e::es) X.env=(false,eval e X.env)::starEach es X.env:=by rfl) (cf:(backTo pos (starEach es X.env)).any (·.1)=false:=by rfl):PE X (.Call (.Name x p) (e::es) [] pos) (oy r t):=by
 intro π s σ H Q I h;refine Go (oh I hg hm hv ?_ hn bM);exact T0 (aC (ha pos π s σ H _ I h) fun us s1 ⟨vs,H1,I1,r1,q1⟩=>hc π s1 σ H1 vs us Q I1 r1 q1) he cf
end
end L2
namespace HT
open PySem PyProof.Rows
section
open PySem.SeqAt
open PySem.AutoSeq1 (wpAny_loadPart')
open PySem.MeetsSeq PySem.MeetsSeq2 PySem.MeetsSeq3
end
section
variable {prog:Program} {w:World} {A:Around} {E:Value->Shared->Prop} {s:Shared}
def dF (n d:Nat):Option Int->Nat
 | none=>d
 | some v=>if v < 0 then (v+(n:Int)).toNat else min v.toNat n
def Uh (n d:Nat):dF n d none=d:=rfl
def RJ (n d k:Nat):dF n d (some (k:Int))=min k n:=by
 show (if (k:Int) < 0 then ((k:Int)+(n:Int)).toNat else min (k:Int).toNat n)=min k n;rw [if_neg (by omega),Int.toNat_natCast]
end
end HT
namespace L2
open PySem PySem.Spec PyProof.Rows
abbrev TO:=St->Hp->(Option Int->Hp->Prop)->Prop
def PO (X:Cx) (e:Option Expr) (t:TO):Prop :=
 ∀ (π:List (Addr×Obj)) (s:Shared) (σ:St) (H:Hp) (Q:Option Int->Hp->Prop),Inv X π σ H s->t σ H Q ->
  wpAny (model X.prog X.w) X.A (evalPart e X.env) (fun u s'=>∃ o H',Inv X π σ H' s'/\IsPart u o/\Q o H') X.xe s
def BM:TO:=fun _ H Q=>Q none H
section
variable {X:Cx} {e:Expr} {te:TE} {lo hi:Option Expr} {tl th:TO} {pos p2:Pos}
def acE:PO X none BM:=by
 intro π s σ H Q I h;rw [evalPart_none];exact sw ⟨none,H,I,.none,h⟩
def jJ (X:Cx) (r:V->Option Int->Option Int->Hp->VK->Prop):Prop :=
 ∀ (π:List (Addr×Obj)) (s:Shared) (σ:St) (H:Hp) (x:V) (v vl vu:Value) (lo hi:Option Int) (sl:Addr) (Q:VK),Inv X π σ H s->RelV x v->s.heap.IsSliceOf sl vl vu .none->IsPart vl lo->IsPart vu hi->r x lo hi H Q ->
  ∃ T id,typeLookup (.type T) "__getitem__" = pure (some (.builtin id))/\s.TypeIs v T/\wpAny (model X.prog X.w) X.A (getItem v (.ref sl)) (EP X π σ Q) X.xe s
def jJ.or {r r':V->Option Int->Option Int->Hp->VK->Prop} (h:jJ X r) (h':jJ X r'):jJ X (fun x lo hi H Q=>r x lo hi H Q\/r' x lo hi H Q):=by
 intro π s σ H x v vl vu lo hi sl Q I rx hs pl pu q;rcases q with q | q
 ·exact h π s σ H x v vl vu lo hi sl Q I rx hs pl pu q
 ·exact h' π s σ H x v vl vu lo hi sl Q I rx hs pl pu q
def zf (r:V->Option Int->Option Int->Hp->VK->Prop) (te:TE) (tl th:TO):TE:=fun σ H Q=>te σ H fun x H1=>tl σ H1 fun l H2=>th σ H2 fun u H3=>r x l u H3 Q
def aaH {r:V->Option Int->Option Int->Hp->VK->Prop} (hr:jJ X r) (he:PE X e te) (hl:PO X lo tl) (hu:PO X hi th):PE X (.Subscript e (.Slice lo hi none p2) pos) (zf r te tl th):=by
 intro π s σ H Q I h;refine Subscript_ (aC (he π s σ H _ I h) fun v s1 ⟨x,H1,I1,r1,q1⟩=>?_);refine wpAny_Slice (aC (hl π s1 σ H1 _ I1 q1) fun vl s2 ⟨l,H2,I2,pl,q2⟩=>aC (hu π s2 σ H2 _ I2 q2) fun vu s3 ⟨u,H3,I3,pu,q3⟩=>?_);rw [evalPart_none];refine sw ?_;have I4:Inv X π σ H3 { s3 with heap:=s3.heap.push { cls:=.type "slice",data:=.fields #[vl,vu,.none] } }:=I3.kept (t':=s3.toks) fun b ob q=>pc _ q;obtain ⟨T,id,hT,ht,hg⟩:=hr π { s3 with heap:=s3.heap.push { cls:=.type "slice",data:=.fields #[vl,vu,.none] } } σ H3 x v vl vu l u s3.heap.objs.size Q I4 r1 (Heap.IsSliceOf.new ..) pl pu q3;show wpAny (model X.prog X.w) X.A (subscriptTail e (.Slice lo hi none p2) v (.ref s3.heap.objs.size)) (EP X π σ Q) X.xe { s3 with heap:=s3.heap.push { cls:=.type "slice",data:=.fields #[vl,vu,.none] } };exact tail_any (ops:=[.ref s3.heap.objs.size,v]) ht hT hg (by with_unfolding_all rfl)
def jz (xs:List V) (lo hi:Option Int):List V:=(xs.drop (HT.dF xs.length 0 lo)).take (HT.dF xs.length xs.length hi - HT.dF xs.length 0 lo)
def Si (xs:List V) (lo hi:Option Int):(jz xs lo hi).length<=xs.length:=by
 unfold jz;rw [Wp,List.length_drop];omega
end
def fC (n:Nat) (i:Int):Option Nat:=if 0<=i then (if i < n then some i.toNat else none) else if -(n:Int)<=i then some (i+n).toNat else none
def eC {α:Type} (xs:List α) (i:Int):Option α:=(fC xs.length i).bind fun j=>xs[j]?
def Kk {n:Nat} {i:Int} {j:Nat} (h:fC n i=some j):seqIndex? i n=some j/\j < n/\-(n:Int)<=i/\i < n:=by
 unfold fC at h;by_cases h0:0<=i
 ·rw [AT h0] at h;by_cases h1:i < n
  ·rw [AT h1] at h;have e:i.toNat=j:=Fk h;exact ⟨by rw [seqIndex_of h0 h1,e],by omega,by omega,h1⟩
  ·rw [zn h1] at h;cases h
 ·rw [zn h0] at h;by_cases h1:-(n:Int)<=i
  ·rw [AT h1] at h;have e:(i+n).toNat=j:=Fk h;exact ⟨by rw [seqIndex_neg (by omega) h1,e],by omega,h1,by omega⟩
  ·rw [zn h1] at h;cases h
def Ac {α:Type} {xs:List α} {i:Int} {v:α} (h:eC xs i=some v):∃ j,seqIndex? i xs.length=some j/\xs[j]?=some v/\j < xs.length/\-(xs.length:Int)<=i/\i < xs.length:=by
 unfold eC at h;cases e:fC xs.length i with
 | none=>rw [e] at h;cases h
 | some j =>
  rw [e] at h;obtain ⟨h1,h2,h3,h4⟩:=Kk e;exact ⟨j,h1,h,h2,h3,h4⟩
def lK {α:Type} {xs:List α} {j:Nat} {v:α} (h:xs[j]?=some v):eC xs (j:Int)=some v:=by
 have hj:j < xs.length:=(sK.mp h).1;have e:fC xs.length (j:Int)=some j:=by
  unfold fC;rw [AT (by omega),AT (by omega)];simp
 unfold eC;rw [e];exact h
def qe {α:Type} (xs:List α) (v:α):eC (xs++[v]) (-1)=some v:=by
 have hl:(xs++[v]).length=xs.length+1:=by simp
 have e:fC (xs++[v]).length (-1)=some xs.length:=by
  unfold fC;rw [hl,zn (by decide),AT (by omega)]
  congr 1
  omega
 unfold eC;rw [e];show (xs++[v])[xs.length]?=some v;simp
def HH (b:Expr):Prop:=∀ o i,subscripted b false o i=operate [o,i] (getItem o i)
def fM (X:Cx) (r:R2):Prop :=
 ∀ (value slice:Expr) (π:List (Addr×Obj)) (s:Shared) (σ:St) (H:Hp) (x y:V) (v u:Value) (Q:VK),Inv X π σ H s->RelV x v->RelV y u->r x y H Q ->
  subscripted slice false v u=operate [v,u] (getItem v u)->wpAny (model X.prog X.w) X.A (subscriptTail value slice v u) (EP X π σ Q) X.xe s
def eG (X:Cx) (id:String) (r:V->List V->Hp->VK->Prop):Prop :=
 ∀ (π:List (Addr×Obj)) (s:Shared) (σ:St) (H:Hp) (x:V) (xs:List V) (v:Value) (us:List Value) (Q:VK),Inv X π σ H s->RelV x v->Vals xs us->r x xs H Q ->
  wpAny (model X.prog X.w) X.A (call (.builtin id) (v::us)) (EP X π σ Q) X.xe s
section
variable {X:Cx} {a b:Expr} {ta tb:TE} {pos:Pos}
def fM.or {r r':R2} (h:fM X r) (h':fM X r'):fM X (fun x y H Q=>r x y H Q\/r' x y H Q):=by
 intro value slice π s σ H x y v u Q I rx ry q hs;rcases q with q | q
 ·exact h value slice π s σ H x y v u Q I rx ry q hs
 ·exact h' value slice π s σ H x y v u Q I rx ry q hs
def TZ {r:R2} (hr:fM X r) (ha:PE X a ta) (hb:PE X b tb) (hs:HH b):PE X (.Subscript a b pos) (iU r ta tb):=by
 intro π s σ H Q I h;exact Subscript_ (Br ha hb I h fun v u s2 x y H2 I2 rx ry q=>hr a b π s2 σ H2 x y v u Q I2 rx ry q (hs _ _))
def JA (K:ν):R2:=fun x y H Q=>∃ p xs i v,x=.ref p/\y=.int i/\aH K H p xs/\eC xs i=some v/\Q v H
def HZ (K:ν):R2:=fun x y H Q=>∃ p xs i v,x=.ref p/\y=.int i/\bT K H p xs/\eC xs i=some v/\Q v H
def Gx:R2:=fun x y H Q=>∃ z i c,x=.str z/\y=.int i/\z.length<=sizeLine/\eC z.cps.toList i=some c/\Q (.str ⟨#[c]⟩) H
def JU:fM X (JA X.K):=by
 intro value slice π s σ H x y v u Q I rx ry h hs;obtain ⟨p,xs,i,z,rfl,rfl,hq,he,q⟩:=h;cases rx;obtain ⟨t,rfl⟩:=ry;obtain ⟨ao,r,pl,hz⟩:=I.list hq;obtain ⟨j,h1,h2,h3,h4,h5⟩:=Ac he;obtain ⟨w,ew,rw'⟩:=r.get h2;have hl:=r.length;have hn:=ue;have fin:EP X π σ Q w s:=⟨z,H,I,rw',q⟩;by_cases h0:0<=i
 ·have hj:i.toNat=j:=by
   rw [seqIndex_of h0 h5] at h1;exact Fk h1
  exact item_listR pl.isList h0 (by omega) (by rw [hj];simpa using ew) fin hs
 ·have hj:(i+(ao.toArray.size:Int)).toNat=j:=by
   rw [seqIndex_neg (by omega) h4] at h1;rw [ww,<- hl];exact Fk h1
  exact subscriptTail_builtinR (x:=w) pl.isList.typeIs slot_list_getitem.lookup
   (wpAny_getItem_list_neg (Q:=fun r s'=>r=w/\EP X π σ Q r s') pl.isList (by omega) (by rw [ww] <;> omega) (by omega) (by rw [hj];simpa using ew) ⟨rfl,fin⟩) hs
def OZ:fM X (HZ X.K):=by
 intro value slice π s σ H x y v u Q I rx ry h hs;obtain ⟨p,xs,i,z,rfl,rfl,hq,he,q⟩:=h;cases rx;obtain ⟨t,rfl⟩:=ry;obtain ⟨ao,r,pl,hz⟩:=I.tuple hq;obtain ⟨j,h1,h2,h3,h4,h5⟩:=Ac he;obtain ⟨w,ew,rw'⟩:=r.get h2;have hl:=r.length;have hn:=ue;have fin:EP X π σ Q w s:=⟨z,H,I,rw',q⟩;exact subscriptTail_builtinR (x:=w) pl.typeIs slot_tuple_getitem.lookup
  (getItem_tuple (j:=j) (Q:=fun r s'=>r=w/\EP X π σ Q r s') pl (by omega) (by omega) (by rw [ww,<- hl];exact h1) (by simpa using ew) ⟨rfl,fin⟩) hs
def Z9:fM X Gx:=by
 intro value slice π s σ H x y v u Q I rx ry h hs;obtain ⟨z,i,c,rfl,rfl,hz,he,q⟩:=h;obtain ⟨t,rfl⟩:=rx;obtain ⟨t',rfl⟩:=ry;obtain ⟨j,h1,h2,h3,h4,h5⟩:=Ac he;have hl:z.cps.toList.length=z.length:=by simp [Str.length]
 rw [hl] at h1 h4 h5;have hn:=ue;exact tail_any (_B s z t) slot_str_getitem.lookup (getItem_str (c:=c) (by
  have e1:decide (i < -(2 ^ 63:Int))=false:=tz (by omega);have e2:decide (i ≥ 2 ^ 63)=false:=tz (by omega);rw [e1,e2,Jai]) (by rw [h1];simpa using h2) ⟨.str ⟨#[c]⟩,H,I.tok _,⟨_,rfl⟩,q⟩) hs
def rIx (K:ν):R2:=fun x y H Q=>JA K x y H Q\/HZ K x y H Q\/Gx x y H Q
def RV:fM X (rIx X.K):=JU.or (OZ.or Z9)
def WM (ao:List Value) (n j:Nat) (u:Value):Obj.mapSeq (·.setIfInBounds j u) { cls:=.type "list",data:=.seq ao.toArray n }={ cls:=.type "list",data:=.seq (ao.set j u).toArray n }:=by
 simp [Obj.mapSeq]
def Inv.lst {π:List (Addr×Obj)} {σ:St} {H:Hp} {s:Shared} {p:Addr} {xs:List V} (I:Inv X π σ H s) (h:H p=some (.lst xs)) :
  ∃ (ao:List Value) (n:Nat),Vals xs ao/\s.heap.get? p=some { cls:=.type "list",data:=.seq ao.toArray n }/\xs.length<=sizeLine:=by
 obtain ⟨z,ao,n,r,e⟩:=I.au p _ h;exact ⟨ao,n,r,e,z⟩
def Inv.UC {π:List (Addr×Obj)} {σ:St} {H:Hp} {s:Shared} {p:Addr} {xs ys:List V} {ao its':List Value} {n n':Nat} {f:Obj->Obj} (I:Inv X π σ H s) (h:H p=some (.lst xs))
  (ho:s.heap.get? p=some { cls:=.type "list",data:=.seq ao.toArray n }) (hf:f { cls:=.type "list",data:=.seq ao.toArray n }={ cls:=.type "list",data:=.seq its'.toArray n' }) (r:Vals ys its') (hz:ys.length<=sizeLine) (t:Nat) :
  Inv X π σ (upd H p (.lst ys)) { s with heap:=s.heap.update p f,toks:=t }:=by
 have e:(s.heap.update p f).get? p=some { cls:=.type "list",data:=.seq its'.toArray n' }:=by
  rw [Rs f ho (by rw [hf] <;> rfl),hf]
 refine I.write (x:=p) (e:=p) (by rw [h];trivial) (.inl rfl) (fun b u hb q=>(GM _ _ (wP hb)).trans q) ⟨_,e⟩ ?_;exact ⟨hz,its',n',r,e⟩
def aaZ:V->V->V->Hp->(Hp->Prop)->Prop:=fun o i v H Q=>∃ p xs k j,o=.ref p/\i=.int k/\H p=some (.lst xs)/\fC xs.length k=some j/\Q (upd H p (.lst (xs.set j v)))
def set_list:xH X aaZ:=by
 intro π s σ H o i v ov iv u Q I ro ri rv h;obtain ⟨p,xs,k,j,rfl,rfl,hp,hj,q⟩:=h;cases ro;obtain ⟨t,rfl⟩:=ri;obtain ⟨ao,n,r,ho,hz⟩:=I.lst hp;obtain ⟨h1,h2,h3,h4⟩:=Kk hj;have hl:=r.length;have hn:=ue;have I':Inv X π σ (upd H p (.lst (xs.set j v))) { s with heap:=s.heap.update p (Obj.mapSeq (·.setIfInBounds j u)) } :=
  I.UC hp ho (WM ao n j u) (r.set rv j) (by rw [List.length_set];exact hz) s.toks
 by_cases h0:0<=k
 ·have hk:k.toNat=j:=by
   rw [seqIndex_of h0 h4] at h1;exact Fk h1
  exact W.ki_setAt ho h0 (by omega) (by rw [ww,<- hl];exact h4) (by rw [hk];exact ⟨_,I',q⟩)
 ·have hk:(k+(ao.toArray.size:Int)).toNat=j:=by
   rw [seqIndex_neg (by omega) h3] at h1;rw [ww,<- hl];exact Fk h1
  exact W.ki_setBack ho (by omega) (by rw [ww,<- hl];exact h3) (by omega) (by rw [hk];exact ⟨_,I',q⟩)
def Ql (lo hi:Option Int) (n:Nat):(sliceBounds lo hi none n).1=((HT.dF n 0 lo:Nat):Int)/\(sliceBounds lo hi none n).2.1=((HT.dF n n hi:Nat):Int)/\(sliceBounds lo hi none n).2.2=1:=by
 refine ⟨?_,?_,rfl⟩
 ·cases lo with
  | none=>simp [sliceBounds,HT.dF]
  | some i =>
   simp only [sliceBounds,HT.dF,Option.getD_none,show (1:Int) > 0 by decide,Ja8];by_cases h:i < 0
   ·simp only [h,Ja8] <;> omega
   ·simp only [h,Ty] <;> omega
 ·cases hi with
  | none=>simp [sliceBounds,HT.dF]
  | some i =>
   simp only [sliceBounds,HT.dF,Option.getD_none,show (1:Int) > 0 by decide,Ja8];by_cases h:i < 0
   ·simp only [h,Ja8] <;> omega
   ·simp only [h,Ty] <;> omega
def UQ (ao:List Value) (lo hi:Option Int):slicePick ao.toArray lo hi none=((ao.drop (HT.dF ao.length 0 lo)).take (HT.dF ao.length ao.length hi - HT.dF ao.length 0 lo)).toArray:=by
 obtain ⟨h1,h2,h3⟩:=Ql lo hi ao.toArray.size;unfold slicePick;rw [h1,h2,h3];simp only [sliceRange_one,pick_run,ww] <;> rfl
def adO (K:ν):V->Option Int->Option Int->Hp->VK->Prop:=fun x lo hi H Q=>∃ a xs,x=.ref a/\aH K H a xs/\∀ p,H p=none->Q (.ref p) (upd H p (.lst (jz xs lo hi)))
def ac7:jJ X (adO X.K):=by
 intro π s σ H x v vl vu lo hi sl Q I rx hs pl pu h;obtain ⟨a,xs,rfl,hx,q⟩:=h;cases rx;obtain ⟨ao,r,ht,hz⟩:=I.list hx;have hlen:=r.length;refine ⟨"list",_,slot_list_getitem.lookup,ht.isList.typeIs,?_⟩;refine wpAny_getItem_list_slice ht.isList hs pl pu .none (by simp) ?_ (by rw [ww] <;> omega);rw [UQ,<- hlen];refine ⟨.ref s.heap.objs.size,_,I.laid (t':=s.toks) (o:=.lst (jz xs lo hi)) (fun b ob q=>pc _ q) (ul _) ?_,rfl,q _ (I.au.fresh (ul _))⟩;exact ⟨wE (Si xs lo hi) hz,_,0,(r.drop (HT.dF xs.length 0 lo)).take (HT.dF xs.length xs.length hi - HT.dF xs.length 0 lo),u8 _ rfl⟩
def cU:V->Bool
 | .aw=>true
 | .bl _=>true
 | .int _=>true
 | .str _=>true
 | _=>false
def fR:V->V->Bool
 | .aw,.aw=>true
 | .bl a,.bl b=>a == b
 | .bl a,.int b=>(if a then 1 else 0) == b
 | .int a,.bl b=>a == (if b then 1 else 0)
 | .int a,.int b=>a == b
 | .str a,.str b=>a == b
 | _,_=>false
def Ag {A:Around} {s:Shared} {y x:V} {u v:Value} (ry:RelV y u) (rx:RelV x v) (fy:cU y=true) (fx:cU x=true):SeqAt.EqAt A s u v (fR y x):=by
 cases y with
 | aw =>
  cases ry;cases x with
  | aw=>cases rx;exact SeqAt.EqAt.same _
  | bl b=>cases rx;exact SeqAt.EqAt.none_bool b
  | int b=>obtain ⟨t,rfl⟩:=rx;exact SeqAt.EqAt.none_int b t
  | str b=>obtain ⟨t,rfl⟩:=rx;exact SeqAt.EqAt.none_str b t
  | _=>exact absurd (show false=true from fx) wT
 | bl a =>
  cases ry;cases x with
  | aw=>cases rx;exact SeqAt.EqAt.bool_none a
  | bl b=>cases rx;exact SeqAt.EqAt.bool_bool a b
  | int b=>obtain ⟨t,rfl⟩:=rx;exact SeqAt.EqAt.bool_int a b t
  | str b=>obtain ⟨t,rfl⟩:=rx;exact SeqAt.EqAt.bool_str a b t
  | _=>exact absurd (show false=true from fx) wT
 | int a =>
  obtain ⟨t',rfl⟩:=ry;cases x with
  | aw=>cases rx;exact SeqAt.EqAt.int_none a t'
  | bl b=>cases rx;exact SeqAt.EqAt.int_bool a t' b
  | int b=>obtain ⟨t,rfl⟩:=rx;exact SeqAt.EqAt.int_int a t' b t
  | str b=>obtain ⟨t,rfl⟩:=rx;exact SeqAt.EqAt.int_str a t' b t
  | _=>exact absurd (show false=true from fx) wT
 | str a =>
  obtain ⟨t',rfl⟩:=ry;cases x with
  | aw=>cases rx;exact SeqAt.EqAt.str_none a t'
  | bl b=>cases rx;exact SeqAt.EqAt.str_bool a t' b
  | int b=>obtain ⟨t,rfl⟩:=rx;exact SeqAt.EqAt.str_int a t' b t
  | str b=>obtain ⟨t,rfl⟩:=rx;exact SeqAt.EqAt.str_str a t' b t
  | _=>exact absurd (show false=true from fx) wT
 | _=>exact absurd (show false=true from fy) wT
def gg (x:V) (u:Value):Bool:=match u with
 | .none=>fR .aw x
 | .bool b=>fR (.bl b) x
 | .int i _=>fR (.int i) x
 | .str z _=>fR (.str z) x
 | _=>false
def LL {x y:V} {u:Value} (r:RelV y u) (f:cU y=true):gg x u=fR y x:=by
 cases y with
 | aw=>cases r;rfl
 | bl b=>cases r;rfl
 | int i=>obtain ⟨t,rfl⟩:=r;rfl
 | str z=>obtain ⟨t,rfl⟩:=r;rfl
 | _=>exact absurd (show false=true from f) wT
def tq {x:V}:∀ {xs:List V} {us:List Value},Vals xs us->xs.all cU=true->us.any (gg x)=xs.any fun y=>fR y x
 | _,_,.nil,_=>rfl
 | y::xs,u::us,.cons r t,f=>by
  rw [KB,Ch] at f;rw [UV,UV,LL r f.1,tq t f.2]
def sW {A:Around} {s:Shared} {x:V} {v:Value} (rx:RelV x v) (fx:cU x=true):∀ {xs:List V} {us:List Value},Vals xs us->xs.all cU=true->∀ u∈us,SeqAt.EqAt A s u v (gg x u)
 | _,_,.nil,_=>fun u hu=>by cases hu
 | y::xs,u::us,.cons r t,f=>fun u' hu=>by
  rw [KB,Ch] at f;rcases pi.mp hu with rfl | hu
  ·rw [LL r f.1];exact Ag r rx f.1 fx
  ·exact sW rx fx t f.2 u' hu
def dX (x:V) (xs:List V):Bool:=xs.any fun y=>fR y x
def Fq (K:ν) (neg:Bool):R2:=fun x y H Q=>∃ p xs,y=.ref p/\(aH K H p xs\/bT K H p xs)/\cU x=true/\xs.all cU=true/\Q (.bl (if neg then !dX x xs else dX x xs)) H
def GK:aZ X (compareOp .In) (Fq X.K false):=by
 intro π s σ H x y v u Q I rx ry h;obtain ⟨p,xs,rfl,hq,fx,fs,q⟩:=h;cases ry;rcases hq with hq | hq
 ·obtain ⟨ao,r,pl,hz⟩:=I.list hq;refine SeqAt.in_listAt (gg x) pl.isList (fun w hw=>sW rx fx r fs w (by simpa using hw)) ⟨.bl _,H,I,rfl,?_⟩;rw [show ao.toArray.any (gg x)=ao.any (gg x) by simp,tq r fs];exact q
 ·obtain ⟨ao,r,pl,hz⟩:=I.tuple hq;refine SeqAt.in_tupleAt (gg x) pl (fun w hw=>sW rx fx r fs w (by simpa using hw)) ⟨.bl _,H,I,rfl,?_⟩;rw [show ao.toArray.any (gg x)=ao.any (gg x) by simp,tq r fs];exact q
def acN:aZ X (compareOp .NotIn) (Fq X.K true):=by
 intro π s σ H x y v u Q I rx ry h;obtain ⟨p,xs,rfl,hq,fx,fs,q⟩:=h;cases ry;rcases hq with hq | hq
 ·obtain ⟨ao,r,pl,hz⟩:=I.list hq;refine SeqAt.notIn_listAt (gg x) pl.isList (fun w hw=>sW rx fx r fs w (by simpa using hw)) ⟨.bl _,H,I,rfl,?_⟩;rw [show ao.toArray.any (gg x)=ao.any (gg x) by simp,tq r fs];exact q
 ·obtain ⟨ao,r,pl,hz⟩:=I.tuple hq;refine SeqAt.notIn_tupleAt (gg x) pl (fun w hw=>sW rx fx r fs w (by simpa using hw)) ⟨.bl _,H,I,rfl,?_⟩;rw [show ao.toArray.any (gg x)=ao.any (gg x) by simp,tq r fs];exact q
def tyV (K:ν) (T:String) (x:V) (H:Hp):Prop:=match x with
 | .str _=>T = "str"
 | .int _=>T = "int"
 | .ref p=>(T = "list" /\ ∃ xs,aH K H p xs)\/(T = "tuple" /\ ∃ o,K.lookup p=some o/\o.cls=.type "tuple" /\ o.dict=none) \/
   (T = "dict" /\ ((∃ kvs,H p=some (.dK kvs))\/∃ kvs,H p=some (.dT kvs)))\/(T = "set" /\ ∃ S n,H p=some (.set S n))
 | _=>False
def zt {π:List (Addr×Obj)} {σ:St} {H:Hp} {s:Shared} {T:String} {x:V} {v:Value} (I:Inv X π σ H s) (r:RelV x v) (ty:tyV X.K T x H) :
  s.TypeIs v T/\∀ a,v=.ref a->∃ ob,s.heap.get? a=some ob/\ob.dict=none:=by
 cases x with
 | str z =>
  obtain ⟨t,rfl⟩:=r;cases (show T = "str" from ty);exact ⟨_B s z t,fun _ e=>nomatch e⟩
 | int i =>
  obtain ⟨t,rfl⟩:=r;cases (show T = "int" from ty);exact ⟨typeIs_int s i t,fun _ e=>nomatch e⟩
 | ref p =>
  cases r;rcases ty with ⟨rfl,xs,hq⟩ | ⟨rfl,o,hk,hc,hd⟩ | ⟨rfl,hk⟩ | ⟨rfl,S,n,hk⟩
  ·obtain ⟨ao,_,pl,_⟩:=I.list hq;refine ⟨pl.isList.typeIs,fun a e=>?_⟩;cases e;obtain ⟨o,n,e,c,hd,_⟩:=pl;exact ⟨o,e,hd⟩
  ·refine ⟨⟨o,I.cj p o hk,hc⟩,fun a e=>?_⟩;cases e;exact ⟨o,I.cj _ o hk,hd⟩
  ·have z:∃ o,s.heap.get? p=some o/\o.ExactDict:=by
    rcases hk with ⟨kvs,hk⟩ | ⟨kvs,hk⟩
    ·obtain ⟨_,_,_,_,o,_,_,e,ex,_⟩:=I.au p _ hk;exact ⟨o,e,ex⟩
    ·obtain ⟨_,_,_,_,o,_,_,e,ex,_⟩:=I.au p _ hk;exact ⟨o,e,ex⟩
   obtain ⟨o,e,ex⟩:=z;refine ⟨⟨o,e,ex.1⟩,fun a e2=>?_⟩;cases e2;exact ⟨o,e,ex.2.1⟩
  ·obtain ⟨o,_,_,_,e,ex,_⟩:=I.au p _ hk;refine ⟨⟨o,e,ex.1⟩,fun a e2=>?_⟩;cases e2;exact ⟨o,e,ex.2.1⟩
 | _=>exact False.elim ty
variable {o e:Expr} {es:List Expr} {to:TE} {t:TA} {name:Str} {apos bj:Pos} {T id:String} {r:V->List V->Hp->VK->Prop}
/- xs.append(e),list.index on a module's tuple .. are eG facts of 06m -/
end
def Ig (X:Cx) (id:String) (r:V->List V->Hp->VK->Prop):Prop :=
 ∀ (π:List (Addr×Obj)) (s:Shared) (σ:St) (H:Hp) (x:V) (xs:List V) (v:Value) (us:List Value) (Q:VK),Inv X π σ H s->RelV x v->Vals xs us->r x xs H Q ->
  wpAny (model X.prog X.w) X.A (call (.builtin id) (v::us)) (EP X π σ Q) X.xe s
def Vals.one:∀ {x:V} {us:List Value},Vals [x] us->∃ u,us=[u]/\RelV x u
 | _,_,.cons r .nil=>⟨_,rfl,r⟩
def Vals.zero:∀ {us:List Value},Vals [] us->us=[]
 | _,.nil=>rfl
def Vals.dropLast {xs:List V} {us:List Value} (h:Vals xs us):Vals xs.dropLast us.dropLast:=by
 induction h with
 | nil=>exact .nil
 | cons r t ih =>
  cases t with
  | nil=>exact .nil
  | cons q t'=>exact .cons r ih
def Vals.rep {xs:List V} {us:List Value} (h:Vals xs us):∀ k:Nat,Vals (List.replicate k xs).flatten (List.replicate k us).flatten
 | 0=>.nil
 | k+1=>by
  rw [_i,_i,_T,_T];exact Vals.append h (Vals.rep h k)
def P5 {α:Type} (l:List α):l.eraseIdx (l.length - 1)=l.dropLast:=by
 induction l with
 | nil=>rfl
 | cons a r ih =>
  cases r with
  | nil=>rfl
  | cons b r =>
   have e:(a::b::r).length - 1=((b::r).length - 1)+1:=by
    have h1:(a::b::r).length=r.length+2:=rfl;have h2:(b::r).length=r.length+1:=rfl;omega
   rw [e,List.eraseIdx_cons_succ,ih]
   all_goals rfl
def foldl_rep (ao:List Value):∀ (k:Nat) (acc:List Value),
  List.foldl (fun x1 x2=>x1++x2) acc.toArray (List.replicate k ao.toArray)=(acc++(List.replicate k ao).flatten).toArray
 | 0,acc=>by simp
 | k+1,acc=>by
  have e:acc.toArray++ao.toArray=(acc++ao).toArray:=by simp
  have e2:(acc++ao)++(List.replicate k ao).flatten=acc++(List.replicate (k+1) ao).flatten:=by
   rw [_i,_T,List.append_assoc]
  rw [<- e2,<- foldl_rep ao k (acc++ao),<- e,_i,List.foldl_cons]
section
variable {X:Cx} {π:List (Addr×Obj)} {σ:St} {H:Hp} {s:Shared} {l b:Addr} {xs ys zs:List V}
def Inv.Fy {ao its':List Value} {n:Nat} {f:Array Value->Array Value} {t':Nat} (I:Inv X π σ H s) (hH:H l=some (.lst xs))
  (e:s.heap.get? l=some { cls:=.type "list",data:=.seq ao.toArray n }) (hf:f ao.toArray=its'.toArray) (hv:Vals ys its') (hz:ys.length<=sizeLine) :
  Inv X π σ (upd H l (.lst ys)) { s with heap:=s.heap.update l (Obj.mapSeq f),toks:=t' }:=by
 have q:=PySem.IsL.update e f;rw [hf] at q;refine I.write (x:=l) (e:=l) (by rw [hH];exact trivial) (.inl rfl) (fun b' u hb hu=>(GM s.heap (Obj.mapSeq f) (wP hb)).trans hu) ⟨_,q⟩ ?_;exact ⟨hz,its',_,hv,q⟩
def Inv.Hx {ao:List Value} {t':Nat} (I:Inv X π σ H s) (hv:Vals ys ao) (hz:ys.length<=sizeLine) :
  Inv X π σ (upd H s.heap.objs.size (.lst ys)) { s with heap:=s.heap.push { cls:=.type "list",data:=.seq ao.toArray },toks:=t' } :=
 I.laid (fun _ _ q=>pc _ q) (ul _) ⟨hz,ao,0,hv,u8 _ rfl⟩
def Inv.fresh (I:Inv X π σ H s):H s.heap.objs.size=none:=I.au.fresh (ul _)
def Inv.rC (I:Inv X π σ H s) (hH:H l=some (.lst xs)):xs.length<=sizeLine/\∃ (ao:List Value) (n:Nat),Vals xs ao/\xs.length=ao.length/\s.heap.get? l=some { cls:=.type "list",data:=.seq ao.toArray n }:=by
 obtain ⟨z,ao,n,r,e⟩:=I.au l _ hH;exact ⟨z,ao,n,r,r.length,e⟩
def Pk {n:Nat} (h:n<=sizeLine):Builtin.List.listTooLong n=false:=by
 unfold Builtin.List.listTooLong;exact tz (by omega)
end
section
variable {X:Cx}
def PZ:V->List V->Hp->VK->Prop:=fun x vs H Q=>∃ l xs y,x=.ref l/\vs=[y]/\H l=some (.lst xs)/\xs.length < sizeLine/\Q .aw (upd H l (.lst (xs++[y])))
def Wn:Ig X "list.append" PZ:=by
 intro π s σ H x vs v us Q I rx rv h;obtain ⟨l,xs,y,rfl,rfl,hH,hz,q⟩:=h;cases rx;obtain ⟨u,rfl,ru⟩:=rv.one;obtain ⟨z,ao,n,r,hl,e⟩:=I.rC hH;refine _g F.slot_list_append ⟨_,e,rfl⟩ F.entry_list_append (F.args_list_append_2 _ _) (PySem.list_append l ao.toArray n u (by rw [ww];omega)) ⟨e,?_⟩;refine ⟨.aw,_,I.Fy (its':=ao++[u]) hH e (by simp) (r.append (.cons ru .nil)) ?_,rfl,q⟩;rw [LE,List.length_singleton];omega
def JE:V->List V->Hp->VK->Prop:=fun x vs H Q=>∃ l xs y,x=.ref l/\vs=[]/\H l=some (.lst xs)/\xs[xs.length - 1]?=some y/\Q y (upd H l (.lst xs.dropLast))
def abj:Ig X "list.pop" JE:=by
 intro π s σ H x vs v us Q I rx rv h;obtain ⟨l,xs,y,rfl,rfl,hH,hy,q⟩:=h;cases rx;have hus:=rv.zero;subst hus;obtain ⟨z,ao,n,r,hl,e⟩:=I.rC hH;obtain ⟨u,hu,ru⟩:=r.get hy;have hy':ao.toArray[ao.toArray.size - 1]?=some u:=by
  show ao.toArray[ao.length - 1]?=some u;rw [<- Os,<- hl];exact hu
 refine _g F.slot_list_pop ⟨_,e,rfl⟩ F.entry_list_pop (F.args_list_pop_1 _) (MeetsSeq.list_pop_last l ao.toArray n u hy' (by rw [ww];omega)) ⟨e,?_⟩;refine ⟨y,_,I.Fy (its':=ao.dropLast) hH e ?_ r.dropLast ?_,ru,q⟩
 ·show ao.toArray.eraseIdxIfInBounds (ao.toArray.size - 1)=ao.dropLast.toArray;rw [ww,List.eraseIdxIfInBounds_toArray,P5]
 ·rw [List.length_dropLast];omega
def adk:R2:=fun x y H Q=>∃ l b xs zs,x=.ref l/\y=.ref b/\H l=some (.lst xs)/\H b=some (.lst zs)/\xs.length+zs.length<=sizeLine/\∀ p,H p=none->Q (.ref p) (upd H p (.lst (xs++zs)))
def Y8:aZ X (binaryOp .Add) adk:=by
 intro π s σ H x y v u Q I rx ry h;obtain ⟨l,b,xs,zs,rfl,rfl,hH,hB,hz,q⟩:=h;cases rx;cases ry;obtain ⟨z,ao,n,r,hl,e⟩:=I.rC hH;obtain ⟨z2,MO,n2,r2,eN,e2⟩:=I.rC hB;refine PySem.P.add_list e e2 ?_ (by rw [ww,ww];omega);have ea:ao.toArray++MO.toArray=(ao++MO).toArray:=by simp
 rw [ea];exact ⟨.ref _,_,I.Hx (t':=s.toks) (r.append r2) (by rw [LE];omega),rfl,q _ I.fresh⟩
def WK:R2:=fun x y H Q=>∃ l k xs,x=.ref l/\y=.int k/\H l=some (.lst xs)/\-(2 ^ 63)<=k/\k < 2 ^ 63/\xs.length * k.toNat<=sizeLine /\
 ∀ p,H p=none->Q (.ref p) (upd H p (.lst (List.replicate k.toNat xs).flatten))
def len_rep {α:Type} (xs:List α) (k:Nat):(List.replicate k xs).flatten.length=k * xs.length:=by
 induction k with
 | zero=>simp
 | succ k ih=>rw [_i,_T,LE,ih,Nat.succ_mul,Nat.add_comm]
def Vj:aZ X (binaryOp .Mult) WK:=by
 intro π s σ H x y v u Q I rx ry h;obtain ⟨l,k,xs,rfl,rfl,hH,h1,h2,hz,q⟩:=h;cases rx;obtain ⟨t,rfl⟩:=ry;obtain ⟨z,ao,n,r,hl,e⟩:=I.rC hH;have hlen:ao.toArray.size * k.toNat<=sizeLine:=by rw [ww,<- hl];exact hz
 have hcap:¬ ao.toArray.size * k.toNat > (2 ^ 63 - 1) / 8:=by
  have:(sizeLine:Nat)<=(2 ^ 63 - 1) / 8:=by decide
  omega
 have DT:¬ (!Builtin.List.listFitsIndex k)=true:=by
  rw [fitsIndex_both h1 h2];exact wT
 have hlong:¬ Builtin.List.listTooLong (ao.toArray.size * k.toNat)=true:=by
  rw [Pk hlen];exact wT
 have hnew:List.foldl (fun x1 x2=>x1++x2) #[] (List.replicate (if ao.toArray.isEmpty=true then 0 else k.toNat) ao.toArray)=(List.replicate k.toNat ao).flatten.toArray:=by
  have f0:∀ m:Nat,List.foldl (fun x1 x2=>x1++x2) #[] (List.replicate m ao.toArray)=(List.replicate m ao).flatten.toArray:=fun m=>by
   have:=foldl_rep ao m [];rw [List.nil_append] at this;exact this
  rw [f0];cases ao with
  | nil=>simp
  | cons a r'=>rw [zn (by simp)]
 refine wpAny_binaryOp_repeat_ref (T := "list") (U := "int") (by decide) ⟨_,e,rfl⟩ (fun s'=>typeIs_int s' k t) noFill_list_mul F.fills_int_mul F.slot_int_rmul repeat_list F.slot_int_index.lookup
  (_g F.slot_int_rmul (typeIs_int s k t) F.entry_int_rmul (F.args_int_rmul_2 _ _) (int___rmul___int_list k t l ao.toArray n)
   ⟨e,rfl,⟨_,e,rfl⟩,_g F.slot_list_mul ⟨_,e,rfl⟩ F.entry_list_mul (F.args_list_mul_2 _ _) (AutoListH.list___mul___list_int_3 l ao.toArray n k t DT hcap hlong) ⟨e,?_⟩⟩)
 rw [hnew];exact ⟨.ref _,_,I.Hx (t':=s.toks) (r.rep k.toNat) (by rw [len_rep,Nat.mul_comm];exact hz),rfl,q _ I.fresh⟩
end
section
variable {prog:Program} {w:World} {A:Around} {E:Value->Shared->Prop} {s:Shared}
end
section
variable {X:Cx}
end
section
variable {κ:Type} [DecidableEq κ]
def bb (kvs:List (κ×V)) (k:κ):Option V:=(kvs.find? fun kv=>decide (kv.1=k)).map (·.2)
def putK (kvs:List (κ×V)) (k:κ) (v:V):List (κ×V) :=
 if (kvs.any fun kv=>decide (kv.1=k))=true then kvs.map (fun kv=>if kv.1=k then (kv.1,v) else kv) else kvs++[(k,v)]
def VQ (kvs:List (κ×V)) (k:κ):List (κ×V):=kvs.filter fun kv=>decide (kv.1≠k)
def zI {p:κ×V} {r:List (κ×V)} {k:κ} (e:p.1=k):bb (p::r) k=some p.2:=by simp [bb,Tm,e]
def yE {p:κ×V} {r:List (κ×V)} {k:κ} (e:¬ p.1=k):bb (p::r) k=bb r k:=by simp [bb,Tm,e]
def zK (k:κ):∀ kvs:List (κ×V),(kvs.any fun kv=>decide (kv.1=k))=(bb kvs k).isSome
 | []=>rfl
 | p::r=>by
  rw [UV];by_cases e:p.1=k
  ·simp only [zI e,xz e,Bool.true_or,Option.isSome_some]
  ·rw [yE e,tz e,Bool.false_or];exact zK k r
def Bi (kvs:List (κ×V)) (k:κ) (v:V):(putK kvs k v).length<=kvs.length+1:=by
 unfold putK;split
 ·rw [pp];omega
 ·rw [LE,FS,_8];omega
def eL.tE {o:Option V} {u:Option Value} (r:eL o u):o.isSome=u.isSome:=by
 cases o with
 | none=>cases u with
  | none=>rfl
  | some _=>exact (show False from r).elim
 | some _=>cases u with
  | none=>exact (show False from r).elim
  | some _=>rfl
def eL.getD {o:Option V} {u:Option Value} {d:V} {d':Value} (r:eL o u) (rd:RelV d d'):RelV (o.getD d) (u.getD d'):=by
 cases o with
 | none=>cases u with
  | none=>exact rd
  | some _=>exact (show False from r).elim
 | some _=>cases u with
  | none=>exact (show False from r).elim
  | some _=>exact r
def KV.val {kvs:List (κ×V)} {vs:List (κ×Value)} (r:KV kvs vs) (k:κ):eL (bb kvs k) (valueAt vs k):=by
 unfold KV at r
 induction r with
 | nil=>exact True.intro
 | @cons p q ps qs h t ih =>
  obtain ⟨h1,h2⟩:=h;by_cases e:p.1=k
  ·have e':q.1=k:=h1.symm.trans e;have b:valueAt (q::qs) k=some q.2:=by simp [valueAt,Tm,e']
   rw [zI e,b];exact h2
  ·have e':¬ q.1=k:=fun z=>e (h1.trans z);have b:valueAt (q::qs) k=valueAt qs k:=by simp [valueAt,Tm,e']
   rw [yE e,b];exact ih
def KV.any {kvs:List (κ×V)} {vs:List (κ×Value)} (r:KV kvs vs) (k:κ):(kvs.any fun kv=>decide (kv.1=k))=vs.any fun kv=>decide (kv.1=k):=by
 unfold KV at r
 induction r with
 | nil=>rfl
 | cons h t ih=>rw [UV,UV,ih,h.1]
def KV.y6 {kvs:List (κ×V)} {vs:List (κ×Value)} (r:KV kvs vs) (k:κ) {y:V} {u:Value} (ry:RelV y u) :
  KV (kvs.map fun kv=>if kv.1=k then (kv.1,y) else kv) (vs.map fun kv=>if kv.1=k then (kv.1,u) else kv):=by
 unfold KV at r ⊢
 induction r with
 | nil=>exact .nil
 | @cons p q ps qs h t ih =>
  rw [ut,ut];refine .cons ?_ ih;obtain ⟨h1,h2⟩:=h;by_cases e:p.1=k
  ·rw [AT e,AT (h1.symm.trans e)];exact ⟨h1,ry⟩
  ·rw [zn e,zn (fun z=>e (h1.trans z))];exact ⟨h1,h2⟩
def KV.put {kvs:List (κ×V)} {vs:List (κ×Value)} (r:KV kvs vs) (k:κ) {y:V} {u:Value} (ry:RelV y u):KV (putK kvs k y) (stored vs k u):=by
 unfold putK stored;rw [r.any k];by_cases e:(vs.any fun kv=>decide (kv.1=k))=true
 ·rw [AT e,AT e];exact r.y6 k ry
 ·rw [zn e,zn e];exact Paired.snoc r ⟨rfl,ry⟩
def KV.keys {kvs:List (κ×V)} {vs:List (κ×Value)} (r:KV kvs vs):kvs.map (·.1)=vs.map (·.1):=by
 unfold KV at r
 induction r with
 | nil=>rfl
 | cons h t ih=>rw [ut,ut,ih,h.1]
def KV.length {kvs:List (κ×V)} {vs:List (κ×Value)} (r:KV kvs vs):kvs.length=vs.length:=Paired.length r
end
def mD {P:Program} {w:World} {k:Key} {u:Value} (r:RelV (kV k) u):(dO P w).is k u=true:=by
 cases k with
 | inl i=>obtain ⟨t,e⟩:=(show ∃ t,u=Value.int i t from r);subst e;exact Vc P w i t
 | inr x=>obtain ⟨t,e⟩:=(show ∃ t,u=Value.str x t from r);subst e;exact acq P w x t
def JF {P:Program} {w:World}:∀ {ks:List Key} {us:List Value},Vals (ks.map kV) us->ItemsAre (dO P w) ks us
 | [],_,r=>by rw [At] at r;cases r;exact .nil
 | k::ks,_,r=>by
  rw [ut] at r;cases r with
  | cons h t=>exact .cons (mD h) (JF t)
abbrev KT (H:Hp):List (List Key×V)->List (List Key×Addr×Value)->Prop:=Paired fun p q=>p.1=q.1/\H q.2.1=some (.tup (p.1.map kV))/\RelV p.2 q.2.2
def KT.val {H:Hp} {kvs:List (List Key×V)} {xs:List (List Key×Addr×Value)} (r:KT H kvs xs) (k:List Key):eL (bb kvs k) ((atKey xs k).map (·.2)):=by
 induction r with
 | nil=>exact True.intro
 | @cons p q ps qs h t ih =>
  obtain ⟨h1,_,h2⟩:=h;by_cases e:p.1=k
  ·have e':q.1=k:=h1.symm.trans e;have b:atKey (q::qs) k=some q.2:=by simp [atKey,Tm,e']
   rw [zI e,b];exact h2
  ·have e':¬ q.1=k:=fun z=>e (h1.trans z);have b:atKey (q::qs) k=atKey qs k:=by simp [atKey,Tm,e']
   rw [yE e,b];exact ih
def KT.y6 {H:Hp} {kvs:List (List Key×V)} {xs:List (List Key×Addr×Value)} (r:KT H kvs xs) (k:List Key) {y:V} {u:Value} (ry:RelV y u) :
  KT H (kvs.map fun kv=>if kv.1=k then (kv.1,y) else kv) (xs.map (putAt k u)):=by
 induction r with
 | nil=>exact .nil
 | @cons p q ps qs h t ih =>
  rw [ut,ut];refine .cons ?_ ih;obtain ⟨h1,h2,h3⟩:=h;unfold putAt;by_cases e:p.1=k
  ·rw [AT e,AT (h1.symm.trans e)];exact ⟨h1,h2,ry⟩
  ·rw [zn e,zn (fun z=>e (h1.trans z))];exact ⟨h1,h2,h3⟩
def KT.put {H:Hp} {kvs:List (List Key×V)} {xs:List (List Key×Addr×Value)} (r:KT H kvs xs) (k:List Key) {b:Addr} {y:V} {u:Value} (hb:H b=some (.tup (k.map kV))) (ry:RelV y u) :
  KT H (putK kvs k y) (storedH xs k b u):=by
 have e:(kvs.any fun kv=>decide (kv.1=k))=(atKey xs k).isSome:=by
  rw [zK,(r.val k).tE,Option.isSome_map]
 unfold putK storedH;rw [e];by_cases q:(atKey xs k).isSome=true
 ·rw [AT q,AT q];exact r.y6 k ry
 ·rw [zn q,zn q];exact Paired.snoc r ⟨rfl,hb,ry⟩
def KT.keeps {H H':Hp} {kvs:List (List Key×V)} {xs:List (List Key×Addr×Value)} (r:KT H kvs xs) (ht:∀ b ys,H b=some (.tup ys)->H' b=some (.tup ys)):KT H' kvs xs :=
 Paired.zl r fun _ _ z=>⟨z.1,ht _ _ z.2.1,z.2.2⟩
section
variable {P:Program} {w:World} {H:Hp} {h:Heap} {a:Addr}
def KR {u:HO} (ok:bD P w H h) (e:Rd H a u):bQ P w H h a u:=e.ok ok
def l7 {kvs:List (Key×V)} (ok:bD P w H h) (e:Rd H a (.dK kvs)):kvs.length<=sizeLine/\(a == sysModules)=false/\∃ vs,KV kvs vs/\h.DictOf (dO P w) a vs :=
 show bQ P w H h a (.dK kvs) from KR ok e
def Jm {kvs:List (Key×V)} (ok:bD P w H h) (e:H a=some (.dK kvs)):kvs.length<=sizeLine/\(a == sysModules)=false/\∃ vs,KV kvs vs/\h.DictOf (dO P w) a vs:=l7 ok (.inl e)
def nU {ks:List Key} (ok:bD P w H h) (e:H a=some (.tup (ks.map kV))):(tupleKind (dO P w)).is h ks a:=by
 obtain ⟨_,ao,r,o,h1,h2,n,h3⟩:=(show bQ P w H h a (.tup (ks.map kV)) from ok a _ e);exact ⟨o,ao.toArray,n,h1,h2,h3.1,by simpa using JF r⟩
def l9 {kvs:List (List Key×V)} (ok:bD P w H h) (e:Rd H a (.dT kvs)):kvs.length<=sizeLine/\(a == sysModules)=false /\
  ∃ xs,KT H kvs xs/\h.DictOfH (tupleKind (dO P w)) a xs:=by
 obtain ⟨z,y,xs,r,o,es,ep,h1,h2,h3,h4,h5⟩:=(show bQ P w H h a (.dT kvs) from KR ok e);refine ⟨z,y,xs,r,o,es,ep,h1,h2,h3,h4,fun x hx=>?_,h5⟩;have all:∀ {l:List (List Key×V)} {m:List (List Key×Addr×Value)},KT H l m->∀ x∈m,(tupleKind (dO P w)).is h x.1 x.2.1:=by
  intro l m q
  induction q with
  | nil=>intro x hx;exact nomatch hx
  | @cons p q ps qs hq t ih =>
   intro x hx;rcases pi.mp hx with e | hx
   ·subst e;exact nU ok (by rw [<- hq.1];exact hq.2.1)
   ·exact ih x hx
 exact all r x hx
def SH {kvs:List (List Key×V)} (ok:bD P w H h) (e:H a=some (.dT kvs)):kvs.length<=sizeLine/\(a == sysModules)=false /\
  ∃ xs,KT H kvs xs/\h.DictOfH (tupleKind (dO P w)) a xs:=l9 ok (.inl e)
end
def dS (H:Hp) (a:Addr) (y:V) (r:Option V):Prop :=
 (∃ kvs k,Rd H a (.dK kvs)/\y=kV k/\r=bb kvs k)\/∃ kvs k b,Rd H a (.dT kvs)/\y=.ref b/\H b=some (.tup (k.map kV))/\r=bb kvs k
def iY (H:Hp) (a:Addr) (y v:V) (H':Hp):Prop :=
 (∃ kvs k,H a=some (.dK kvs)/\y=kV k/\kvs.length < sizeLine/\H'=upd H a (.dK (putK kvs k v))) \/
 ∃ kvs k b,H a=some (.dT kvs)/\y=.ref b/\H b=some (.tup (k.map kV))/\kvs.length < sizeLine/\H'=upd H a (.dT (putK kvs k v))
def dS.k {H:Hp} {a:Addr} {kvs:List (Key×V)} {k:Key} (e:H a=some (.dK kvs)):dS H a (kV k) (bb kvs k):=.inl ⟨kvs,k,.inl e,rfl,rfl⟩
def iY.k {H:Hp} {a:Addr} {kvs:List (Key×V)} {k:Key} {v:V} (e:H a=some (.dK kvs)) (hl:kvs.length < sizeLine):iY H a (kV k) v (upd H a (.dK (putK kvs k v))):=.inl ⟨kvs,k,e,rfl,hl,rfl⟩
def iY.t {H:Hp} {a b:Addr} {kvs:List (List Key×V)} {k:List Key} {v:V} (e:H a=some (.dT kvs)) (eb:H b=some (.tup (k.map kV))) (hl:kvs.length < sizeLine) :
  iY H a (.ref b) v (upd H a (.dT (putK kvs k v))):=.inr ⟨kvs,k,b,e,rfl,eb,hl,rfl⟩
section
variable {X:Cx} {π:List (Addr×Obj)} {σ:St} {H:Hp} {s:Shared} {a:Addr} {y v:V} {u r:Value} {o:Option V} {A:Around} {E:Value->Shared->Prop}
def Inv.big (I:Inv X π σ H s):sysModules < s.heap.objs.size:=by
 have h:mainGlobals < s.heap.objs.size:=(I.mod.glob.keeps I.bk).lt;exact Nat.lt_trans (by decide) h
def XS {Q:Value->Shared->Prop} (hu:A.units+1 < cLine) (I:Inv X π σ H s) (g:dS H a y (some v)) (ry:RelV y u) (h:∀ w' s',Inv X π σ H s'->RelV v w'->Q w' s') :
  wpAny (model X.prog X.w) A (getItem (.ref a) u) Q E s:=by
 rcases g with ⟨kvs,k,e,ey,l⟩ | ⟨kvs,k,b,e,ey,eb,l⟩
 ·subst ey;obtain ⟨z,hd,vs,rel,dd⟩:=l7 I.au e;obtain ⟨w',hw,rw'⟩:=eL.some_of (v:=v) (o:=valueAt vs k) (by rw [l];exact rel.val k);exact wpAny_getItem_of (mD ry) dd.mapOf hw (h w' _ (I.tok _) rw')
 ·subst ey;cases (show u=Value.ref b from ry);obtain ⟨z,hd,xs,rel,dd⟩:=l9 I.au e;obtain ⟨w',hw,rw'⟩:=eL.some_of (v:=v) (o:=(atKey xs k).map (·.2)) (by rw [l];exact rel.val k);obtain ⟨p,hp,m9⟩:=_t.mp hw;refine wpAny_getItem_heap (WP hu) (nU I.au eb) dd hp ?_;rw [m9];exact h w' _ (I.tok _) rw'
def VI {Q:Value->Shared->Prop} (hu:A.units+1 < cLine) (I:Inv X π σ H s) (g:dS H a y o) (ry:RelV y u) (h:∀ s',Inv X π σ H s'->Q (.bool o.isSome) s') :
  wpAny (model X.prog X.w) A (compareOp .In u (.ref a)) Q E s:=by
 rcases g with ⟨kvs,k,e,ey,l⟩ | ⟨kvs,k,b,e,ey,eb,l⟩
 ·subst ey;obtain ⟨z,hd,vs,rel,dd⟩:=l7 I.au e;refine wpAny_in_of (mD ry) hd dd.mapOf ?_;rw [<- (rel.val k).tE,<- l];exact h _ (I.tok _)
 ·subst ey;cases (show u=Value.ref b from ry);obtain ⟨z,hd,xs,rel,dd⟩:=l9 I.au e;refine wpAny_in_heap (WP hu) (nU I.au eb) hd dd ?_;have q:=(rel.val k).tE;rw [Option.isSome_map] at q;rw [<- q,<- l];exact h _ (I.tok _)
def VG {Q:Value->Shared->Prop} (hu:A.units+1 < cLine) (I:Inv X π σ H s) (g:dS H a y o) (ry:RelV y u) (h:∀ s',Inv X π σ H s'->Q (.bool (!o.isSome)) s') :
  wpAny (model X.prog X.w) A (compareOp .NotIn u (.ref a)) Q E s:=by
 rcases g with ⟨kvs,k,e,ey,l⟩ | ⟨kvs,k,b,e,ey,eb,l⟩
 ·subst ey;obtain ⟨z,hd,vs,rel,dd⟩:=l7 I.au e;refine wpAny_notIn_of (mD ry) hd dd.mapOf ?_;rw [<- (rel.val k).tE,<- l];exact h _ (I.tok _)
 ·subst ey;cases (show u=Value.ref b from ry);obtain ⟨z,hd,xs,rel,dd⟩:=l9 I.au e;refine wpAny_notIn_heap (WP hu) (nU I.au eb) hd dd ?_;have q:=(rel.val k).tE;rw [Option.isSome_map] at q;rw [<- q,<- l];exact h _ (I.tok _)
def AN {h':Heap} {t':Nat} {ob:HO} (I:Inv X π σ H s) (mu:tj (H a)) (hs:Heap.SameBut a s.heap h') (he:∃ q,h'.get? a=some q) (new:bQ X.prog X.w (upd H a ob) h' a ob) :
  Inv X π σ (upd H a ob) { s with heap:=h',toks:=t' } :=
 I.write (x:=a) (e:=a) mu (.inl rfl) (fun b q hb z=>(hs.2 b hb).trans z) he new
def Hk {P:Program} {w:World} {H':Hp} {h':Heap} {kvs:List (Key×V)} {vs:List (Key×Value)} (z:kvs.length<=sizeLine) (hd:(a == sysModules)=false) (rel:KV kvs vs) (dd:h'.DictOf (dO P w) a vs) :
  bQ P w H' h' a (.dK kvs):=⟨z,hd,vs,rel,dd⟩
def Uw {H':Hp} {Q:Unit->Shared->Prop} (hu:A.units+1 < cLine) (I:Inv X π σ H s) (g:iY H a y v H') (ry:RelV y u) (rv:RelV v r) (h:∀ s',Inv X π σ H' s'->Q () s') :
  wpAny (model X.prog X.w) A (setItem (.ref a) u r) Q E s:=by
 rcases g with ⟨kvs,k,e,ey,l,eH⟩ | ⟨kvs,k,b,e,ey,eb,l,eH⟩
 ·subst ey eH;obtain ⟨z,hd,vs,rel,dd⟩:=Jm I.au e;have hz:vs.length<=sizeLine:=by rw [<- rel.length];exact z
  have hl:(putK kvs k v).length<=sizeLine:=by have:=Bi kvs k v;omega
  refine wpAny_setItem_pairs (hsz:=hz) (mD ry) dd fun h' dd' hs=>h _ ?_;have he:∃ q,h'.get? a=some q:=let ⟨q,_,_,hq,_⟩:=dd';⟨q,hq⟩
  exact AN I (by rw [e];exact True.intro) hs he (Hk hl hd (rel.put k rv) dd')
 ·subst ey eH;cases (show u=Value.ref b from ry);obtain ⟨z,hd,xs,rel,dd⟩:=SH I.au e;have hz:xs.length<=sizeLine:=by rw [<- Paired.length rel];exact z
  have hl:(putK kvs k v).length<=sizeLine:=by have:=Bi kvs k v;omega
  refine wpAny_setItem_heap (hsz:=hz) (WP hu) (nU I.au eb) dd fun h' dd' hs=>h _ ?_;obtain ⟨q,es,ep,hq,h2,h3,h4,_,h5⟩:=dd';refine AN I (by rw [e];exact True.intro) hs ⟨q,hq⟩ ⟨hl,hd,_,(rel.put k eb rv).keeps fun c ys ec=>?_,q,es,ep,hq,h2,h3,h4,h5⟩;rw [aj (VM ec e (fun z=>nomatch z))];exact ec
end
section
variable {X:Cx} {π:List (Addr×Obj)} {σ:St} {H:Hp} {s:Shared} {a:Addr} {kvs:List (Key×V)} {k:Key} {u:Value} {A:Around} {E:Value->Shared->Prop}
end
def yW (i:Expr):Prop:=∀ ov iv,subscripted i false ov iv=operate [ov,iv] (getItem ov iv)
def adQ {prog:Program} {w:World} {A:Around} {E:Value->Shared->Prop} {s:Shared} {env:Env} {value slice:Expr} {pos:Pos} {T id:String} {Q:Value->Shared->Prop}
  (hl:typeLookup (.type T) "__getitem__" = pure (some (.builtin id))) (hs:yW slice)
  (h:wpAny (model prog w) A (eval value env) (fun o s₁=>wpAny (model prog w) A (eval slice env) (fun i s₂=>s₂.TypeIs o T/\wpAny (model prog w) A (getItem o i) Q E s₂) E s₁) E s) :
  wpAny (model prog w) A (eval (.Subscript value slice pos) env) Q E s:=by
 refine Subscript_ (GT h (fun o s₁ h₁=>GT h₁ (fun i s₂ h₂=>?_) fun _ _ x=>x) fun _ _ x=>x);obtain ⟨hT,h₂⟩:=h₂;unfold subscriptTail;refine lv ?_;rw [getitemInPython_of_ne hT.not_modules];refine lv (wpAny_specialOf hT hl ?_);have fin:wpAny (model prog w) A (subscripted slice false o i) (fun r s₃=>wpAny (model prog w) A (letTemporaryGo value o r >>= fun _=>pure r) Q E s₃) E s₂:=by
  rw [hs o i];exact wpAny_operating (GT h₂ (fun r s₃ h₃=>lv (wpAny_letTemporaryGo (sw h₃))) fun _ _ x=>x)
 first
  | exact sw (lv fin)
  | exact lv (sw (lv fin))
  | exact lv fin
def OR {X:Cx} {π:List (Addr×Obj)} {σ:St} {H:Hp} {s:Shared} {a:Addr} {y:V} {o:Option V} (I:Inv X π σ H s) (g:dS H a y o):s.TypeIs (.ref a) "dict" := by
 rcases g with ⟨kvs,k,e,_,_⟩ | ⟨kvs,k,b,e,_,_,_⟩
 ·obtain ⟨_,_,vs,_,dd⟩:=l7 I.au e;exact dd.typeIs
 ·obtain ⟨_,_,xs,_,dd⟩:=l9 I.au e;exact dd.typeIs
def B5 (td ty:TE):TE:=fun σ H Q=>td σ H fun x H1=>ty σ H1 fun y H2=>∃ a v,x=.ref a/\dS H2 a y (some v)/\Q v H2
def Dz (ty td:TE):TE:=fun σ H Q=>ty σ H fun y H1=>td σ H1 fun x H2=>∃ a o,x=.ref a/\dS H2 a y o/\Q (.bl o.isSome) H2
def Bg (ty td:TE):TE:=fun σ H Q=>ty σ H fun y H1=>td σ H1 fun x H2=>∃ a o,x=.ref a/\dS H2 a y o/\Q (.bl (!o.isSome)) H2
def Bf (td ty tv:TE):TS:=fun D σ H=>tv σ H fun v H1=>td σ H1 fun x H2=>ty σ H2 fun y H3=>∃ a H4,x=.ref a/\iY H3 a y v H4/\D.nx σ H4
section
variable {X:Cx} {o i e value:Expr} {pos pos' qP:Pos} {td ty tv:TE}
def ZK (hu:X.A.units+1 < cLine) (ho:PE X o td) (hi:PE X i ty) (hs:yW i):PE X (.Subscript o i pos) (B5 td ty):=by
 intro π s σ H Q I h;refine adQ PySem.F.slot_dict_getitem.lookup hs (aC (ho π s σ H _ I h) fun u s1 ⟨x,H1,I1,rx,q1⟩=>aC (hi π s1 σ H1 _ I1 q1) fun iv s2 ⟨y,H2,I2,ry,a,v,ex,g,q2⟩=>?_);subst ex;obtain rfl:u=Value.ref a:=rx;exact ⟨OR I2 g,XS hu I2 g ry fun w' s3 I3 rw'=>⟨v,H2,I3,rw',q2⟩⟩
def Wi (hu:X.A.units+1 < cLine) (hi:PE X i ty) (ho:PE X o td):PC X .In i o (Dz ty td):=by
 intro π s σ H Q I h;refine aC (hi π s σ H _ I h) fun iv s1 ⟨y,H1,I1,ry,q1⟩=>aC (ho π s1 σ H1 _ I1 q1) fun u s2 ⟨x,H2,I2,rx,a,ov,ex,g,q2⟩=>?_;subst ex;obtain rfl:u=Value.ref a:=rx;exact VI hu I2 g ry fun s3 I3=>⟨.bl ov.isSome,H2,I3,rfl,q2⟩
def ZE (hu:X.A.units+1 < cLine) (hi:PE X i ty) (ho:PE X o td):PC X .NotIn i o (Bg ty td):=by
 intro π s σ H Q I h;refine aC (hi π s σ H _ I h) fun iv s1 ⟨y,H1,I1,ry,q1⟩=>aC (ho π s1 σ H1 _ I1 q1) fun u s2 ⟨x,H2,I2,rx,a,ov,ex,g,q2⟩=>?_;subst ex;obtain rfl:u=Value.ref a:=rx;exact VG hu I2 g ry fun s3 I3=>⟨.bl (!ov.isSome),H2,I3,rfl,q2⟩
def Wj (hu:X.A.units+1 < cLine) (ho:PE X o td) (hi:PE X i ty) (hv:PE X value tv) (hs:swapsWith value (some (.Subscript o i pos')) pos.line X.env=pure false) :
  PS X (.Assign [.Subscript o i pos'] value pos) (Bf td ty tv):=by
 intro π s σ H D I h;refine wpAny_Assign_Subscript (aC (hv π s σ H _ I h) fun r s1 ⟨v,H1,I1,rv,q1⟩=>aC (ho π s1 σ H1 _ I1 q1) fun u s2 ⟨x,H2,I2,rx,q2⟩=>aC (hi π s2 σ H2 _ I2 q2) fun iv s3 ⟨y,H3,I3,ry,a,H4,ex,g,q3⟩=>?_) hs;subst ex;obtain rfl:u=Value.ref a:=rx;exact Uw hu I3 g ry rv fun s4 I4=>⟨σ,H4,I4,q3⟩
end
def Mt {P:Program} {w:World} {H:Hp} (h:Heap) (hb:sysModules < h.objs.size):bQ P w H (h.push { cls:=.type "dict",data:=.dict #[] }) h.objs.size (.dK []) :=
 ⟨Do _,Fa.mpr (wP (xL hb)),[],.nil,Heap.DictOf.new h⟩
def abC {P:Program} {w:World} {H:Hp} (h:Heap) (hb:sysModules < h.objs.size):bQ P w H (h.push { cls:=.type "dict",data:=.dict #[] }) h.objs.size (.dT []) :=
 ⟨Do _,Fa.mpr (wP (xL hb)),[],.nil,_,#[],0,u8 _ rfl,⟨rfl,rfl,rfl⟩,rfl,rfl,Jad⟩
def wU:TE:=fun _ H Q=>∀ p,H p=none->Q (.ref p) (upd H p (.dK []))
def BW:TE:=fun _ H Q=>∀ p,H p=none->Q (.ref p) (upd H p (.dT []))
section
variable {X:Cx} {pos:Pos}
def Qj:PE X (.Dict [] [] pos) wU:=fun π s σ H Q I h =>
 wpAny_Dict_empty ⟨.ref s.heap.objs.size,_,I.laid (a:=s.heap.objs.size) (o:=.dK []) (t':=s.toks) (fun _ _ q=>pc _ q) (ul _) (Mt s.heap I.big),rfl,h _ (I.au.fresh (ul _))⟩
def Vp:PE X (.Dict [] [] pos) BW:=fun π s σ H Q I h =>
 wpAny_Dict_empty ⟨.ref s.heap.objs.size,_,I.laid (a:=s.heap.objs.size) (o:=.dT []) (t':=s.toks) (fun _ _ q=>pc _ q) (ul _) (abC s.heap I.big),rfl,h _ (I.au.fresh (ul _))⟩
end
def wW:List (TE×TE)->St->Hp->(List (V×V)->Hp->Prop)->Prop
 | [],_,H,Q=>Q [] H
 | (tk,tv)::r,σ,H,Q=>tk σ H fun x H1=>tv σ H1 fun y H2=>wW r σ H2 fun ps H3=>Q ((x,y)::ps) H3
abbrev VV:List (V×V)->List (Value×Value)->Prop:=Paired fun p q=>RelV p.1 q.1/\RelV p.2 q.2
def sL (X:Cx) (pos:Pos) (keys:List (Option Expr)) (values:List Expr) (gq:List (TE×TE)):Prop :=
 ∀ (π:List (Addr×Obj)) (s:Shared) (σ:St) (H:Hp) (Q:List (V×V)->Hp->Prop),Inv X π σ H s->wW gq σ H Q ->
  wpAny (model X.prog X.w) X.A (evalPairs (pairTrees keys values X.env pos)) (fun vs s'=>∃ ps H',Inv X π σ H' s'/\VV ps vs/\Q ps H') X.xe s
def ZC {X:Cx} {pos:Pos}:sL X pos [] [] []:=fun π s σ H Q I h=>pairTrees_nil_walk ⟨[],H,I,.nil,h⟩
def Uz {X:Cx} {pos:Pos} {k v:Expr} {ks:List (Option Expr)} {vs:List Expr} {tk tv:TE} {gq:List (TE×TE)} (hk:PE X k tk) (hv:PE X v tv) (hr:sL X pos ks vs gq) :
  sL X pos (some k::ks) (v::vs) ((tk,tv)::gq):=fun π s σ H Q I h =>
 pairTrees_cons_walk (aC (hk π s σ H _ I h) fun u s1 ⟨x,H1,I1,rx,q1⟩=>aC (hv π s1 σ H1 _ I1 q1) fun w2 s2 ⟨y,H2,I2,ry,q2⟩ =>
  aC (hr π s2 σ H2 _ I2 q2) fun ws s3 ⟨ps,H3,I3,rel,q3⟩=>⟨(x,y)::ps,H3,I3,.cons ⟨rx,ry⟩ rel,q3⟩)
def lX (kvs more:List (Key×V)):List (Key×V):=more.foldl (fun acc kv=>putK acc kv.1 kv.2) kvs
def KV.merge:∀ {more:List (Key×V)} {rs:List (Key×Value)} {kvs:List (Key×V)} {vs:List (Key×Value)},KV more rs->KV kvs vs->KV (lX kvs more) (merged vs rs):=by
 intro more rs kvs vs r;unfold KV at r
 induction r generalizing kvs vs with
 | nil=>intro q;exact q
 | @cons p q ps qs h t ih =>
  intro r0;have e:KV (putK kvs p.1 p.2) (stored vs q.1 q.2):=by
   have:=r0.put p.1 h.2;rw [<- h.1];exact this
  exact ih e
def Ii:∀ (more kvs:List (Key×V)),(lX kvs more).length<=kvs.length+more.length
 | [],kvs=>by show kvs.length<=kvs.length+0;omega
 | p::r,kvs=>by
  have h1:=Ii r (putK kvs p.1 p.2);have h2:=Bi kvs p.1 p.2;show (lX (putK kvs p.1 p.2) r).length<=_;rw [FS];omega
def Fv {P:Program} {w:World}:∀ {kvs:List (Key×V)} {ws:List (Value×Value)},VV (kvs.map fun kv=>(kV kv.1,kv.2)) ws->∃ rs,Carries (dO P w) ws rs/\KV kvs rs
 | [],_,r=>by rw [At] at r;cases r;exact ⟨[],True.intro,.nil⟩
 | p::kvs,_,r=>by
  rw [ut] at r;cases r with
  | @cons a b as bs h t =>
   obtain ⟨rs,c,q⟩:=Fv (P:=P) (w:=w) t;obtain ⟨b1,b2⟩:=b;exact ⟨(p.1,b2)::rs,⟨mD h.1,rfl,c⟩,.cons ⟨rfl,h.2⟩ q⟩
def L7 (gq:List (TE×TE)):TE:=fun σ H Q=>∀ p,H p=none->wW gq σ (upd H p (.dK [])) fun ps H2=>H2 p=some (.dK [])/\∃ kvs:List (Key×V),ps=kvs.map (fun kv=>(kV kv.1,kv.2))/\kvs.length<=15/\Q (.ref p) (upd H2 p (.dK (lX [] kvs)))
def acW {X:Cx} {pos:Pos} {keys:List (Option Expr)} {values:List Expr} {gq:List (TE×TE)} (h:sL X pos keys values gq) (iP:keys.all (·.isSome)=true) (hl:keys.length=values.length) (h0:keys≠[])
  (Em:keys.length<=15):PE X (.Dict keys values pos) (L7 gq):=by
 intro π s σ H Q I q;have hn:=I.au.fresh (ul s.heap.objs.size);have I1:=I.laid (a:=s.heap.objs.size) (o:=.dK []) (h':=s.heap.push { cls:=.type "dict",data:=.dict #[] }) (t':=s.toks) (fun _ _ q=>pc _ q) (ul _) (Mt s.heap I.big);refine wpAny_Dict_walk (knd:=dO X.prog X.w) iP hl h0 Em (aC (h π _ σ _ _ I1 (q _ hn)) fun ws s2 ⟨ps,H2,I2,rel,e,kvs,ep,lk,q2⟩=>?_);subst ep;obtain ⟨rs,c,rk⟩:=Fv (P:=X.prog) (w:=X.w) rel;obtain ⟨z,hd,vs0,r0,dd⟩:=Jm I2.au e;cases r0;refine ⟨rs,c,dd,fun h' dd' hs=>⟨.ref s.heap.objs.size,_,?_,rfl,q2⟩⟩;have hz:(lX [] kvs).length<=sizeLine:=by
  have h1:=Ii kvs [];rw [_8] at h1;rw [_n];omega
 have he:∃ q,h'.get? s.heap.objs.size=some q:=let ⟨q,_,_,hq,_⟩:=dd';⟨q,hq⟩
 exact AN I2 (by rw [e];exact True.intro) hs he (Hk hz hd (rk.merge .nil) dd')
structure M1 (X:Cx) (o:Expr) (m:Str) (apos:Pos) (e:Expr) (bj:Pos):Prop where
 base:attributeBase o m X.env (eval o X.env)=eval o X.env
 AK:((backTo bj (starEach [e] X.env)).all (fun x=>!x.1) && (backToKw bj (keywordEach [] X.env)).all (fun x=>x.1.isSome)
  && decide (([e]:List Expr).length+([]:List Keyword).length+(if ([]:List Keyword).isEmpty then 0 else 1) < 30))=true
 line:(apos.endLine == bj.line)=true
 trees:backTo bj (starEach [e] X.env)=[(false,eval e X.env)]
structure M2 (X:Cx) (o:Expr) (m:Str) (apos:Pos) (e f:Expr) (bj:Pos):Prop where
 base:attributeBase o m X.env (eval o X.env)=eval o X.env
 AK:((backTo bj (starEach [e,f] X.env)).all (fun x=>!x.1) && (backToKw bj (keywordEach [] X.env)).all (fun x=>x.1.isSome)
  && decide (([e,f]:List Expr).length+([]:List Keyword).length+(if ([]:List Keyword).isEmpty then 0 else 1) < 30))=true
 line:(apos.endLine == bj.line)=true
 trees:backTo bj (starEach [e,f] X.env)=[(false,eval e X.env),(false,eval f X.env)]
def vA (H:Hp) (a:Addr):Prop:=(∃ kvs,Rd H a (.dK kvs))\/∃ kvs,Rd H a (.dT kvs)
def JM {X:Cx} {π:List (Addr×Obj)} {σ:St} {H:Hp} {s:Shared} {a:Addr} (I:Inv X π σ H s) (d:vA H a) :
  s.TypeIs (.ref a) "dict" /\ (∀ b,Value.ref a=.ref b->∃ ob,s.heap.get? b=some ob/\ob.dict=none)/\(a == sysModules)=false:=by
 rcases d with ⟨kvs,e⟩ | ⟨kvs,e⟩
 ·obtain ⟨_,hd,vs,_,dd⟩:=l7 I.au e;refine ⟨dd.typeIs,fun b q=>?_,hd⟩;cases q;obtain ⟨ob,_,_,h1,h2,_⟩:=dd;exact ⟨ob,h1,h2.2.1⟩
 ·obtain ⟨_,hd,xs,_,dd⟩:=l9 I.au e;refine ⟨dd.typeIs,fun b q=>?_,hd⟩;cases q;obtain ⟨ob,_,_,h1,h2,_⟩:=dd;exact ⟨ob,h1,h2.2.1⟩
section
variable {X:Cx} {π:List (Addr×Obj)} {σ:St} {H:Hp} {s:Shared} {a:Addr} {y d:V} {u r:Value} {o:Option V} {A:Around} {E:Value->Shared->Prop}
def acA {Q:Value->Shared->Prop} (hu:A.units+1 < cLine) (I:Inv X π σ H s) (g:dS H a y o) (ry:RelV y u) (h:∀ w' s',Inv X π σ H s'->RelV (o.getD .aw) w'->Q w' s') :
  wpAny (model X.prog X.w) A (call (.builtin "dict.get") [.ref a,u]) Q E s:=by
 rcases g with ⟨kvs,k,e,ey,l⟩ | ⟨kvs,k,b,e,ey,eb,l⟩
 ·subst ey;obtain ⟨z,hd,vs,rel,dd⟩:=l7 I.au e;refine call_meetsIn Sc dd.typeIs _u (PySem.F.args_dict_get_2 _ _) (meets_dict_get (dO X.prog X.w) a (mD ry) hd) ⟨_,dd.mapOf,h _ _ (I.tok _) ?_⟩;rw [l];exact (rel.val k).getD rfl
 ·subst ey;cases (show u=Value.ref b from ry);obtain ⟨z,hd,xs,rel,dd⟩:=l9 I.au e;refine call_meetsIn Sc dd.typeIs _u (PySem.F.args_dict_get_2 _ _) (meetsH_dict_get (tupleKind (dO X.prog X.w)) a b hd) ⟨WP hu,k,xs,nU I.au eb,dd,h _ _ (I.tok _) ?_⟩;rw [l];exact (rel.val k).getD rfl
def VN {Q:Value->Shared->Prop} (hu:A.units+1 < cLine) (I:Inv X π σ H s) (g:dS H a y o) (ry:RelV y u) (rd:RelV d r) (h:∀ w' s',Inv X π σ H s'->RelV (o.getD d) w'->Q w' s') :
  wpAny (model X.prog X.w) A (call (.builtin "dict.get") [.ref a,u,r]) Q E s:=by
 rcases g with ⟨kvs,k,e,ey,l⟩ | ⟨kvs,k,b,e,ey,eb,l⟩
 ·subst ey;obtain ⟨z,hd,vs,rel,dd⟩:=l7 I.au e;refine call_meetsIn Sc dd.typeIs _u (PySem.F.args_dict_get_3 _ _ _) (meets_dict_get_default (dO X.prog X.w) a (mD ry) hd r) ⟨_,dd.mapOf,h _ _ (I.tok _) ?_⟩;rw [l];exact (rel.val k).getD rd
 ·subst ey;cases (show u=Value.ref b from ry);obtain ⟨z,hd,xs,rel,dd⟩:=l9 I.au e;refine call_meetsIn Sc dd.typeIs _u (PySem.F.args_dict_get_3 _ _ _) (meetsH_dict_get_default (tupleKind (dO X.prog X.w)) a b hd r) ⟨WP hu,k,xs,nU I.au eb,dd,h _ _ (I.tok _) ?_⟩;rw [l];exact (rel.val k).getD rd
end
def zY (td ty:TE):TE:=fun σ H Q=>td σ H fun x H1=>∃ a,x=.ref a/\vA H1 a/\ty σ H1 fun y H2=>∃ o,dS H2 a y o/\Q (o.getD .aw) H2
def AM (td ty tx:TE):TE:=fun σ H Q=>td σ H fun x H1=>∃ a,x=.ref a/\vA H1 a/\ty σ H1 fun y H2=>tx σ H2 fun z H3=>∃ o,dS H3 a y o/\Q (o.getD z) H3
def YN (td ty:TE):TE:=fun σ H Q=>td σ H fun x H1=>∃ a,x=.ref a/\vA H1 a/\ty σ H1 fun y H2=>∃ kvs k v,H2 a=some (.dK kvs)/\y=kV k/\bb kvs k=some v/\Q v (upd H2 a (.dK (VQ kvs k)))
section
variable {X:Cx} {o e f:Expr} {apos bj:Pos} {td ty tx:TE}
def V7 (hu:X.A.units+1 < cLine) (ho:PE X o td) (he:PE X e ty) (m:M1 X o "get" apos e bj):PE X (.Call (.Attribute o "get" apos) [e] [] bj) (zY td ty):=by
 intro π s σ H Q I h;refine wpAny_Call_method m.base m.AK m.line PySem.F.plainAttrs_dict Sc PySem.F.type_dict_get (aC (ho π s σ H _ I h) fun u s1 ⟨x,H1,I1,rx,a,ex,d,q1⟩=>?_);subst ex;obtain rfl:u=Value.ref a:=rx;obtain ⟨t1,t2,_⟩:=JM I1 d;refine ⟨t1,t2,?_⟩;rw [m.trees];refine UF rfl (_e (Ps (aC (he π s1 σ H1 _ I1 q1) fun iv s2 ⟨y,H2,I2,ry,ov,g,q2⟩=>Tk ?_)));exact acA hu I2 g ry fun w' s3 I3 rw'=>⟨_,H2,I3,rw',q2⟩
def Rg (hu:X.A.units+1 < cLine) (ho:PE X o td) (he:PE X e ty) (hf:PE X f tx) (m:M2 X o "get" apos e f bj):PE X (.Call (.Attribute o "get" apos) [e,f] [] bj) (AM td ty tx):=by
 intro π s σ H Q I h;refine wpAny_Call_method m.base m.AK m.line PySem.F.plainAttrs_dict Sc PySem.F.type_dict_get (aC (ho π s σ H _ I h) fun u s1 ⟨x,H1,I1,rx,a,ex,d,q1⟩=>?_);subst ex;obtain rfl:u=Value.ref a:=rx;obtain ⟨t1,t2,_⟩:=JM I1 d;refine ⟨t1,t2,?_⟩;rw [m.trees];refine UF rfl (_e (Ps (aC (he π s1 σ H1 _ I1 q1) fun iv s2 ⟨y,H2,I2,ry,q2⟩ =>
  Ps (aC (hf π s2 σ H2 _ I2 q2) fun fv s3 ⟨z,H3,I3,rz,ov,g,q3⟩=>Tk ?_))))
 exact VN hu I3 g ry rz fun w' s4 I4 rw'=>⟨_,H3,I4,rw',q3⟩
end
section
variable {X:Cx} {π:List (Addr×Obj)} {σ:St} {H:Hp} {s:Shared} {a:Addr} {kvs:List (Key×V)} {A:Around} {E:Value->Shared->Prop}
end
section
variable {X:Cx} {π:List (Addr×Obj)} {σ:St} {H:Hp} {s:Shared} {a:Addr} {y:V} {u:Value} {A:Around} {E:Value->Shared->Prop}
end
end L2
namespace Att
open PySem PySem.W PySem.Calls PyProof.Rows
def aca {P:Params} {h:Heap}:∀ (ns:List Int) (vs:List Value),WellAll P h vs (ns.map WData.int)->IntsAre vs ns:=by
 intro ns
 induction ns with
 | nil =>
  intro vs w;rw [List.map_nil] at w;cases w;exact .nil
 | cons n ns ih =>
  intro vs w;rw [List.map_cons] at w;cases w with
  | cons a b =>
   cases a;exact .cons _ _ (ih _ b)
def U4 {l:OpenLaw} {n:Nat} (hn:l.most=some n) {P:Params} {h:Heap} {args:List WData} {vals:List Value}
  (xZ:l.row.toRowW.claim.pre args=true) (mV:WellAll P h vals args) :
  ∃ a vs ns,vals=[Value.ref a]/\args=[WData.list (ns.map WData.int)]/\h.get? a=some { cls:=.type "list",data:=.seq vs.toArray }/\IntsAre vs ns/\ns.length<=n:=by
 have lT:WShape.hasAll [] args [.list .int]=true:=(pre_splitW xZ).1;have hc:l.pre.holds [] { args:=args }=true:=(pre_splitW xZ).2;obtain ⟨d,r,rfl,h1,h2⟩:=hasAllW_cons lT;obtain rfl:=hasAllW_nil h2;obtain ⟨xs,rfl,h3⟩:=hasW_list h1;obtain ⟨ns,rfl⟩:=items_int h3;have hlen:ns.length<=n:=by
  unfold OpenLaw.pre at hc;have h4:(WTm.not (.lt (.lit (.int (n:Int))) (.len (.arg 0)))).holds [] { args:=[.list (ns.map .int)] }=true:=by
   have h4:=(holds_andW hc).1;rw [hn] at h4;exact h4
  have h5:=condW_of h4 (w_not (w_lt w_lit (w_len_list (w_arg rfl))));rw [List.length_map] at h5;refine Nat.le_of_not_lt fun q=>?_;have q':(n:Int) < ((ns.length:Nat):Int):=by omega
  first
   | (rw [decide_eq_true q'] at h5;exact absurd h5 (by decide))
   | (simp at h5;omega)
 cases mV with
 | cons w1 w2 =>
  cases w2;cases w1 with
  | list ho iP=>exact ⟨_,_,ns,rfl,rfl,ho,aca ns _ iP,hlen⟩
def Yz (l:OpenLaw) (args:List WData):l.row.toRowW.claim.post args (.bool true) args=true :=
 postW_of (r:=l.row.toRowW) (X:=(true == true))
  (show WShape.has [] (.bool true) .bool=true by first | rfl | decide | simp [WShape.has,WShape.arms,WShape.armsAll])
  (show (WTm.eq .res (.lit (.bool true))).value [] { args:=args,res:=some (.bool true),after:=args }=some (.bool (true == true)) from w_eq_bool (w_res rfl) w_lit) rfl
def YQ {l:OpenLaw} {n:Nat} {q:Program} {loose:List Str} {XP:(Str->Option Value)->Heap->Prop} {YP:World->Heap->Prop} {d:DefRec}
  (hn:l.most=some n) (uo:d.params.defaults=[])
  (call:∀ (w:World) (s₀ s₁:Shared) (mg mb:Str->Option Value) (fa:Addr) (o:Obj) (pm cd doc:Value) (a:Addr) (vs:List Value) (ns:List Int),
   Ground q loose [] XP w s₀ mg mb s₁.heap->YP w s₁.heap ->
   s₁.heap.get? fa=some o->o.data=.func (docDef d.name d.params d.body d.scope pm cd doc)->s₁.heap.CodeRec cd d.name->mg d.name=some (.ref fa) ->
   s₁.heap.get? a=some { cls:=.type "list",data:=.seq vs.toArray }->IntsAre vs ns->ns.length<=n->s₁.gens=#[] ->
   codeAny (model l.prog w) callerA (.call (.ref fa) ⟨[.ref a],[]⟩) (fun r s'=>r=.ok (.ret (.bool true))/\OldK s₁.heap s'.heap/\s'.os=s₁.os/\AllBare s'.gens) s₁) :
  WalkO q loose XP YP l.row.toRowW d [] (fun f vs=>PySem.call f vs):=by
 intro w s₀ s₁ mg mb G Y fa o pm cd doc dV kV ho hd aV hD hmg hg args vals as xZ hlay hrd mV hlo;obtain rfl:dV=.none:=Dflts.none hD uo;obtain rfl:kV=.none:=Dflts.noKw hD;obtain ⟨a,vs,ns,rfl,rfl,ux,hints,hlen⟩:=U4 hn xZ mV;refine enter_call (codeAny_mono (call w s₀ s₁ mg mb fa o pm cd doc a vs ns G Y ho (fd_plain hd) aV hmg ux hints hlen hg) fun r s' hq=>?_);obtain ⟨rfl,h2,h3,h4⟩:=hq;exact ⟨.inl ⟨.bool true,.bool true,[],rfl,fun _=>rfl,.bool true,Yz l _,fun _=>⟨List.Pairwise.nil,fun _ hm=>(nomatch hm)⟩⟩,h2,h3,h4⟩
section
variable {prog:Program} {w:World} {A:Around} {E:Value->Shared->Prop} {s:Shared} {K:Frag}
end
end Att
namespace L2
open PySem PySem.Spec PyProof.Rows
def Lx:∀ {vs:List Value} {ns:List Int},IntsAre vs ns->Vals (ns.map V.int) vs
 | _,_,.nil=>.nil
 | _,_,.cons n t h=>.cons ⟨t,rfl⟩ (Lx h)
abbrev KOf {K:ν} {h:Heap} (_:K.In h):ν:=K
def inClass (s:Stmt) (j:Nat):Stmt:=match s with
 | .ClassDef _ _ _ body _ _ _ _ _ _ _=>body.getD j (.Pass ⟨0,0,0,0⟩)
 | _=>.Pass ⟨0,0,0,0⟩
def fe (s:Stmt):Arguments:=match s with
 | .FunctionDef _ a _ _ _ _ _ _ _ _=>a
 | _=>{ posonlyargs:=[],args:=[],vararg:=none,kwonlyargs:=[],kw_defaults:=[],kwarg:=none,defaults:=[] }
def aN (s:Stmt):List Stmt:=match s with
 | .FunctionDef _ _ b _ _ _ _ _ _ _=>b
 | _=>[]
def ax (s:Stmt):Scope:=match s with
 | .FunctionDef _ _ _ _ _ _ sc _ _ _=>sc
 | _=>{ kind:=.function,names:=[],isGenerator:=false,isCoroutine:=false }
abbrev aP:dj:=fun _ _ _ _ _ _=>False
abbrev E0:XK:=fun _ _ _=>False
def aB {X:Cx}:Passes aP X E0:=fun _ _ _ _ _ _ _ h=>h.elim
structure eK (K:ν) (x qual:Str) (st:Stmt) (f:Addr) (fd:FuncData):Prop where
 ex:∃ (oc:Value) (od:Option Addr) (kV doc pm:Value) (an:Option Addr) (cdv ct:Value) (dq:Array (Option Value)),
  fd=W.fnOf x qual (fe st) (aN st) (ax st) .none kV doc pm an cdv ct/\K.lookup f=some ⟨oc,od,.func fd,dq⟩/\W.codeIn K cdv qual=true
 kp:W.keepIn K (.ref f)=true
section
variable {P:Program} {w:World} {K:ν} {mg:Str->Option Value} {base:Heap}
def eK.ok {x qual:Str} {st:Stmt} {f:Addr} {fd:FuncData} {N ps:List Str} {k:Nat} {sp:Sp} (F:eK K x qual st f fd) (S:aF N ps (ax st)) (len:∀ vs H Q E,sp vs H Q E->vs.length=ps.length)
  (o1:∀ (cdv:Value) (A:Around) (outer:List Env) (s:Shared) (H:Hp) (vs:List V) (Q:VK) (E:XK),bc k (A.deeper (envOfC qual (ax st) s.heap.objs.size f cdv))->sp vs H Q E ->
   ∃ t,dv (c7 aP P w K mg base N qual (ax st) f cdv A outer s H E).w6 (aN st) t/\t { nx:=fun _ H'=>Q .aw H',rt:=Q } (start N vs) H):aq P w K mg base aP (k+1) f fd ps sp:=by
 obtain ⟨oc,od,kV,doc,pm,an,cdv,ct,dq,rfl,lk,aV⟩:=F.ex;refine v8 lk aV S len fun A outer s H vs Q E hr dm=>?_;obtain ⟨t,h,q⟩:=o1 cdv A outer s H vs Q E hr dm;exact ⟨t,h.w6,q⟩
def eK.binds {x qual:Str} {st:Stmt} {f:Addr} {fd:FuncData} {ps:List Str} (F:eK K x qual st f fd)
  (h:∀ (kV doc pm:Value) (an:Option Addr) (cdv ct:Value) (us:List Value),us.length=ps.length->bindArgs (W.fnOf x qual (fe st) (aN st) (ax st) .none kV doc pm an cdv ct) ⟨us,[]⟩=pure (ps.zip us)):Binds K fd ps []:=by
 obtain ⟨oc,od,kV,doc,pm,an,cdv,ct,dq,rfl,lk,aV⟩:=F.ex;exact .all (h kV doc pm an cdv ct)
def y8 {x qual:Str} {st:Stmt} {f:Addr} {oc:Value} {od an:Option Addr} {dq:Array (Option Value)} {kV doc pm cdv ct:Value} (l:K.lookup f=some ⟨oc,od,.func (W.fnOf x qual (fe st) (aN st) (ax st) .none kV doc pm an cdv ct),dq⟩)
  (c:W.codeIn K cdv qual=true) (k:W.keepIn K (.ref f)=true):eK K x qual st f (W.fnOf x qual (fe st) (aN st) (ax st) .none kV doc pm an cdv ct):=⟨⟨oc,od,kV,doc,pm,an,cdv,ct,dq,rfl,l,c⟩,k⟩
end
def eA {A:Around} {k:Nat} (hr:bc k A):A.units+1 < cLine:=W1 (Nat.add_le_add_left (by decide:1<=64) _) hr.units
def Ja {n:Nat} (h:n<=1000):n < sizeLine:=W1 h (by decide)
section
variable {X:Cx}
def pv (i:Nat) {x:Str} {pos:Pos} (hN:X.N[i]?=some x:=by rfl) (hv:mH X.env.scope x:=by first | exact Or.inl rfl | exact Or.inr (Or.inl rfl) | exact Or.inr (Or.inr rfl)) (hd:(x == ("__debug__":Str))=false:=by decide)
  (aV:(x == ("__classdict__":Str))=false:=by decide):PE X (.Name x pos) (Fi i):=Ar hN hv hd aV
end
def bZ {A B:Prop} (h:B):if false=true then A else B:=by
 rw [zn wT];exact h
def cz {A B:Prop} (h:A):if true=true then A else B:=by
 rw [AT rfl];exact h
def sJ {c A B:Prop} [Decidable c] (h1:c->A) (h2:¬ c->B):if c then A else B:=by
 by_cases h:c
 ·rw [AT h];exact h1 h
 ·rw [zn h];exact h2 h
def ag (H H':Hp):Prop:=∀ b o,H b=some o->H' b=some o
def ag.refl (H:Hp):ag H H:=fun _ _ h=>h
def ag.trans {H H1 H2:Hp} (a:ag H H1) (b:ag H1 H2):ag H H2:=fun c o h=>b c o (a c o h)
def ag.free {H H':Hp} (e:ag H H') {l:Addr} (h:H' l=Option.none):H l=Option.none:=by
 cases q:H l with
 | none=>rfl
 | some o =>
  rw [e l o q] at h;cases h
def ag.seq {K:ν} {H H':Hp} {a:Addr} {xs:List V} (e:ag H H') (h:aH K H a xs):aH K H' a xs:=by
 rcases h with (h | ⟨o,h⟩) | h
 ·exact .inl (.inl (e _ _ h))
 ·exact .inl (.inr ⟨o,e _ _ h⟩)
 ·exact .inr h
section
variable {X:Cx}
end
section
variable {κ:Type} [DecidableEq κ]
end
end L2
namespace Tx
open PySem PySem.Builtin PySem.Builtin.Str PySem.StrLaws
def S (l:List Nat):Str:=⟨l.toArray⟩
def jV (l:List Nat):(S l).cps.toList=l:=by simp [S]
def K4 (s:Str):S s.cps.toList=s:=by cases s;simp [S]
def dD (l:List Nat):(S l).length=l.length:=by simp [S,Str.length]
def Le {a b:List Nat} (h:S a=S b):a=b:=by
 have:=congrArg (fun s=>s.cps.toList) h
 simpa [jV] using this
def mG (c:Nat):(S [c]).length=1:=by rw [dD];rfl
def subAt_one (x:List Nat) (c i:Nat) (h:i < x.length):subAt (S x) (S [c]) i=decide (x[i]?=some c):=by
 rw [subAt_eq,jV,jV,mG];rw [List.drop_eq_getElem_cons h,List.take_succ_cons,List.take_zero,List.getElem?_eq_getElem h];by_cases e:x[i]=c
 ·simp [e]
 ·simp [e]
def So (x:List Nat) (c:Nat):(!(occurrences (S x) (S [c]) 0 (S x).length 1).isEmpty)=x.contains c:=by
 rw [Bool.eq_iff_iff,found_iff,mG,dD];constructor
 ·rintro ⟨i,h1,h2⟩;rw [subAt_one x c i (by omega)] at h2;have h3:=of_decide_eq_true h2;exact List.elem_iff.mpr (List.mem_of_getElem? h3)
 ·intro h;obtain ⟨i,hi,e⟩:=List.getElem_of_mem (List.elem_iff.mp h);refine ⟨i,by omega,?_⟩;rw [subAt_one x c i hi,List.getElem?_eq_getElem hi,e];simp
def cut (c:Nat):List Nat->List (List Nat)
 | []=>[[]]
 | a::r=>if a=c then []::cut c r else match cut c r with
  | []=>[[a]]
  | h::t=>(a::h)::t
def Vn (c:Nat):∀ l,cut c l≠[]
 | []=>by simp [cut]
 | a::r=>by
  unfold cut;split
  ·simp
  ·split <;> simp
def cY (c:Nat):Nat->List Nat->List Nat
 | _,[]=>[]
 | k,a::r=>if a=c then k::cY c (k+1) r else cY c (k+1) r
def IG (c:Nat):∀ (l:List Nat) (k j:Nat),cY c (k+j) l=(cY c k l).map (· + j)
 | [],_,_=>rfl
 | a::r,k,j=>by
  unfold cY;have e:k+j+1=(k+1)+j:=by omega
  rw [e,IG c r (k+1) j];split <;> simp
def Ci (x:List Nat) (c limit:Nat):∀ (l:List Nat) (k:Nat) (acc:Array Nat) (free:Nat),x.drop k=l->free<=k->acc.size+l.length < limit->k<=x.length ->
  (forIn (List.range' k (x.length+1 - k)) (acc,free) (occBody (S x) (S [c]) x.length limit)).run.fst.toList=acc.toList++cY c k l
 | [],k,acc,free,hd,hf,hl,hk=>by
  have hk2:k=x.length:=by
   have:=congrArg List.length hd;simp at this;omega
  have e:x.length+1 - k=1:=by omega
  have e1:List.range' k 1=[k]:=rfl;rw [e,e1,List.forIn_cons];unfold occBody;have hc:¬ (((((acc,free):Array Nat×Nat).fst.size < limit/\((acc,free):Array Nat×Nat).snd<=k)/\k+(S [c]).length<=x.length)/\subAt (S x) (S [c]) k=true):=by
   rw [mG];rintro ⟨⟨_,h⟩,_⟩;omega
  rw [if_neg hc];simp [cY]
 | a::r,k,acc,free,hd,hf,hl,hk=>by
  have cb:k < x.length:=by
   have:=congrArg List.length hd;simp at this;omega
  have e:x.length+1 - k=(x.length+1 - (k+1))+1:=by omega
  have hx:x[k]?=some a:=by
   have h1:(x.drop k)[0]?=some a:=by rw [hd];rfl
   rw [List.getElem?_drop] at h1
   simpa using h1
  have hr:x.drop (k+1)=r:=by
   rw [<- List.drop_drop,hd];rfl
  rw [e,List.range'_succ,List.forIn_cons];unfold occBody;simp only [List.length_cons] at hl;by_cases oN:a=c
  ·have hc:(((((acc,free):Array Nat×Nat).fst.size < limit/\((acc,free):Array Nat×Nat).snd<=k)/\k+(S [c]).length<=x.length)/\subAt (S x) (S [c]) k=true):=by
    rw [mG,subAt_one x c k cb,hx,oN];refine ⟨⟨⟨?_,hf⟩,by omega⟩,by simp⟩;show acc.size < limit;omega
   rw [if_pos hc];have ih:=Ci x c limit r (k+1) (acc.push k) (k+(S [c]).length) hr (by rw [mG];omega) (by simp;omega) (by omega);refine Eq.trans ih ?_;rw [show cY c k (a::r)=k::cY c (k+1) r from if_pos oN];simp
  ·have hc:¬ (((((acc,free):Array Nat×Nat).fst.size < limit/\((acc,free):Array Nat×Nat).snd<=k)/\k+(S [c]).length<=x.length)/\subAt (S x) (S [c]) k=true):=by
    rw [subAt_one x c k cb,hx];rintro ⟨_,h⟩;exact oN (Option.some.inj (of_decide_eq_true h))
   rw [if_neg hc];have ih:=Ci x c limit r (k+1) acc free hr (by omega) (by omega) (by omega);refine Eq.trans ih ?_
   conv=>rhs;unfold cY
   rw [if_neg oN]
def yN (x:List Nat) (c:Nat):occurrences (S x) (S [c]) 0 (S x).length ((S x).length+1)=cY c 0 x:=by
 rw [occ_eq,dD];have h:=Ci x c (x.length+1) x 0 #[] 0 rfl (Nat.le_refl _) (by simp) (Nat.zero_le _);rw [h];simp
def pieces (l:List Nat) (ps:List Nat):List (List Nat):=((0::ps.map (· + 1)).zip (ps++[l.length])).map fun p=>(l.drop p.1).take (p.2 - p.1)
def tO (c:Nat):∀ l:List Nat,pieces l (cY c 0 l)=cut c l
 | []=>rfl
 | a::r=>by
  have ih:=tO c r;have sh:cY c (0+1) r=(cY c 0 r).map (· + 1):=IG c r 0 1;have tail:∀ (A B:List Nat),((A.map (· + 1)).zip (B.map (· + 1))).map (fun p:Nat×Nat=>((a::r).drop p.1).take (p.2 - p.1))=(A.zip B).map (fun p:Nat×Nat=>(r.drop p.1).take (p.2 - p.1)):=fun A B=>by
   rw [List.zip_map,List.map_map];refine List.map_congr_left fun p _=>?_;show ((a::r).drop (p.1+1)).take (p.2+1 - (p.1+1))=_;rw [List.drop_succ_cons]
   congr 1
   omega
  unfold pieces at ih ⊢;unfold cY cut;rw [sh];by_cases h:a=c
  ·rw [if_pos h,if_pos h];have e1:(0::(0::(cY c 0 r).map (· + 1)).map (· + 1))=0::((0::(cY c 0 r).map (· + 1)).map (· + 1)):=rfl;have e2:(0::(cY c 0 r).map (· + 1))++[(a::r).length]=0::((cY c 0 r++[r.length]).map (· + 1)):=by simp
   rw [e1,e2,List.zip_cons_cons,List.map_cons,tail,ih];simp
  ·rw [if_neg h,if_neg h];have e2:(cY c 0 r).map (· + 1)++[(a::r).length]=(cY c 0 r++[r.length]).map (· + 1):=by simp
   rw [e2];generalize hB:cY c 0 r++[r.length]=B at ih;cases B with
   | nil=>simp at hB
   | cons b B' =>
    rw [List.zip_cons_cons,List.map_cons] at ih;rw [<- ih];rw [List.map_cons (l:=B'),List.zip_cons_cons,List.map_cons,tail];simp
def OM (x:List Nat) (i j:Nat):strSub (S x) i j=S ((x.drop i).take (j - i)):=by
 rw [<- K4 (strSub (S x) i j),strSub_toList,jV]
def Du (x:List Nat) (ps:List Nat):partsBetween (S x) ps 1=(pieces x ps).map S:=by
 unfold partsBetween pieces;rw [List.map_map,dD];refine List.map_congr_left fun p _=>?_;exact OM x p.1 p.2
def GD (c:Nat):∀ l:List Nat,cY c 0 l=[]->cut c l=[l]
 | l,h=>by
  have:=tO c l;rw [h] at this;rw [<- this];simp [pieces]
def F6 (x:List Nat) (c:Nat) (hc:c < 256):Txt.split (S x) (S [c])=(cut c x).map S:=by
 unfold Txt.split;rw [yN,mG,Du,tO];have nop:∀ k,¬ c∈x->cY c k x=[]:=by
  intro k
  induction x generalizing k with
  | nil=>intro _;rfl
  | cons a r ih =>
   intro hm;unfold cY;rw [if_neg (fun e=>hm (by simp [e]))];exact ih (k+1) fun m=>hm (List.mem_cons_of_mem _ m)
 by_cases h1:(decide ((S x).length < 1) || decide (PySem.Builtin.Str.strKind (S x) < PySem.Builtin.Str.strKind (S [c])))=true
 ·rw [if_pos h1];have hx:cY c 0 x=[]:=by
   refine nop 0 fun m=>?_;rw [dD] at h1;have hk:PySem.Builtin.Str.strKind (S [c])=1:=by unfold PySem.Builtin.Str.strKind S;simp [hc]
   rw [hk] at h1;have hp:¬ x.length < 1:=by cases x with | nil=>simp at m | cons _ _=>simp
   have hq:¬ PySem.Builtin.Str.strKind (S x) < 1:=by unfold PySem.Builtin.Str.strKind;split <;> (try split) <;> omega
   simp [hp,hq] at h1
  rw [GD c x hx];rfl
 ·rw [if_neg h1];by_cases h2:(cY c 0 x).isEmpty=true
  ·rw [if_pos h2];rw [GD c x (List.isEmpty_iff.mp h2)];rfl
  ·rw [if_neg h2]
end Tx
namespace L2
open PySem PySem.Spec PyProof.Rows
def noStar:Expr->Bool
 | .Starred _ _=>false
 | _=>true
def fY {e:Expr} {es:List Expr} {env:Env} (h:noStar e=true):starEach (e::es) env=(false,eval e env)::starEach es env:=by
 cases e <;> first | rfl | cases h
def ir {pos:Pos} {env:Env}:∀ {es:List Expr},es.all noStar=true->(backTo pos (starEach es env)).any (·.1)=false
 | [],_=>rfl
 | e::es,h=>by
  rw [KB,Ch] at h;rw [fY h.1];have ih:=ir (pos:=pos) (env:=env) h.2;show ((false || (backTo pos (starEach es env)).any (·.1)))=false;rw [ih];rfl
def BQ {pos:Pos} {env:Env}:∀ {es:List Expr},es.all noStar=true->(backTo pos (starEach es env)).all (fun x=>!x.1)=true
 | [],_=>rfl
 | e::es,h=>by
  rw [KB,Ch] at h;rw [fY h.1];have ih:=BQ (pos:=pos) (env:=env) h.2;show ((true && (backTo pos (starEach es env)).all (fun x=>!x.1)))=true;rw [ih];rfl
section
variable {X:Cx}
def YA {e:Expr} {es:List Expr} {te:TE} {t:TA} (ha:PE X e te) (hr:PA X es t) (hs:noStar e=true:=by rfl):PA X (e::es) (mz te t):=Zu ha hr (fY hs)
def Ts {CX:dj} {k:Nat} {f:Addr} {fd:FuncData} {ps:List Str} {sp:Sp} {bu:List V} {ds:List Value} {E:XK} {x:Str} {p pos:Pos} {e:Expr} {es:List Expr} {t:TA}
  (F:aq X.prog X.w X.K X.mg X.base CX k f fd ps sp) (hr:bc k X.A) (hg:Gl X x) (hm:X.mg x=some (.ref f)) (hk:W.keepIn X.K (.ref f)=true) (hb:Binds X.K fd ps ds) (hd:Vals bu ds) (hx:Passes CX X E)
  (ha:PA X (e::es) t) (hs:(e::es).all noStar=true:=by rfl) (bM:(x == ("__debug__":Str))=false:=by decide):PE X (.Call (.Name x p) (e::es) [] pos) (wa sp bu E t):=by
 have hs':=hs;rw [KB,Ch] at hs';exact PN F hr hg hm hk hb hd hx ha bM (fY hs'.1) (ir hs'.2)
def Ud {x:Str} {p pos:Pos} {e:Expr} {es:List Expr} {t:TA} {id:String} {r:List V->Hp->VK->Prop} (hc:dz X (.builtin id) r) (hg:Gl X x) (hm:X.mg x=none) (hv:bootBuiltins x=some (.builtin id)) (ha:PA X (e::es) t)
  (hs:(e::es).all noStar=true:=by rfl) (hn:x ≠ "__name__" := by decide) (bM:(x == ("__debug__":Str))=false:=by decide):PE X (.Call (.Name x p) (e::es) [] pos) (oy r t):=by
 have hs':=hs;rw [KB,Ch] at hs';exact T9 hc hg hm hv ha hn bM (fY hs'.1) (ir hs'.2)
def Xr {x:Str} {p pos:Pos} {e:Expr} {es:List Expr} {t:TA} {T:String} {r:List V->Hp->VK->Prop} (hc:dz X (.type T) r) (hg:Gl X x) (hm:X.mg x=none) (hv:bootBuiltins x=some (.type T)) (ha:PA X (e::es) t)
  (hs:(e::es).all noStar=true:=by rfl) (hn:x ≠ "__name__" := by decide) (bM:(x == ("__debug__":Str))=false:=by decide):PE X (.Call (.Name x p) (e::es) [] pos) (oy r t):=by
 have hs':=hs;rw [KB,Ch] at hs';exact aa0 hc hg hm hv ha hn bM (fY hs'.1) (ir hs'.2)
end
section
variable {X:Cx}
def PE.imp {e:Expr} {t t':TE} (h:PE X e t) (i:∀ σ H Q,t' σ H Q->t σ H Q):PE X e t':=fun π s σ H Q I hw=>h π s σ H Q I (i σ H Q hw)
def PS.imp {e:Stmt} {t t':TS} (h:PS X e t) (i:∀ D σ H,t' D σ H->t D σ H):PS X e t':=fun π s σ H D I hw=>h π s σ H D I (i D σ H hw)
def aZ.imp {f:Value->Value->Sem Value} {r r':R2} (h:aZ X f r) (i:∀ x y H Q,r' x y H Q->r x y H Q):aZ X f r':=fun π s σ H x y v u Q I rx ry q=>h π s σ H x y v u Q I rx ry (i x y H Q q)
def dz.imp {f:Value} {r r':List V->Hp->VK->Prop} (h:dz X f r) (i:∀ xs H Q,r' xs H Q->r xs H Q):dz X f r':=fun π s σ H xs us Q I rx q=>h π s σ H xs us Q I rx (i xs H Q q)
def jw (i:Nat):TE:=fun σ H Q=>match σ[i]? with
 | some (some v)=>Q v H
 | _=>False
def qv (i:Nat) {x:Str} {pos:Pos} (hN:X.N[i]?=some x:=by rfl) (hv:mH X.env.scope x:=by first | exact Or.inl rfl | exact Or.inr (Or.inl rfl) | exact Or.inr (Or.inr rfl)) (hd:(x == ("__debug__":Str))=false:=by decide)
  (aV:(x == ("__classdict__":Str))=false:=by decide):PE X (.Name x pos) (jw i):=(Ar hN hv hd aV).imp fun σ H Q h=>by
 unfold jw at h;split at h
 ·rename_i v e;exact ⟨v,e,h⟩
 ·exact h.elim
def AR:R2:=fun x y H Q=>match x,y with
 | .int i,.int j=>Q (.int (i+j)) H
 | .str a,.str b=>a.length+b.length<=sizeLine/\Q (.str (a++b)) H
 | .ref l,.ref b=>match H l,H b with
  | some (.lst xs),some (.lst zs)=>xs.length+zs.length<=sizeLine/\∀ p,H p=none->Q (.ref p) (upd H p (.lst (xs++zs)))
  | _,_=>False
 | _,_=>False
def gT:aZ X (binaryOp .Add) AR:=(ac1.or (Tn.or Y8)).imp fun x y H Q h=>by
 unfold AR at h;split at h
 ·exact .inl ⟨_,_,rfl,rfl,h⟩
 ·exact .inr (.inl ⟨_,_,rfl,rfl,h.1,h.2⟩)
 ·split at h
  ·rename_i xs zs h1 h2;exact .inr (.inr ⟨_,_,xs,zs,rfl,rfl,h1,h2,h.1,h.2⟩)
  ·exact h.elim
 ·exact h.elim
def bR (K:ν) (H:Hp) (p:Addr) (R:List V->Prop):Prop:=match H p with
 | some (.lst xs)=>R xs
 | some (.tup xs)=>R xs
 | _=>∃ xs,(aH K H p xs\/bT K H p xs)/\R xs
def za {K:ν} {H:Hp} {p:Addr} {R:List V->Prop} (h:bR K H p R):∃ xs,(aH K H p xs\/bT K H p xs)/\R xs:=by
 unfold bR at h;split at h
 ·rename_i xs e;exact ⟨xs,.inl (aH.of e),h⟩
 ·rename_i xs e;exact ⟨xs,.inr (bT.of e),h⟩
 ·exact h
def ve (K:ν) (H:Hp) (p:Addr) (R:List V->Prop):Prop:=∃ xs,aH K H p xs/\R xs
def Bj {K:ν} {H:Hp} {p:Addr} {R:List V->Prop} (h:ve K H p R):∃ xs,aH K H p xs/\R xs:=h
def YD (f:Int->Int->Int):R2:=fun x y H Q=>match x,y with
 | .int i,.int j=>Q (.int (f i j)) H
 | _,_=>False
def qH (C:Int->Int->Prop) (f:Int->Int->Int):R2:=fun x y H Q=>match x,y with
 | .int i,.int j=>C i j/\Q (.int (f i j)) H
 | _,_=>False
def BB {C:Int->Int->Prop} {f:Int->Int->Int} {x y:V} {H:Hp} {Q:VK} (h:qH C f x y H Q):rI C (fun i j=>.int (f i j)) x y H Q:=by
 unfold qH at h;split at h
 ·exact ⟨_,_,rfl,rfl,h.1,h.2⟩
 ·exact h.elim
def ij:aZ X (binaryOp .Mod) (qH (fun _ j=>0 < j) fun i j=>i % j):=aaE.imp fun _ _ _ _ h=>BB h
def nG:aZ X (binaryOp .FloorDiv) (qH LD fun i j=>i / j):=aac.imp fun _ _ _ _ h=>BB h
def qG (neg:Bool):R2:=fun x y H Q=>match x,y with
 | .int i,.int j=>Q (.bl (neg ^^ decide (i=j))) H
 | .str i,.str j=>Q (.bl (neg ^^ decide (i=j))) H
 | .bl i,.bl j=>Q (.bl (neg ^^ decide (i=j))) H
 | _,_=>wO x y=true/\Q (.bl (neg ^^ decide (x=y))) H
def Mz (i j:Int):decide (V.int i=V.int j)=decide (i=j):=by by_cases h:i=j <;> simp [h]
def Jo (i j:Str):decide (V.str i=V.str j)=decide (i=j):=by by_cases h:i=j <;> simp [h]
def JW (i j:Bool):decide (V.bl i=V.bl j)=decide (i=j):=by by_cases h:i=j <;> simp [h]
def W7:aZ X (compareOp .Eq) (qG false):=ab1.imp fun x y H Q h=>by
 unfold qG at h;simp only [Bool.false_bne] at h;split at h
 ·exact ⟨rfl,by rw [Mz];exact h⟩
 ·exact ⟨rfl,by rw [Jo];exact h⟩
 ·exact ⟨rfl,by rw [JW];exact h⟩
 ·exact h
def acG:aZ X (compareOp .NotEq) (qG true):=aa9.imp fun x y H Q h=>by
 unfold qG at h;simp only [Bool.true_bne] at h;split at h
 ·exact ⟨rfl,by rw [Mz];exact h⟩
 ·exact ⟨rfl,by rw [Jo];exact h⟩
 ·exact ⟨rfl,by rw [JW];exact h⟩
 ·exact h
def jW (f:Int->Int->Bool):R2:=fun x y H Q=>match x,y with
 | .int i,.int j=>Q (.bl (f i j)) H
 | _,_=>False
def zP {f:Int->Int->Bool} {x y:V} {H:Hp} {Q:VK} (h:jW f x y H Q):oH (fun i j=>.bl (f i j)) x y H Q:=by
 unfold jW at h;split at h
 ·exact ⟨_,_,rfl,rfl,h⟩
 ·exact h.elim
def yQ:aZ X (compareOp .Lt) (jW fun i j=>decide (i < j)):=U3.imp fun _ _ _ _ h=>zP h
def kS:aZ X (compareOp .LtE) (jW fun i j=>decide (i<=j)):=O8.imp fun _ _ _ _ h=>zP h
def B4:aZ X (compareOp .Gt) (jW fun i j=>decide (j < i)):=Ua.imp fun _ _ _ _ h=>zP h
def xh (K:ν):R2:=fun x y H Q=>match x,y with
 | .str i,.str j=>Q (.bl (!(Builtin.Str.occurrences j i 0 j.length 1).isEmpty)) H
 | _,.ref p=>bR K H p fun xs=>cU x=true/\xs.all cU=true/\Q (.bl (dX x xs)) H
 | _,_=>False
def S5:aZ X (compareOp .In) (xh X.K):=(aap.or GK).imp fun x y H Q h=>by
 unfold xh at h;split at h
 ·exact .inl ⟨_,_,rfl,rfl,h⟩
 ·obtain ⟨xs,h1,h2,h3,h4⟩:=za h;exact .inr ⟨_,xs,rfl,h1,h2,h3,h4⟩
 ·exact h.elim
def ju (t:TE):TT:=fun σ H Q=>t σ H fun x H'=>match x with
 | .bl k=>Q k H'
 | _=>False
def AX {x:V} {H:Hp} {Q:Bool->Hp->Prop} (h:(match x with | .bl k=>Q k H | _=>False)):∃ k,x=.bl k/\Q k H:=by
 split at h
 ·exact ⟨_,rfl,h⟩
 ·exact h.elim
def RG {op:CmpOp} {r:R2} {a b:Expr} {ta tb:TE} {pos:Pos} (ho:aZ X (compareOp op) r) (ha:PE X a ta) (hb:PE X b tb) (hm:behindInMarks op b=false:=by first | exact wB _ (by decide) (by decide) | rfl) :
  PT X (.Compare a [op] [b] pos) (ju (iU r ta tb)):=by
 intro π s σ H Q I h;refine wpAny_isTrue_Compare1 ?_ hm;refine aC (ha π s σ H _ I h) fun v s1 ⟨x,H1,I1,r1,q1⟩=>aC (hb π s1 σ H1 _ I1 q1) fun u s2 ⟨y,H2,I2,r2,q2⟩=>?_;refine aC (ho π s2 σ H2 x y v u _ I2 r1 r2 q2) fun c s3 ⟨z,H3,I3,r3,q3⟩=>?_;obtain ⟨k,rfl,q⟩:=AX q3;cases r3;exact Op ⟨H3,I3,q⟩
def Sk {e:Expr} {t:TE} (h:PE X e t) (he:∀ whole,isTrue e X.env whole=(do let v <- whole;standAt e.pos;holding [v] (truthy v)):=by intro _;rfl):PT X e (ju t):=by
 intro π s σ H Q I hw;refine isTrue_plain (aC (h π s σ H _ I hw) fun v s1 ⟨x,H1,I1,r1,q1⟩=>?_) (he _);obtain ⟨d,rfl,q⟩:=AX q1;cases r1;exact Op ⟨H1,I1,q⟩
def yT (f g:Int->Int->Bool) (ta tb tc:TE):TT:=fun σ H Q=>ta σ H fun x H1=>tb σ H1 fun y H2=>match x,y with
 | .int i,.int j=>if f i j=true then tc σ H2 fun z H3=>(match z with | .int k=>Q (g j k) H3 | _=>False) else Q false H2
 | _,_=>False
def zr (ta tb:TE):TE:=fun σ H Q=>ta σ H fun x H1=>match x with
 | .bl c=>if c=true then tb σ H1 Q else Q (.bl false) H1
 | _=>False
def CM (ta tb:TE):TE:=fun σ H Q=>ta σ H fun x H1=>match x with
 | .bl c=>if c=true then Q (.bl true) H1 else tb σ H1 Q
 | _=>False
def BR (ta:TE):TE:=fun σ H Q=>ta σ H fun x H1=>match x with
 | .bl c=>Q (.bl (!c)) H1
 | _=>False
variable {a b:Expr} {ta tb:TE} {pos:Pos} {rest:List Expr}
def O6 (ha:PE X a ta) (hb:PE X (.BoolOp .And (b::rest) pos) tb):PE X (.BoolOp .And (a::b::rest) pos) (zr ta tb):=by
 intro π s σ H Q I h;refine BoolOp_and (aC (ha π s σ H _ I h) fun v s1 ⟨x,H1,I1,r1,q1⟩=>?_);have q1':∃ c,x=.bl c/\if c=true then tb σ H1 Q else Q (.bl false) H1:=by
  dsimp only at q1;split at q1
  ·exact ⟨_,rfl,q1⟩
  ·exact q1.elim
 obtain ⟨c,rfl,q1⟩:=q1';cases r1;refine Op ?_;cases c with
 | true=>exact hb π s1 σ H1 Q I1 q1
 | false=>exact ⟨.bl false,H1,I1,rfl,q1⟩
def Vq (ha:PE X a ta) (hb:PE X (.BoolOp .Or (b::rest) pos) tb):PE X (.BoolOp .Or (a::b::rest) pos) (CM ta tb):=by
 intro π s σ H Q I h;refine BoolOp_or (aC (ha π s σ H _ I h) fun v s1 ⟨x,H1,I1,r1,q1⟩=>?_);have q1':∃ c,x=.bl c/\if c=true then Q (.bl true) H1 else tb σ H1 Q:=by
  dsimp only at q1;split at q1
  ·exact ⟨_,rfl,q1⟩
  ·exact q1.elim
 obtain ⟨c,rfl,q1⟩:=q1';cases r1;refine Op ?_;cases c with
 | false=>exact hb π s1 σ H1 Q I1 q1
 | true=>exact ⟨.bl true,H1,I1,rfl,q1⟩
def xG:V->Value
 | .ty n=>.type n
 | .ref a=>.ref a
 | _=>.none
def UL:dz X (.builtin "isinstance") (fun xs H Q=>∃ x cV t b,xs=[x,cV]/\((∃ n,cV=.ty n)\/∃ a,cV=.ref a)/\fP X.K H x t/\W.kitOne X.K t (xG cV)=some b/\Q (.bl b) H):=by
 intro π s σ H xs us Q I r h;obtain ⟨x,cV,t,b,rfl,hc,ty,e,q⟩:=h;obtain ⟨u,c',rfl,ru,rc'⟩:=vals2 r;have ec:c'=xG cV:=by
  rcases hc with ⟨n,rfl⟩ | ⟨a,rfl⟩
  ·exact rc'
  ·exact rc'
 subst ec;exact Bx I ru ty e fun tk=>⟨.bl b,H,I.tok tk,rfl,q⟩
end
section
variable {X:Cx}
def Dt:V->List V->Hp->VK->Prop:=fun x xs H Q=>match x,xs with
 | .str a,[.str b]=>Q (.bl (Txt.startswith a b)) H
 | _,_=>False
def KQ:eG X "str.startswith" Dt:=by
 intro π s σ H x xs v us Q I rx r h;unfold Dt at h;split at h
 ·rename_i a b;obtain ⟨t,rfl⟩:=rx;obtain ⟨u,rfl,t',rfl⟩:=vals1 r;exact _g F.slot_str_startswith (_B s a t) F.entry_str_startswith (F.args_str_startswith_2 _ _) (gives_str_startswith a b t t').meets ⟨.bl _,H,I,rfl,h⟩
 ·exact h.elim
def zy:V->List V->Hp->VK->Prop:=fun x xs H Q=>match x,xs with
 | .str a,[.str b]=>Q (.bl (Txt.endswith a b)) H
 | _,_=>False
def J0:eG X "str.endswith" zy:=by
 intro π s σ H x xs v us Q I rx r h;unfold zy at h;split at h
 ·rename_i a b;obtain ⟨t,rfl⟩:=rx;obtain ⟨u,rfl,t',rfl⟩:=vals1 r;exact _g F.slot_str_endswith (_B s a t) F.entry_str_endswith (F.args_str_endswith_2 _ _) (gives_str_endswith a b t t').meets ⟨.bl _,H,I,rfl,h⟩
 ·exact h.elim
def GA:∀ (l:List (Str×Tok)),Vals ((l.map (·.1)).map V.str) (strValues l)
 | []=>.nil
 | p::r=>.cons ⟨p.2,rfl⟩ (GA r)
def u3:∀ {ts:List Str} {us:List Value},Vals (ts.map V.str) us->∃ l:List (Str×Tok),us=strValues l/\l.map (·.1)=ts
 | [],_,.nil=>⟨[],rfl,rfl⟩
 | t::r,_,.cons h h'=>by
  obtain ⟨k,rfl⟩:=h;obtain ⟨l,e1,e2⟩:=u3 h';exact ⟨(t,k)::l,by rw [e1];rfl,by rw [<- e2];rfl⟩
def zo:V->List V->Hp->VK->Prop:=fun x xs H Q=>match x,xs with
 | .str a,[.str b]=>(b.length == 0)=false/\a.length<=sizeLine/\(Builtin.Str.partsBetween a (Builtin.Str.occurrences a b 0 a.length (a.length+1)) b.length).length<=sizeLine /\
   ∀ l,H l=none->Q (.ref l) (upd H l (.lst ((Txt.split a b).map V.str)))
 | _,_=>False
def Lq:eG X "str.split" zo:=by
 intro π s σ H x xs v us Q I rx r h;unfold zo at h;split at h
 ·rename_i a b;obtain ⟨hy,hx,hn,q⟩:=h;obtain ⟨t,rfl⟩:=rx;obtain ⟨w',rfl,u,rfl⟩:=vals1 r;have fin:∀ (l:List (Str×Tok)) (tk:Nat),l.map (·.1)=Txt.split a b->l.length<=sizeLine ->
    EP X π σ Q (.ref s.heap.objs.size) { s with heap:=s.heap.push { cls:=.type "list",data:=.seq (strValues l).toArray },toks:=tk }:=fun l tk e hz =>
   ⟨.ref _,_,I.laid (t':=tk) (o:=.lst ((Txt.split a b).map V.str)) (fun b' o' q'=>pc _ q') (ul _)
    ⟨by rw [pp,<- e,pp];exact hz,strValues l,0,by rw [<- e];exact GA l,u8 _ rfl⟩,rfl,q _ (I.au.fresh (ul _))⟩
  cases h1:(decide (a.length < b.length) || decide (Builtin.Str.strKind a < Builtin.Str.strKind b))
  ·cases hf:(Builtin.Str.occurrences a b 0 a.length (a.length+1)).isEmpty
   ·refine _g F.slot_str_split (_B s a t) F.entry_str_split (Jae _ _) (meets_str_split_sep a b t u h1 hy hf hx hn) ?_;have e:Txt.split a b=Builtin.Str.partsBetween a (Builtin.Str.occurrences a b 0 a.length (a.length+1)) b.length:=(zn (Ja3 h1)).trans (zn (Ja3 hf));have z:=fin (numbered s.toks (Builtin.Str.partsBetween a (Builtin.Str.occurrences a b 0 a.length (a.length+1)) b.length)) (s.toks+(Builtin.Str.partsBetween a (Builtin.Str.occurrences a b 0 a.length (a.length+1)) b.length).length)
     ((numbered_texts _ _).trans e.symm) (by
      have:=PP List.length (numbered_texts s.toks (Builtin.Str.partsBetween a (Builtin.Str.occurrences a b 0 a.length (a.length+1)) b.length));rw [pp] at this;rw [this];exact hn)
    rw [<- strsFrom_eq] at z;exact z
   ·exact _g F.slot_str_split (_B s a t) F.entry_str_split (Jae _ _) (meets_str_split_not_found a b t u h1 hy hf)
     (fin [(a,t)] s.toks ((zn (Ja3 h1)).trans (AT hf)).symm (by show 1<=sizeLine;decide))
  ·exact _g F.slot_str_split (_B s a t) F.entry_str_split (Jae _ _) (meets_str_split_cannot_occur a b t u h1)
    (fin [(a,t)] s.toks (AT h1).symm (by show 1<=sizeLine;decide))
 ·exact h.elim
def rJoin (K:ν):V->List V->Hp->VK->Prop:=fun x xs H Q=>match x,xs with
 | .str a,[.ref p]=>ve K H p fun xs=>∃ ts:List Str,xs=ts.map V.str/\ts.foldl (fun n z=>n+z.length+a.length) 0<=sizeLine/\Q (.str (Str.join a ts)) H
 | _,_=>False
def QZ:eG X "str.join" (rJoin X.K):=by
 intro π s σ H x xs v us Q I rx r h;unfold rJoin at h;split at h
 ·rename_i a p;obtain ⟨xs,hq,ts,rfl,hz,q⟩:=Bj h;obtain ⟨t,rfl⟩:=rx;obtain ⟨w',rfl,e⟩:=vals1 r;cases e;obtain ⟨ao,rv,pl,hl⟩:=I.list hq;obtain ⟨l,rfl,e2⟩:=u3 rv;have DT:Builtin.Str.tooLong ((l.map (·.1)).toArray.foldl (· + ·.length+a.length) 0)=false:=by
   unfold Builtin.Str.tooLong;refine tz (Nat.not_lt.mpr ?_);rw [List.foldl_toArray,e2];exact hz
  refine _g F.slot_str_join (_B s a t) F.entry_str_join (F.args_str_join_2 _ _) (meets_str_join_list a t p l DT) ⟨pl.isList,?_⟩;have hlen:(Builtin.Str.glued a (l.map (·.1))).length<=sizeLine:=by
   rw [e2,StrLaws.glued_eq_join];refine wE ?_ hz;have:∀ (us:List Str) (n:Nat),n+(Str.join a us).length<=us.foldl (fun n z=>n+z.length+a.length) n:=by
    intro us
    induction us with
    | nil=>intro n;exact ul _
    | cons y r ih =>
     intro n;cases r with
     | nil=>show n+y.length<=n+y.length+a.length;omega
     | cons z r' =>
      have h1:(Str.join a (y::z::r')).length=y.length+a.length+(Str.join a (z::r')).length:=by
       show ((y++a)++Str.join a (z::r')).length=_;rw [Str.length_append,Str.length_append]
      have h2:=ih (n+y.length+a.length);rw [h1];refine wE ?_ h2;omega
   have h0:=this ts 0;omega
  have e3:Builtin.Str.glued a (l.map (·.1))=Str.join a ts:=by rw [e2,StrLaws.glued_eq_join]
  match l,e2,e3,hlen with
  | [],e2,e3,hlen=>exact ⟨hlen,⟨.str (Str.join a ts),H,I.tok _,⟨_,by rw [e3]⟩,q⟩⟩
  | [p],e2,e3,hlen =>
   have e4:Str.join a ts=p.1:=by rw [<- e2];rfl
   exact ⟨.str (Str.join a ts),H,I.tok _,⟨_,by rw [e4]⟩,q⟩
  | p1::p2::r',e2,e3,hlen=>exact ⟨hlen,⟨.str (Str.join a ts),H,I.tok _,⟨_,by rw [e3]⟩,q⟩⟩
 ·exact h.elim
def Hb {v:Value} {o:Option Int} (p:IsPart v o):∃ l:Option (Int×Tok),v=partValue l/\l.map (·.1)=o:=by
 cases p with
 | none=>exact ⟨none,rfl,rfl⟩
 | int i t=>exact ⟨some (i,t),rfl,rfl⟩
def JK:V->Option Int->Option Int->Hp->VK->Prop:=fun x lo hi H Q=>match x with
 | .str z=>z.length<=sizeLine/\Q (.str (Txt.slice z lo hi)) H
 | _=>False
def QU:jJ X JK:=by
 intro π s σ H x v vl vu lo hi sl Q I rx hs pl pu h;unfold JK at h;split at h
 ·rename_i z;obtain ⟨hz,q⟩:=h;obtain ⟨t,rfl⟩:=rx;obtain ⟨l,rfl,rfl⟩:=Hb pl;obtain ⟨u,rfl,rfl⟩:=Hb pu;refine ⟨"str",_,F.slot_str_getitem.lookup,_B _ _ _,wpAny_getItem_str_slice (l:=l) (u:=u) (st:=none) hs rfl
   (post_val_or_str ⟨wE (Txt.slice_le z _ _) hz,fun t' k=>?_⟩)⟩
  exact ⟨.str (Txt.slice z (l.map (·.1)) (u.map (·.1))),H,I.tok k,⟨t',rfl⟩,q⟩
 ·exact h.elim
def BZ:R2:=fun x y H Q=>match x,y with
 | .int i,.int j=>vT i j/\Q (.int (i * j)) H
 | .str z,.int n=>MulOk z n/\Q (.str (Txt.mul z n)) H
 | .ref l,.int k=>match H l with
  | some (.lst xs)=>-(2 ^ 63)<=k/\k < 2 ^ 63/\xs.length * k.toNat<=sizeLine/\∀ p,H p=none->Q (.ref p) (upd H p (.lst (List.replicate k.toNat xs).flatten))
  | _=>False
 | _,_=>False
def adw:aZ X (binaryOp .Mult) (fun x y H Q=>∃ z n,x=.str z/\y=.int n/\MulOk z n/\Q (.str (Txt.mul z n)) H):=by
 intro π s σ H x y v u Q I rx ry h;obtain ⟨z,n,rfl,rfl,hm,q⟩:=h;obtain ⟨t,rfl⟩:=rx;obtain ⟨t',rfl⟩:=ry;exact SB.mul hm fun t2 k=>⟨.str _,H,I.tok _,⟨_,rfl⟩,q⟩
def mq:aZ X (binaryOp .Mult) BZ:=(adS.or (adw.or Vj)).imp fun x y H Q h=>by
 unfold BZ at h;split at h
 ·exact .inl ⟨_,_,rfl,rfl,h.1,h.2⟩
 ·exact .inr (.inl ⟨_,_,rfl,rfl,h.1,h.2⟩)
 ·split at h
  ·rename_i xs h1;obtain ⟨h2,h3,h4,h5⟩:=h;exact .inr (.inr ⟨_,_,xs,rfl,rfl,h1,h2,h3,h4,h5⟩)
  ·exact h.elim
 ·exact h.elim
def Ik:∀ {bs:List Bool} {us:List Value},Vals (bs.map V.bl) us->us=bs.map Value.bool
 | [],_,.nil=>rfl
 | b::r,_,.cons h h'=>by
  have h:_=Value.bool b:=h;rw [h,Ik h'];rfl
def all_range (bs:List Bool):(List.range bs.length).all (fun j=>bs.getD j true)=bs.all id:=by
 rw [_w,IO,IO];constructor
 ·intro h b hb;obtain ⟨i,hi,e⟩:=TD hb;have:=h i (Jaa.mpr hi);rw [_C,mo hi,e] at this;exact this
 ·intro h j hj;have hj:=Jaa.mp hj;rw [_C,mo hj];exact h _ (_H hj)
def Yd (hc:X.calm=true):dz X (.builtin "all") (fun xs H Q=>∃ (p:Addr) (bs:List Bool),xs=[.ref p]/\aH X.K H p (bs.map V.bl)/\Q (.bl (bs.all id)) H):=by
 intro π s σ H xs us Q I r h;obtain ⟨p,bs,rfl,hq,q⟩:=h;obtain ⟨u,rfl,e⟩:=vals1 r;cases e;obtain ⟨ao,rv,pl,hz⟩:=I.list hq;have eb:=Ik rv;subst eb;have cf:p < s.heap.objs.size:=pl.lt;refine call_all_walk (wpAny_pyIter_list pl.isList ?_);refine ⟨s.heap.objs.size,_,_,_,_,_,fun j=>bs.getD j true,rfl,Walks.list (A:=X.A.in1) (show X.A.in1.handled=none from I.ok.hd hc) _ p (xL cf) (bs.map Value.bool).toArray,⟨⟨_,u8 _ rfl,rfl,rfl⟩,pl.isList.push _⟩,?_,?_⟩
 ·intro i v s' Q' E' hP hQ;have hi:bs[i]?=some (bs.getD i true)/\v=.bool (bs.getD i true):=by
   have hP:(bs.map Value.bool).toArray[i]?=some v:=hP;rw [List.getElem?_toArray,Da] at hP;cases e:bs[i]? with
   | none=>rw [e] at hP;cases hP
   | some b =>
    rw [e] at hP;have:bs.getD i true=b:=by rw [_C,e];rfl
    rw [this];exact ⟨rfl,(Fk hP).symm⟩
  rw [hi.2];exact Op hQ
 ·intro h' tk hk;have e:(List.range (bs.map Value.bool).toArray.size).all (fun j=>bs.getD j true)=bs.all id:=by
   rw [ww,pp];exact all_range bs
  rw [e];refine ⟨.bl (bs.all id),H,I.kept (t':=tk) (fun b o eo=>?_),rfl,q⟩;refine hk b o ?_ (pc _ eo);intro hm;have e1:b=s.heap.objs.size:=by simpa using hm
  exact absurd (sB eo) (by rw [e1];exact GE _)
def wR (x:Str):It:=⟨fun i _=>i < x.length,fun i H y H'=>H'=H/\∃ c,x.cps[i]?=some c/\y=.str ⟨#[c]⟩,fun i _=>x.length<=i⟩
def KA {P:Program} {w:World} {K:ν} {tg:Expr} {x:Str} {t:Tok} {ty:String} (it:Addr)
  (cm:["enumerate","zip","dict_itemiterator","dict_reverseitemiterator","odict_iterator","itertools.zip_longest","itertools.pairwise"].contains ty=false)
  (W:∀ A:Around,A.handled=none->Walks P w A it [it] [it] x.cps.size (SignAt x) (fun i h=>h.IsStrIter it ty x t i)) (W0:∀ (A:Around) (i:Nat) (s:Shared) (Q:Value->Shared->Prop) (E:Value->Shared->Prop),s.heap.IsStrIter it ty x t i->Q (.ref it) s->wpAny (model P w) A (pyIter (.ref it)) Q E s) :
  Turn P w K tg (wR x) [it] it (fun i h=>i<=x.length/\h.IsStrIter it ty x t i) where
 mem:=by simp
 obj:=fun i h st b hb=>by
  have e:b=it:=by simpa using hb
  subst e;obtain ⟨_,o,e,c,d⟩:=st;exact ⟨o,e,fun v z=>by rw [d] at z;cases z⟩
 keep:=fun i h h' st k=>⟨st.1,let ⟨o,ho,r⟩:=st.2;⟨o,k it (by simp) o ho,r⟩⟩
 item:=by
  intro X hP hw hK hc i π s σ H E I hf st hg;subst hP hw hK;obtain ⟨f0,f1,f2,f3,f4,f5⟩:=hf it (by simp);refine (W X.A (I.ok.hd hc)).item i s _ E hg st.2 fun v h' tk hv st' hk=>?_;obtain ⟨c,u,E6,rfl⟩:=hv;have I1:Inv X π σ H { s with heap:=h',toks:=tk }:=I.turned (t':=tk) (fun b o hb e=>hk b o (by simpa using hb) e) f0 f1 f3 f4 f5;obtain ⟨o,e,cc,d⟩:=id st';exact ⟨_,rfl,BS (s:={ s with heap:=h',toks:=tk }) e cc d cm ⟨.str ⟨#[c]⟩,H,I1,⟨u,rfl⟩,⟨rfl,c,E6,rfl⟩,⟨hg,st'⟩,fun b hb=>(hf b hb).1⟩⟩
 done:=by
  intro X hP hw hK hc i π s σ H E I hf st hg;subst hP hw hK;obtain ⟨f0,f1,f2,f3,f4,f5⟩:=hf it (by simp);have hi:i=x.cps.size:=Nat.le_antisymm st.1 hg;subst hi;exact (W X.A (I.ok.hd hc)).done s _ E st.2 fun h' tk hk=>⟨rfl,I.turned (t':=tk) (fun b o hb e=>hk b o (by simpa using hb) e) f0 f1 f3 f4 f5⟩
 self:=fun A i s Q E st h=>W0 A i s Q E st.2 h
def B0 (tl:TE):TI:=fun σ H R=>tl σ H fun x H1=>match x with
 | .str z=>R (wR z) H1
 | _=>False
def VT {tg l:Expr} {tl:TE} (hl:PE X l tl):PI X tg l (B0 tl):=by
 intro π s σ H R I h;refine aC (hl π s σ H _ I h) fun v s1 ⟨x,H1,I1,r1,q1⟩=>?_;have q1':∃ z,x=.str z/\R (wR z) H1:=by
  dsimp only at q1;split at q1
  ·exact ⟨_,rfl,q1⟩
  ·exact q1.elim
 obtain ⟨z,rfl,q⟩:=q1';obtain ⟨t,rfl⟩:=r1;have fp:∀ b∈[s1.heap.objs.size],gP X π H1 b:=fun b hb=>by
  have e:b=s1.heap.objs.size:=by simpa using hb
  subst e;exact I1.zQ (ul _) (I1.au.fresh (ul _))
 cases ha:z.cps.all (· < 128)
 ·refine wpAny_pyIter_wide ha ⟨s1.heap.objs.size,[s1.heap.objs.size],_,_,H1,rfl,I1.kept (t':=s1.toks) fun b o e=>pc _ e,
   KA (ty := "str_iterator") (t:=t) _ (by decide) (fun A hA=>Walks.strWide hA _ z t) (fun A i s Q E st h=>wpAny_pyIter_striter_wide st h),⟨Do _,_,u8 _ rfl,rfl,rfl⟩,fp,q⟩
 ·refine wpAny_pyIter_ascii ha ⟨s1.heap.objs.size,[s1.heap.objs.size],_,_,H1,rfl,I1.kept (t':=s1.toks) fun b o e=>pc _ e,
   KA (ty := "str_ascii_iterator") (t:=t) _ (by decide) (fun A hA=>Walks.strAscii hA _ z t) (fun A i s Q E st h=>wpAny_pyIter_striter_ascii st h),⟨Do _,_,u8 _ rfl,rfl,rfl⟩,fp,q⟩
end
section
variable {X:Cx} {a b c:Expr} {ta tb tc:TE} {pos:Pos}
def aba (ha:PE X a ta):PE X (.UnaryOp .Not a pos) (BR ta):=by
 intro π s σ H Q I h;refine UnaryOp_ (aC (ha π s σ H _ I h) fun v s1 ⟨x,H1,I1,r1,q1⟩=>?_);have q1':∃ k,x=.bl k/\Q (.bl (!k)) H1:=by
  dsimp only at q1;split at q1
  ·exact ⟨_,rfl,q1⟩
  ·exact q1.elim
 obtain ⟨k,rfl,z1⟩:=q1';cases r1;exact not_of (Op ⟨.bl (!k),H1,I1,rfl,z1⟩)
def ado {op op':CmpOp} {f g:Int->Int->Bool} (ho:aZ X (compareOp op) (jW f)) (ho':aZ X (compareOp op') (jW g)) (ha:PE X a ta) (hb:PE X b tb) (hc:PE X c tc)
  (hm:lastMarks [op,op'] [b,c]=false:=by with_unfolding_all rfl):PT X (.Compare a [op,op'] [b,c] pos) (yT f g ta tb tc):=by
 intro π s σ H Q I h;refine isTrue_chain (aC (ha π s σ H _ I h) fun v s1 ⟨x,H1,I1,r1,q1⟩=>test_link (aC (hb π s1 σ H1 _ I1 q1) fun u s2 ⟨y,H2,I2,r2,q2⟩=>?_)) hm;have q2':∃ i j,x=.int i/\y=.int j/\if f i j=true then tc σ H2 (fun z H3=>(match z with | .int k=>Q (g j k) H3 | _=>False)) else Q false H2:=by
  dsimp only at q2;split at q2
  ·exact ⟨_,_,rfl,rfl,q2⟩
  ·exact q2.elim
 obtain ⟨i,j,rfl,rfl,z2⟩:=q2';refine aC (ho π s2 σ H2 (.int i) (.int j) v u (fun z H3=>z=.bl (f i j)/\H3=H2) I2 r1 r2 ⟨rfl,rfl⟩) fun d s3 ⟨z,H3,I3,r3,e,e'⟩=>?_;subst e e';cases r3;refine Op ?_;cases hf:f i j with
 | false =>
  rw [hf] at z2;exact ite_ff ⟨H3,I3,z2⟩
 | true =>
  rw [hf,AT rfl] at z2;refine ite_tt (test_last (aC (hc π s3 σ H3 _ I3 z2) fun w' s4 ⟨z',H4,I4,r4,q4⟩=>?_));have q4':∃ k,z'=.int k/\Q (g j k) H4:=by
   dsimp only at q4;split at q4
   ·exact ⟨_,rfl,q4⟩
   ·exact q4.elim
  obtain ⟨k,rfl,z4⟩:=q4';refine aC (ho' π s4 σ H4 (.int j) (.int k) u w' (fun z H5=>z=.bl (g j k)/\H5=H4) I4 r2 r4 ⟨rfl,rfl⟩) fun d' s5 ⟨z2,H5,I5,r5,e,e'⟩=>?_;subst e e';cases r5;exact Op ⟨H5,I5,z4⟩
def vi (K:ν):List V->Hp->VK->Prop:=fun xs H Q=>match xs with
 | [.str y]=>y.length<=sizeLine/\Q (.int y.length) H
 | [.ref p]=>bR K H p fun ys=>Q (.int ys.length) H
 | _=>False
def YL:dz X (.builtin "len") (vi X.K):=Ih.imp fun xs H Q h=>by
 unfold vi at h;split at h
 ·exact ⟨_,_,rfl,⟨h.1,rfl⟩,h.2⟩
 ·obtain ⟨ys,h1,h2⟩:=za h;rcases h1 with h1 | h1
  ·exact ⟨_,_,rfl,.inl ⟨ys,h1,rfl⟩,h2⟩
  ·exact ⟨_,_,rfl,.inr ⟨ys,h1,rfl⟩,h2⟩
 ·exact h.elim
def G0 (K:ν):List V->Hp->VK->Prop:=fun xs H Q=>match xs with
 | [x,cV]=>∃ t b,((∃ n,cV=.ty n)\/∃ a,cV=.ref a)/\fP K H x t/\W.kitOne K t (xG cV)=some b/\Q (.bl b) H
 | _=>False
def ZG:dz X (.builtin "isinstance") (G0 X.K):=UL.imp fun xs H Q h=>by
 unfold G0 at h;split at h
 ·obtain ⟨t,b,h1,h2,h3,h4⟩:=h;exact ⟨_,_,t,b,rfl,h1,h2,h3,h4⟩
 ·exact h.elim
def xo (K:ν):List V->Hp->VK->Prop:=fun xs H Q=>match xs with
 | [.ref p]=>ve K H p fun xs=>∃ bs:List Bool,xs=bs.map V.bl/\Q (.bl (bs.all id)) H
 | _=>False
def RU (hc:X.calm=true):dz X (.builtin "all") (xo X.K):=(Yd hc).imp fun xs H Q h=>by
 unfold xo at h;split at h
 ·obtain ⟨xs,h1,bs,rfl,h2⟩:=Bj h;exact ⟨_,bs,rfl,h1,h2⟩
 ·exact h.elim
def Vx (K:ν):List V->Hp->VK->Prop:=fun xs H Q=>match xs with
 | [.ref p]=>bR K H p fun ys=>∀ l,H l=none->Q (.ref l) (upd H l (.lst ys))
 | _=>False
def pO (K:ν):R2:=fun x y H Q=>match x,y with
 | .ref p,.int i=>bR K H p fun xs=>match eC xs i with
  | some v=>Q v H
  | none=>False
 | .str z,.int i=>z.length<=sizeLine/\match eC z.cps.toList i with
  | some c=>Q (.str ⟨#[c]⟩) H
  | none=>False
 | _,_=>False
def fM.imp {r r':R2} (h:fM X r) (i:∀ x y H Q,r' x y H Q->r x y H Q):fM X r':=fun value slice π s σ H x y v u Q I rx ry q=>h value slice π s σ H x y v u Q I rx ry (i x y H Q q)
def qx:fM X (pO X.K):=RV.imp fun x y H Q h=>by
 unfold pO at h;split at h
 ·obtain ⟨xs,h1,h2⟩:=za h;split at h2
  ·rename_i v e;rcases h1 with h1 | h1
   ·exact .inl ⟨_,xs,_,v,rfl,rfl,h1,e,h2⟩
   ·exact .inr (.inl ⟨_,xs,_,v,rfl,rfl,h1,e,h2⟩)
  ·exact h2.elim
 ·obtain ⟨h1,h2⟩:=h;split at h2
  ·rename_i d e;exact .inr (.inr ⟨_,_,d,rfl,rfl,h1,e,h2⟩)
  ·exact h2.elim
 ·exact h.elim
def wF (K:ν):V->Option Int->Option Int->Hp->VK->Prop:=fun x lo hi H Q=>match x with
 | .str z=>z.length<=sizeLine/\Q (.str (Txt.slice z lo hi)) H
 | .ref a=>ve K H a fun xs=>∀ p,H p=none->Q (.ref p) (upd H p (.lst (jz xs lo hi)))
 | _=>False
def Zy:jJ X (wF X.K):=by
 intro π s σ H x v vl vu lo hi sl Q I rx hs pl pu h;refine (QU.or ac7) π s σ H x v vl vu lo hi sl Q I rx hs pl pu ?_;unfold wF at h;split at h
 ·exact .inl h
 ·obtain ⟨xs,h1,h2⟩:=Bj h;exact .inr ⟨_,xs,rfl,h1,h2⟩
 ·exact h.elim
def AJ (t:TE):TO:=fun σ H Q=>t σ H fun x H1=>match x with
 | .int i=>Q (some i) H1
 | _=>False
def qpo {e:Expr} {te:TE} (h:PE X e te):PO X (some e) (AJ te):=by
 intro π s σ H Q I q;refine evalPart_some_step (aC (h π s σ H _ I q) fun v s1 ⟨x,H1,I1,r1,q1⟩=>?_);have q1':∃ i,x=.int i/\Q (some i) H1:=by
  dsimp only at q1;split at q1
  ·exact ⟨_,rfl,q1⟩
  ·exact q1.elim
 obtain ⟨i,rfl,z1⟩:=q1';obtain ⟨t,rfl⟩:=r1;exact ⟨some i,H1,I1,.int i t,z1⟩
def Co:rR:=fun o i v H Q=>match o,i with
 | .ref p,.int k=>match H p with
  | some (.lst xs)=>(match fC xs.length k with
   | some j=>Q (upd H p (.lst (xs.set j v)))
   | none=>False)
  | _=>False
 | _,_=>False
def Aa:xH X Co:=by
 intro π s σ H o i v ov iv u Q I ro ri rv h;refine set_list π s σ H o i v ov iv u Q I ro ri rv ?_;unfold Co at h;split at h
 ·split at h
  ·rename_i xs h1;split at h
   ·rename_i j h2;exact ⟨_,xs,_,j,rfl,rfl,h1,h2,h⟩
   ·exact h.elim
  ·exact h.elim
 ·exact h.elim
def eG.imp {id:String} {r r':V->List V->Hp->VK->Prop} (h:eG X id r) (i:∀ x xs H Q,r' x xs H Q->r x xs H Q):eG X id r':=fun π s σ H x xs v us Q I rx rv q=>h π s σ H x xs v us Q I rx rv (i x xs H Q q)
def nE:V->List V->Hp->VK->Prop:=fun x vs H Q=>match x,vs with
 | .ref l,[y]=>match H l with
  | some (.lst xs)=>xs.length < sizeLine/\Q .aw (upd H l (.lst (xs++[y])))
  | _=>False
 | _,_=>False
def dW:eG X "list.append" nE:=eG.imp Wn fun x xs H Q h=>by
 unfold nE at h;split at h
 ·split at h
  ·rename_i zs h1;exact ⟨_,zs,_,rfl,rfl,h1,h.1,h.2⟩
  ·exact h.elim
 ·exact h.elim
def VF:V->List V->Hp->VK->Prop:=fun x vs H Q=>match x,vs with
 | .ref l,[.ref b]=>match H l,H b with
  | some (.lst xs),some (.lst zs)=>xs.length+zs.length<=sizeLine/\Q .aw (upd H l (.lst (xs++zs)))
  | _,_=>False
 | _,_=>False
def clsName (H:Hp):V->Option String
 | .aw=>some "NoneType"
 | .bl _=>some "bool"
 | .int _=>some "int"
 | .str _=>some "str"
 | .ref p=>match H p with
  | some (.lst _)=>some "list"
  | some (.tup _)=>some "tuple"
  | some (.dK _)=>some "dict"
  | _=>none
 | _=>none
def vE (T n:String):Bool:=T == n || (T == "bool" && n == "int")
def VA {K:ν} {H:Hp} {x:V} {T:String} (h:clsName H x=some T):fP K H x (.type T)/\T∈["NoneType","bool","int","str","list","tuple","dict"]:=by
 unfold clsName at h;split at h
 ·cases h;exact ⟨.aw,by simp⟩
 ·cases h;exact ⟨.bl _,by simp⟩
 ·cases h;exact ⟨.int _,by simp⟩
 ·cases h;exact ⟨.str _,by simp⟩
 ·split at h
  ·rename_i e;cases h;exact ⟨.lst e,by simp⟩
  ·rename_i e;cases h;exact ⟨.tup e,by simp⟩
  ·rename_i e;cases h;exact ⟨.dK e,by simp⟩
  ·cases h
 ·cases h
def Wu (K:ν):∀ T,T∈["NoneType","bool","int","str","list","tuple","dict"]->∀ n,n∈["bool","int","str","list","tuple","dict"]->W.kitOne K (.type T) (.type n)=some (vE T n):=by
 intro T hT n hn;simp only [pi,List.mem_nil_iff,AC] at hT hn;rcases hT with rfl | rfl | rfl | rfl | rfl | rfl | rfl <;> rcases hn with rfl | rfl | rfl | rfl | rfl | rfl <;> kernel_rfl
def Dc:List V->Hp->VK->Prop:=fun xs H Q=>match xs with
 | [x,.ty n]=>n∈["bool","int","str","list","tuple","dict"]/\match clsName H x with
  | some T=>Q (.bl (vE T n)) H
  | none=>False
 | _=>False
def iG:dz X (.builtin "isinstance") Dc:=ZG.imp fun xs H Q h=>by
 unfold Dc at h;split at h
 ·rename_i x n;obtain ⟨hn,h⟩:=h;split at h
  ·rename_i T e;obtain ⟨h1,h2⟩:=VA (K:=X.K) e;exact ⟨_,_,.inl ⟨_,rfl⟩,h1,Wu _ T h2 n hn,h⟩
  ·exact h.elim
 ·exact h.elim
def Cm (r:V->List V->Hp->VK->Prop) (to:TE) (t:TA):TE:=fun σ H Q=>to σ H fun x H1=>match x with
 | .str z=>t σ H1 fun xs H2=>r (.str z) xs H2 Q
 | _=>False
def nj (r:V->List V->Hp->VK->Prop) (to:TE) (t:TA):TE:=fun σ H Q=>to σ H fun x H1=>match x with
 | .ref l=>(match H1 l with
  | some (.lst _)=>t σ H1 fun xs H2=>r (.ref l) xs H2 Q
  | _=>False)
 | _=>False
section
variable {T:String} {name:Str} {id:String} {r:V->List V->Hp->VK->Prop} {o e:Expr} {es:List Expr} {to:TE} {t:TA} {apos bj:Pos}
def Pg (slot:Slot "str" name id) (cm:typeOf (.builtin id)=pure (.type "method_descriptor")) (hm:eG X id r) (ho:PE X o to) (ha:PA X (e::es) t)
  (hs:(e::es).all noStar=true:=by rfl) (bh:decide ((e::es).length+([]:List Keyword).length+(if ([]:List Keyword).isEmpty then 0 else 1) < 30)=true:=by rfl)
  (ja:attributeBase o name X.env (eval o X.env)=eval o X.env:=by rfl) (jb:(apos.endLine == bj.line)=true:=by rfl) :
  PE X (.Call (.Attribute o name apos) (e::es) [] bj) (Cm r to t):=by
 have hs':=hs;rw [KB,Ch] at hs';have bt:starEach (e::es) X.env=(false,eval e X.env)::starEach es X.env:=fY hs'.1;have D2:(backTo bj (starEach es X.env)).any (·.1)=false:=ir hs'.2;have ED:((backTo bj (starEach (e::es) X.env)).all (fun x=>!x.1) && (backToKw bj (keywordEach [] X.env)).all (fun x=>x.1.isSome)
   && decide ((e::es).length+([]:List Keyword).length+(if ([]:List Keyword).isEmpty then 0 else 1) < 30))=true:=by
  rw [BQ hs,bh];rfl
 intro π s σ H Q I h;refine wpAny_Call_method_late ja ED jb rfl (aC (ho π s σ H _ I h) fun v s1 ⟨x,H1,I1,r1,q1⟩=>?_);dsimp only at q1;split at q1
 ·rename_i z;obtain ⟨h1,h2⟩:=zt (T := "str") I1 r1 rfl;refine ⟨"str",id,PySem.F.plainAttrs_str,slot,cm,h1,h2,?_⟩;have hA:=ha bj π s1 σ H1 _ I1 q1;rw [bt] at hA ⊢;refine UF (by show (false || (backTo bj (starEach es X.env)).any (·.1))=false;rw [D2] <;> rfl) (_e ?_);exact aC hA fun us s2 ⟨vs,H2,I2,r2,q2⟩=>hm π s2 σ H2 (.str z) vs v us Q I2 r1 r2 q2
 ·exact q1.elim
def aaR (slot:Slot "list" name id) (cm:typeOf (.builtin id)=pure (.type "method_descriptor")) (hm:eG X id r) (ho:PE X o to) (ha:PA X (e::es) t)
  (hs:(e::es).all noStar=true:=by rfl) (bh:decide ((e::es).length+([]:List Keyword).length+(if ([]:List Keyword).isEmpty then 0 else 1) < 30)=true:=by rfl)
  (ja:attributeBase o name X.env (eval o X.env)=eval o X.env:=by rfl) (jb:(apos.endLine == bj.line)=true:=by rfl) :
  PE X (.Call (.Attribute o name apos) (e::es) [] bj) (nj r to t):=by
 have hs':=hs;rw [KB,Ch] at hs';have bt:starEach (e::es) X.env=(false,eval e X.env)::starEach es X.env:=fY hs'.1;have D2:(backTo bj (starEach es X.env)).any (·.1)=false:=ir hs'.2;have ED:((backTo bj (starEach (e::es) X.env)).all (fun x=>!x.1) && (backToKw bj (keywordEach [] X.env)).all (fun x=>x.1.isSome)
   && decide ((e::es).length+([]:List Keyword).length+(if ([]:List Keyword).isEmpty then 0 else 1) < 30))=true:=by
  rw [BQ hs,bh];rfl
 intro π s σ H Q I h;refine wpAny_Call_method_late ja ED jb rfl (aC (ho π s σ H _ I h) fun v s1 ⟨x,H1,I1,r1,q1⟩=>?_);dsimp only at q1;split at q1
 ·rename_i l;split at q1
  ·rename_i zs el;obtain ⟨h1,h2⟩:=zt (T := "list") I1 r1 (.inl ⟨rfl,zs,aH.of el⟩);refine ⟨"list",id,PySem.F.plainAttrs_list,slot,cm,h1,h2,?_⟩;have hA:=ha bj π s1 σ H1 _ I1 q1;rw [bt] at hA ⊢;refine UF (by show (false || (backTo bj (starEach es X.env)).any (·.1))=false;rw [D2] <;> rfl) (_e ?_);exact aC hA fun us s2 ⟨vs,H2,I2,r2,q2⟩=>hm π s2 σ H2 (.ref l) vs v us Q I2 r1 r2 q2
  ·exact q1.elim
 ·exact q1.elim
end
def XG {CX:dj} {P:Program} {w:World} {K:ν} {mg:Str->Option Value} {base:Heap} {N:List Str} {qual:Str} {scope:Scope} {f:Addr} {cd:Value} {A:Around} {outer:List Env} {s:Shared} {H:Hp} {E:XK} :
  (c7 CX P w K mg base N qual scope f cd A outer s H E).K=K:=rfl
def ly {α:Type} (a:α) (l:List α):eC (a::l) 0=some a:=lK (j:=0) rfl
def Ga {α:Type} (a b:α) (l:List α):eC (a::b::l) 1=some b:=lK (j:=1) rfl
def GU {α:Type} (a b c:α) (l:List α):eC (a::b::c::l) 2=some c:=lK (j:=2) rfl
def YJ (n:Nat):fC (n+1) 0=some 0:=by
 unfold fC;rw [AT (by decide),AT (by omega)];rfl
def Rc (n:Nat):fC (n+3) 2=some 2:=by
 unfold fC;rw [AT (by decide),AT (by omega)];rfl
def UK {H:Hp} {p b:Addr} {o u:HO} (h:H b=some u) (hp:H p=Option.none):upd H p o b=some u:=by rw [aj (gd h hp)];exact h
def du:bootBuiltins "isinstance" = some (.builtin "isinstance"):=by decide +kernel
def Dn:bootBuiltins "all" = some (.builtin "all"):=by decide +kernel
def jX:bootBuiltins "str" = some (.type "str"):=by decide +kernel
def Se:bootBuiltins "bool" = some (.type "bool"):=by decide +kernel
def ac0:bootBuiltins "int" = some (.type "int"):=by decide +kernel
def acT:bootBuiltins "list" = some (.type "list"):=by decide +kernel
def WR:bootBuiltins "ValueError" = some (.type "ValueError"):=by decide +kernel
end
abbrev LF (ifs:List Expr) (env:Env):Sem Bool:=forIn ifs true fun c r=>if r=true then do let ok <- isTrue c env (eval c env);pure (ForInStep.yield ok) else pure (ForInStep.yield r)
section
variable {prog:Program} {w:World} {A:Around} {R:Result->Shared->Prop} {s:Shared}
def QJ {elt tg iter:Expr} {ifs:List Expr} {scope:Scope} {pos:Pos} {it acc:Value} {env:Env} (J:Nat->Shared->Prop) (hN:∀ e s',notedBy (model prog w) A env (fun e s'=>R (.error e) s') e s'->True)
  (turn:∀ n s,J n s->wpAny (model prog w) A (pyNext it) (fun r s1=>match r with
   | none=>R (.ok .next) s1
   | some v=>wpAny (model prog w) A (letOwnedTupleGo tg it v) (fun _ s2=>wpAny (model prog w) A (assign tg env v) (fun _ s3=>wpAny (model prog w) A (LF ifs env)
     (fun ok s4=>if ok=true then wpAny (model prog w) A (eval elt env) (fun x s5=>wpAny (model prog w) A (call (.builtin "list.append") [acc,x]) (fun _ s6=>∃ m,m < n/\J m s6) (fun _ _=>False) s5) (fun _ _=>False) s4
      else ∃ m,m < n/\J m s4) (fun _ _=>False) s3) (fun _ _=>False) s2) (fun _ _=>False) s1) (fun _ _=>False) s)
  (n:Nat) (h:J n s):codeAny (model prog w) A (.compLoop (.ListComp elt [⟨tg,iter,ifs,0⟩] scope pos) 0 it acc env) R s:=by
 have no:∀ {E:Value->Shared->Prop} (e:Value) (s':Shared),False->E e s':=fun _ _ z=>z.elim;refine codeAny_loop rfl J (fun n s hI=>?_) n h;refine (show wpAny _ A (Sem.onRaise (compTurn (.ListComp elt [⟨tg,iter,ifs,0⟩] scope pos) 0 it acc env) (fun x=>do noteFrame x env;theTreesLotGoes x)) _ _ s from ?_);refine wpAny_noted ?_;rw [compTurn_list];refine lv (_1 (lv (GT (turn n s hI) (fun r s1 q1=>?_) no)));cases r with
 | none=>exact sw q1
 | some v =>
  refine lv (GT q1 (fun _ s2 q2=>lv (GT q2 (fun _ s3 q3=>lv (GT q3 (fun ok s4 q4=>?_) no)) no)) no);cases ok with
  | false=>exact sw ⟨rfl,q4⟩
  | true=>exact lv (lv (GT q4 (fun x s5 q5=>lv (GT q5 (fun _ s6 q6=>sw (sw ⟨rfl,q6⟩)) no)) no))
end
def nq (X:Cx) (ifs:List Expr) (t:TT):Prop :=
 ∀ (π:List (Addr×Obj)) (s:Shared) (σ:St) (H:Hp) (Q:Bool->Hp->Prop),Inv X π σ H s->t σ H Q->wpAny (model X.prog X.w) X.A (LF ifs X.env) (TP X π σ Q) X.xe s
def xq:TT:=fun _ H Q=>Q true H
def Wl {X:Cx}:nq X [] xq:=fun _ _ _ H _ I h=>wpAny_tests_nil ⟨H,I,h⟩
def SJ {X:Cx} {c:Expr} {t:TT} (h:PT X c t):nq X [c] t:=fun π s σ H Q I q=>wpAny_tests_one (h π s σ H Q I q)
def wV (wi:TI) (tt:TT) (te:TE):TE:=fun σ H Q=>wi σ H fun J H1=>∃ W:Nat->List V->Nat->Hp->Prop,(∃ m,W 0 [] m H1)/\∀ i ys m H,W i ys m H ->
 ys.length<=sizeLine/\((J.stop i H/\∀ l,H l=none->Q (.ref l) (upd H l (.lst ys))) \/
  (J.go i H/\ys.length < sizeLine/\∀ y H',J.kC i H y H'->tt [some y] H' fun c H2=>if c=true then te [some y] H2 fun z H3=>∃ m',m' < m/\W (i+1) (ys++[z]) m' H3 else ∃ m',m' < m/\W (i+1) ys m' H2))
section
variable {X:Cx}
structure C3 (X:Cx) (π:List (Addr×Obj)) (H:Hp) (C:Addr):Prop where
 fr:H C=none
 nl:C≠X.env.locals
 ab:X.s₀.heap.objs.size<=C
 nc:∀ x c,X.env.cells.lookup x=some c->c≠C
 np:∀ p∈X.pn++π,p.1≠C
def C3.go {π:List (Addr×Obj)} {σ:St} {H:Hp} {s:Shared} {C:Addr} {h':Heap} (o:C3 X π H C) (I:Inv X π σ H s) (hs:Heap.SameBut C s.heap h'):Inv X π σ H { s with heap:=h' } :=
 I.turned (t':=s.toks) (fun b ob hb e=>(hs.2 b hb).trans e) o.fr o.nl (.inr o.ab) o.nc o.np
end
def cg (st:Addr) (H H':Hp):Prop:=∀ c o,c≠st->H c=some o->H' c=some o
def cg.trans {st:Addr} {H H1 H2:Hp} (a:cg st H H1) (b:cg st H1 H2):cg st H H2:=fun c o n e=>b c o n (a c o n e)
def ag.upd {H:Hp} {p:Addr} {o:HO} (h:H p=Option.none):ag H (upd H p o):=fun b u e=>by rw [aj (gd e h)];exact e
def ag.keep {H H':Hp} (h:ag H H') (st:Addr):cg st H H':=fun c o _ e=>h c o e
def cg.upd {H:Hp} {p:Addr} {o:HO}:cg p H (upd H p o):=fun c u n e=>by rw [aj n];exact e
def cg.same {H H1 H':Hp} {st:Addr} (a:ag H H1) (h:H st=Option.none) (k:cg st H1 H'):ag H H':=fun c o e=>k c o (gd e h) (a c o e)
def mP:V->Bool
 | .str _=>true
 | _=>false
def mE (t:TE):TE:=fun σ H Q=>∃ M:VK,t σ H M/\∀ v H1,M v H1->Q v H1
def mA (t:TA):TA:=fun σ H Q=>∃ M:List V->Hp->Prop,t σ H M/\∀ v H1,M v H1->Q v H1
def PE.m {X:Cx} {e:Expr} {t:TE} (h:PE X e t):PE X e (mE t):=fun π s σ H Q I ⟨M,h1,h2⟩=>aC (h π s σ H M I h1) fun _ _ ⟨v,H1,I1,r,q⟩=>⟨v,H1,I1,r,h2 v H1 q⟩
def PA.m {X:Cx} {e:List Expr} {t:TA} (h:PA X e t):PA X e (mA t):=fun pos π s σ H Q I ⟨M,h1,h2⟩=>aC (h pos π s σ H M I h1) fun _ _ ⟨v,H1,I1,r,q⟩=>⟨v,H1,I1,r,h2 v H1 q⟩
def PI.imp {X:Cx} {tg it:Expr} {t t':TI} (h:PI X tg it t) (i:∀ σ H R,t' σ H R->t σ H R):PI X tg it t':=fun π s σ H R I hw=>h π s σ H R I (i σ H R hw)
def By (ta:TA):TI:=fun σ H R=>ta σ H fun vs H1=>match vs with
 | [.int j]=>(-(2 ^ 62)<=j/\j < 2 ^ 62)/\R (kN 0 j.toNat) H1
 | _=>False
def Pr {X:Cx} {tg a:Expr} {ta:TA} {p pos:Pos} (hg:Gl X "range") (hm:X.mg "range" = none) (ha:PA X [a] ta) (hs:starEach [a] X.env=[(false,eval a X.env)]:=by rfl):PI X tg (.Call (.Name "range" p) [a] [] pos) (By ta) :=
 (QL hg hm ha.m hs).imp fun σ H R h=>⟨_,h,fun vs H1 z=>by
  split at z
  ·exact ⟨_,rfl,z.1.1,z.1.2,z.2⟩
  ·exact z.elim⟩
def Di (K:ν) (tl:TE):TI:=fun σ H R=>tl σ H fun x H1=>match x with
 | .ref a=>(∃ xs,aH K H1 a xs)/\R (jY K a) H1
 | _=>False
def adM {X:Cx} {tg l:Expr} {tl:TE} (hl:PE X l tl):PI X tg l (Di X.K tl):=(Vm hl.m).imp fun σ H R h=>⟨_,h,fun x H1 z=>by
  split at z
  ·exact ⟨_,rfl,z.1,z.2⟩
  ·exact z.elim⟩
def BN (J:It) (g:TG) (tb:TS) (D:Ends) (σ:St) (H1:Hp):Prop:=∃ W:Nat->Nat->St->Hp->Prop,(∃ m,W 0 m σ H1)/\∀ i m σ H,W i m σ H ->
 (J.stop i H/\D.nx σ H)\/(J.go i H/\∃ N:St->Hp->Prop,(∀ σ' H',N σ' H'->∃ m',m' < m/\W (i+1) m' σ' H')/\∀ x H',J.kC i H x H'->g x σ H' fun σ2 H2=>tb { D with nx:=N,ct:=N,bk:=D.nx } σ2 H2)
def QN {wi:TI} {g:TG} {tb:TS} {D:Ends} {σ:St} {H:Hp}:zg wi g tb D σ H=wi σ H fun J H1=>BN J g tb D σ H1:=rfl
def WZ {lo:Int} {n:Nat} {g:TG} {tb:TS} {D:Ends} {σ:St} {H:Hp} (Pv:Nat->St->Hp->Prop) (h0:Pv 0 σ H)
  (hs:∀ i σ H,i < n->Pv i σ H->g (.int (lo+i)) σ H fun σ2 H2=>tb { D with nx:=Pv (i+1),ct:=Pv (i+1),bk:=D.nx } σ2 H2) (hd:∀ σ H,Pv n σ H->D.nx σ H):BN (kN lo n) g tb D σ H:=Zr Pv h0 hs hd
def Gf {K:ν} {a:Addr} {xs:List V} {g:TG} {tb:TS} {D:Ends} {σ:St} {H:Hp} (Pv:Nat->St->Hp->Prop) (h0:Pv 0 σ H) (hl:∀ i σ H,i<=xs.length->Pv i σ H->aH K H a xs)
  (hs:∀ i x σ H,xs[i]?=some x->Pv i σ H->g x σ H fun σ2 H2=>tb { D with nx:=Pv (i+1),ct:=Pv (i+1),bk:=D.nx } σ2 H2) (hd:∀ σ H,Pv xs.length σ H->D.nx σ H):BN (jY K a) g tb D σ H:=Wz Pv h0 hl hs hd
def fits {n:Nat} (h:n<=1000):n<=sizeLine:=Ja6 (Ja h)
def lh {n:Nat} (h:n<=1000):n < sizeLine:=Ja h
def kH (t u:TS):TS:=fun D σ H=>∃ P:St->Hp->Prop,t { D with nx:=P } σ H/\∀ σ' H',P σ' H'->u D σ' H'
def ZZ {X:Cx} {st:Stmt} {rest:List Stmt} {t u:TS} (h1:PS X st t) (h2:dv X rest u):dv X (st::rest) (kH t u):=by
 intro π s σ H D I h;obtain ⟨P,ht,hu⟩:=h;have h1':PS X st (fun D' σ' H'=>D'={ D with nx:=P }/\t D' σ' H'):=h1.imp fun _ _ _ z=>z.2;have h2':dv X rest (fun D' σ' H'=>P σ' H'/\D'=D):=fun π s σ H D' I z=>by
  obtain ⟨z1,rfl⟩:=z;exact h2 π s σ H D' I (hu σ H z1)
 refine Ru (t:=fun D' σ' H'=>t { D with nx:=P } σ' H'/\D'.rt=D.rt/\D'.bk=D.bk/\D'.ct=D.ct/\∀ σ'' H'',P σ'' H''->D'.nx σ'' H'') (u:=fun D' σ' H'=>P σ' H'/\D'=D) ?_ h2' π s σ H D I ⟨ht,rfl,rfl,rfl,fun σ'' H'' z=>⟨z,rfl⟩⟩;intro π s σ H D' I z;obtain ⟨z1,z2,z3,z4,z5⟩:=z;refine aC (h1 π s σ H { D with nx:=P } I z1) fun f s' hq=>?_;cases f with
 | next=>obtain ⟨σ',H',I',q⟩:=hq;exact ⟨σ',H',I',z5 _ _ q⟩
 | brk=>obtain ⟨σ',H',I',q⟩:=hq;exact ⟨σ',H',I',by rw [z3];exact q⟩
 | cont=>obtain ⟨σ',H',I',q⟩:=hq;exact ⟨σ',H',I',by rw [z4];exact q⟩
 | ret u=>obtain ⟨v,σ',H',I',r,q⟩:=hq;exact ⟨v,σ',H',I',r,by rw [z2];exact q⟩
def ai {t u:TS} {D:Ends} {σ:St} {H:Hp} (h:t { D with nx:=u D } σ H):kH t u D σ H:=⟨u D,h,fun _ _ z=>z⟩
def aX {t u:TS} {D:Ends} {σ:St} {H:Hp} (P:St->Hp->Prop) (h1:t { D with nx:=P } σ H) (h2:∀ σ' H',P σ' H'->u D σ' H'):kH t u D σ H:=⟨P,h1,h2⟩
def nk {H:Hp} {x:V} {T:String} (h:clsName H x=some T):vE T "str" = mP x:=by
 unfold clsName at h;split at h
 ·cases h;rfl
 ·cases h;rfl
 ·cases h;rfl
 ·cases h;rfl
 ·split at h
  ·cases h;rfl
  ·cases h;rfl
  ·cases h;rfl
  ·cases h
 ·cases h
def aaB (H:Hp) (z:Str):clsName H (.str z)=some "str" := rfl
def Z6 (H:Hp) (z:Bool):clsName H (.bl z)=some "bool" := rfl
def abT (H:Hp) (z:Int):clsName H (.int z)=some "int" := rfl
def P6 (H:Hp):clsName H .aw=some "NoneType" := rfl
def nN {H:Hp} {p:Addr} {xs:List V} (h:H p=some (.lst xs)):clsName H (.ref p)=some "list" := by simp only [clsName,h]
def abL {H:Hp} {p:Addr} {xs:List V} (h:H p=some (.tup xs)):clsName H (.ref p)=some "tuple" := by simp only [clsName,h]
def iD {H H':Hp} {x:V} {T:String} (e:ag H H') (h:clsName H x=some T):clsName H' x=some T:=by
 unfold clsName at h ⊢;split at h
 ·exact h
 ·exact h
 ·exact h
 ·exact h
 ·split at h
  ·rename_i q;simp only [e _ _ q];exact h
  ·rename_i q;simp only [e _ _ q];exact h
  ·rename_i q;simp only [e _ _ q];exact h
  ·cases h
 ·cases h
def jS (n:String) (h:["bool","int","str","list","tuple","dict"].contains n=true):n∈["bool","int","str","list","tuple","dict"]:=by simpa using h
def vG (K:ν):R2:=fun x y H Q=>match y with
 | .ref p=>∃ xs,(aH K H p xs\/bT K H p xs)/\cU x=true/\xs.all cU=true/\Q (.bl (dX x xs)) H
 | _=>False
def adj {X:Cx}:aZ X (compareOp .In) (vG X.K):=GK.imp fun x y H Q h=>by
 unfold vG at h;split at h
 ·obtain ⟨xs,h1,h2,h3,h4⟩:=h;exact ⟨_,xs,rfl,h1,h2,h3,h4⟩
 ·exact h.elim
section
variable {X:Cx} {K:ν}
def md (h:X.K=K):aZ X (compareOp .In) (xh K):=h ▸ S5
def qB (h:X.K=K):aZ X (compareOp .In) (vG K):=h ▸ adj
def gN (h:X.K=K):dz X (.builtin "len") (vi K):=h ▸ YL
def As (h:X.K=K) (hc:X.calm=true):dz X (.builtin "all") (xo K):=h ▸ RU hc
def bI (h:X.K=K):fM X (pO K):=h ▸ qx
def yY (h:X.K=K):jJ X (wF K):=h ▸ Zy
def O4 (h:X.K=K):eG X "str.join" (rJoin K):=h ▸ QZ
end
def tG (J:It) (tt:TT) (te:TE) (Q:VK) (H0:Hp):Prop:=∃ W:Nat->List V->Nat->Hp->Prop,(∃ m,W 0 [] m H0)/\∀ i ys m H,W i ys m H ->
 ys.length<=sizeLine/\((J.stop i H/\∀ l,H l=none->Q (.ref l) (upd H l (.lst ys))) \/
  (J.go i H/\ys.length < sizeLine/\∀ y H',J.kC i H y H'->tt [some y] H' fun c H2=>if c=true then te [some y] H2 fun z H3=>∃ m',m' < m/\W (i+1) (ys++[z]) m' H3 else ∃ m',m' < m/\W (i+1) ys m' H2))
def Ku {wi:TI} {tt:TT} {te:TE} {σ:St} {H:Hp} {Q:VK}:wV wi tt te σ H Q=wi σ H fun J H1=>tG J tt te Q H1:=rfl
def Sj {z:Str} {te:TE} {H:Hp} {Q:VK} (f:Nat->V) (hz:z.length<=sizeLine)
  (he:∀ c,c∈z.cps.toList->∀ H1,ag H H1->∀ R:VK,(∀ H2,ag H1 H2->R (f c) H2)->te [some (.str ⟨#[c]⟩)] H1 R)
  (q:∀ H1,ag H H1->∀ l,H1 l=none->Q (.ref l) (upd H1 l (.lst (z.cps.toList.map f)))):tG (wR z) xq te Q H:=by
 have hl:z.cps.toList.length=z.length:=by simp [Str.length]
 refine ⟨fun i ys m H1=>ag H H1/\ys=(z.cps.toList.take i).map f/\i<=z.length/\m=z.length - i,⟨_,ag.refl H,rfl,Do _,rfl⟩,?_⟩;rintro i ys m H1 ⟨s1,rfl,hi,rfl⟩;have hlen:((z.cps.toList.take i).map f).length=i:=by rw [pp,Wp,hl];omega
 refine ⟨by rw [hlen];omega,?_⟩;by_cases h:i < z.length
 ·refine .inr ⟨h,by rw [hlen];omega,?_⟩;rintro y H' ⟨rfl,c,hc,rfl⟩;have EE:z.cps.toList[i]?=some c:=by simpa using hc
  simp only [xq,Ja8];refine he c (KM EE) H' s1 _ fun H2 s2=>⟨_,?_,s1.trans s2,?_,h,rfl⟩
  ·omega
  ·rw [List.take_add_one,EE,NE];rfl
 ·have M9:i=z.length:=by omega
  refine .inl ⟨Nat.le_of_eq M9.symm,fun l hl'=>?_⟩;have:=q H1 s1 l hl';rw [List.take_of_length_le (by rw [hl];omega)];exact this
def wo {K:ν} {a:Addr} {xs:List V} {tt:TT} {te:TE} {H:Hp} {Q:VK} (p:V->Bool) (f:V->V) (DX:aH K H a xs) (hz:xs.length<=sizeLine)
  (ht:∀ x,x∈xs->∀ H1,ag H H1->∀ R:Bool->Hp->Prop,(∀ H2,ag H1 H2->R (p x) H2)->tt [some x] H1 R)
  (he:∀ x,x∈xs->p x=true->∀ H1,ag H H1->∀ R:VK,(∀ H2,ag H1 H2->R (f x) H2)->te [some x] H1 R)
  (q:∀ H1,ag H H1->∀ l,H1 l=none->Q (.ref l) (upd H1 l (.lst ((xs.filter p).map f)))):tG (jY K a) tt te Q H:=by
 refine ⟨fun i ys m H1=>ag H H1/\ys=((xs.take i).filter p).map f/\i<=xs.length/\m=xs.length - i,⟨_,ag.refl H,rfl,Do _,rfl⟩,?_⟩;rintro i ys m H1 ⟨s1,rfl,hi,rfl⟩;have hlen:(((xs.take i).filter p).map f).length<=i:=by
  rw [pp];refine wE (SC _ _) ?_;rw [Wp];omega
 refine ⟨by omega,?_⟩;by_cases h:i < xs.length
 ·have hx:xs[i]?=some xs[i]:=mo h;refine .inr ⟨⟨xs,xs[i],s1.seq DX,hx⟩,by omega,?_⟩;rintro y H' ⟨rfl,hy⟩;have Od:xs[i]?=some y:=hy xs (s1.seq DX);have hm:y∈xs:=KM Od;have e1:(xs.take (i+1)).filter p=(xs.take i).filter p++(if p y=true then [y] else []):=by
   rw [List.take_add_one,Od,_R];by_cases hp:p y=true
   ·simp [hp]
   ·simp [hp]
  refine ht y hm H' s1 _ fun H2 s2=>?_;by_cases hp:p y=true
  ·rw [AT hp];refine he y hm hp H2 (s1.trans s2) _ fun H3 s3=>⟨_,?_,(s1.trans s2).trans s3,?_,h,rfl⟩
   ·omega
   ·rw [e1,AT hp,NE];rfl
  ·rw [zn hp];refine ⟨_,?_,s1.trans s2,?_,h,rfl⟩
   ·omega
   ·rw [e1,zn hp,_7]
 ·have M9:i=xs.length:=by omega
  refine .inl ⟨⟨xs,s1.seq DX,by omega⟩,fun l hl'=>?_⟩;have:=q H1 s1 l hl';rw [List.take_of_length_le (by omega)];exact this
structure QE (X:Cx) (e:Expr) (t:TE):Prop where
 h:PE X e t
structure QA (X:Cx) (e:List Expr) (t:TA):Prop where
 h:PA X e t
structure QT (X:Cx) (e:Expr) (t:TT):Prop where
 h:PT X e t
structure QW (X:Cx) (e:Expr) (t:TT):Prop where
 h:PW X e t
structure QS (X:Cx) (e:Stmt) (t:TS):Prop where
 h:PS X e t
structure QB (X:Cx) (e:List Stmt) (t:TS):Prop where
 h:dv X e t
structure QI (X:Cx) (tg it:Expr) (t:TI):Prop where
 h:PI X tg it t
structure QG (X:Cx) (e:Expr) (t:TG):Prop where
 h:PG X e t
structure wc (X:Cx) (e:List Expr) (t:j0):Prop where
 h:sZ X e t
structure oG (X:Cx) (e:List Expr) (t:TT):Prop where
 h:nq X e t
structure QO (X:Cx) (e:Option Expr) (t:TO):Prop where
 h:PO X e t
structure QP (X:Cx) (pos:Pos) (ks:List (Option Expr)) (vs:List Expr) (t:List (TE×TE)):Prop where
 h:sL X pos ks vs t
namespace Dv
section
variable {X:Cx} {a b c:Expr} {ta tb tc:TE} {pos:Pos} {rest:List Expr} {tA tB':TT}
def v (i:Nat) {x:Str} {pos:Pos} (hN:X.N[i]?=some x:=by rfl) (hv:mH X.env.scope x:=by first | exact Or.inl rfl | exact Or.inr (Or.inl rfl) | exact Or.inr (Or.inr rfl)) (hd:(x == ("__debug__":Str))=false:=by decide)
  (aV:(x == ("__classdict__":Str))=false:=by decide):QE X (.Name x pos) (jw i):=⟨qv i hN hv hd aV⟩
def int {i j pos}:QE X (.Constant (.int i) j pos) (tC (.int i)):=⟨abS⟩
def bl {b j pos}:QE X (.Constant (.bool b) j pos) (tC (.bl b)):=⟨acL⟩
def aw {j pos}:QE X (.Constant .none j pos) (tC .aw):=⟨Ym⟩
def str {x j pos}:QE X (.Constant (.str x) j pos) (tC (.str x)):=⟨Xk⟩
def glob {x:Str} (v:V) {u:Value} {pos:Pos} (hm:X.mg x=some u) (r:RelV v u) (hg:Gl X x:=by rfl) (hd:(x == ("__debug__":Str))=false:=by decide):QE X (.Name x pos) (tC v):=⟨O2 hg hm r hd⟩
def gY {x:Str} (v:V) {u:Value} {pos:Pos} (hm:X.mg x=none) (hv:bootBuiltins x=some u) (r:RelV v u) (hg:Gl X x:=by rfl) (hn:x ≠ "__name__" := by decide) (hd:(x == ("__debug__":Str))=false:=by decide):QE X (.Name x pos) (tC v):=⟨Wb hg hm hv r hn hd⟩
def op {o:Operator} {r:R2} (ho:aZ X (binaryOp o) r) (ha:QE X a ta) (hb:QE X b tb):QE X (.BinOp a o b pos) (iU r ta tb):=⟨aa5 ho ha.h hb.h⟩
def un {o:UnaryOp} {r:V->Hp->VK->Prop} (ho:tw X (unaryOp o) r) (ha:QE X a ta):QE X (.UnaryOp o a pos) (yV r ta):=⟨VS ho ha.h⟩
def cmp {o:CmpOp} {r:R2} (ho:aZ X (compareOp o) r) (ha:QE X a ta) (hb:QE X b tb) (hm:behindInMarks o b=false:=by first | exact wB _ (by decide) (by decide) | rfl):QE X (.Compare a [o] [b] pos) (iU r ta tb):=⟨Vo ho ha.h hb.h hm⟩
def pH (ha:QE X a ta) (hb:QE X (.BoolOp .And (b::rest) pos) tb):QE X (.BoolOp .And (a::b::rest) pos) (zr ta tb):=⟨O6 ha.h hb.h⟩
def QQ (ha:QE X a ta) (hb:QE X (.BoolOp .Or (b::rest) pos) tb):QE X (.BoolOp .Or (a::b::rest) pos) (CM ta tb):=⟨Vq ha.h hb.h⟩
def one {o} {t:TE} (h:QE X a t):QE X (.BoolOp o [a] pos) t:=⟨Po h.h⟩
def adz (ha:QE X a ta):QE X (.UnaryOp .Not a pos) (BR ta):=⟨aba ha.h⟩
def ae:QA X [] iZ:=⟨aad⟩
def aa {e:Expr} {es:List Expr} {te:TE} {t:TA} (ha:QE X e te) (hr:QA X es t) (hs:noStar e=true:=by rfl):QA X (e::es) (mz te t):=⟨YA ha.h hr.h hs⟩
def call {CX:dj} {k:Nat} {f:Addr} {fd:FuncData} {ps:List Str} {sp:Sp} {bu:List V} {ds:List Value} {E:XK} {x:Str} {p pos:Pos} {e:Expr} {es:List Expr} {t:TA}
  (F:aq X.prog X.w X.K X.mg X.base CX k f fd ps sp) (hr:bc k X.A) (hm:X.mg x=some (.ref f)) (hk:W.keepIn X.K (.ref f)=true) (hb:Binds X.K fd ps ds) (hd:Vals bu ds) (hx:Passes CX X E)
  (ha:QA X (e::es) t) (hg:Gl X x:=by rfl) (hs:(e::es).all noStar=true:=by rfl) (bM:(x == ("__debug__":Str))=false:=by decide):QE X (.Call (.Name x p) (e::es) [] pos) (wa sp bu E t):=⟨Ts F hr hg hm hk hb hd hx ha.h hs bM⟩
def bJ {x:Str} {p pos:Pos} {e:Expr} {es:List Expr} {t:TA} {id:String} {r:List V->Hp->VK->Prop} (hc:dz X (.builtin id) r) (hm:X.mg x=none) (hv:bootBuiltins x=some (.builtin id)) (ha:QA X (e::es) t)
  (hg:Gl X x:=by rfl) (hs:(e::es).all noStar=true:=by rfl) (hn:x ≠ "__name__" := by decide) (bM:(x == ("__debug__":Str))=false:=by decide):QE X (.Call (.Name x p) (e::es) [] pos) (oy r t):=⟨Ud hc hg hm hv ha.h hs hn bM⟩
def Ur {x:Str} {p pos:Pos} {e:Expr} {es:List Expr} {t:TA} {T:String} {r:List V->Hp->VK->Prop} (hc:dz X (.type T) r) (hm:X.mg x=none) (hv:bootBuiltins x=some (.type T)) (ha:QA X (e::es) t)
  (hg:Gl X x:=by rfl) (hs:(e::es).all noStar=true:=by rfl) (hn:x ≠ "__name__" := by decide) (bM:(x == ("__debug__":Str))=false:=by decide):QE X (.Call (.Name x p) (e::es) [] pos) (oy r t):=⟨Xr hc hg hm hv ha.h hs hn bM⟩
section
variable {name:Str} {id:String} {r:V->List V->Hp->VK->Prop} {o e:Expr} {es:List Expr} {to:TE} {t:TA} {apos bj:Pos}
def ot (slot:Slot "str" name id) (cm:typeOf (.builtin id)=pure (.type "method_descriptor")) (hm:eG X id r) (ho:QE X o to) (ha:QA X (e::es) t)
  (hs:(e::es).all noStar=true:=by rfl) (bh:decide ((e::es).length+([]:List Keyword).length+(if ([]:List Keyword).isEmpty then 0 else 1) < 30)=true:=by rfl)
  (ja:attributeBase o name X.env (eval o X.env)=eval o X.env:=by rfl) (jb:(apos.endLine == bj.line)=true:=by rfl):QE X (.Call (.Attribute o name apos) (e::es) [] bj) (Cm r to t):=⟨Pg slot cm hm ho.h ha.h hs bh ja jb⟩
def dU (slot:Slot "list" name id) (cm:typeOf (.builtin id)=pure (.type "method_descriptor")) (hm:eG X id r) (ho:QE X o to) (ha:QA X (e::es) t)
  (hs:(e::es).all noStar=true:=by rfl) (bh:decide ((e::es).length+([]:List Keyword).length+(if ([]:List Keyword).isEmpty then 0 else 1) < 30)=true:=by rfl)
  (ja:attributeBase o name X.env (eval o X.env)=eval o X.env:=by rfl) (jb:(apos.endLine == bj.line)=true:=by rfl):QE X (.Call (.Attribute o name apos) (e::es) [] bj) (nj r to t):=⟨aaR slot cm hm ho.h ha.h hs bh ja jb⟩
end
def Ab:QO X none BM:=⟨acE⟩
def Cb (h:QE X a ta):QO X (some a) (AJ ta):=⟨qpo h.h⟩
def slice {r:V->Option Int->Option Int->Hp->VK->Prop} {lo hi:Option Expr} {tl th:TO} {p2:Pos} (hr:jJ X r) (he:QE X a ta) (hl:QO X lo tl) (hu:QO X hi th):QE X (.Subscript a (.Slice lo hi none p2) pos) (zf r ta tl th):=⟨aaH hr he.h hl.h hu.h⟩
def ix {r:R2} (hr:fM X r) (ha:QE X a ta) (hb:QE X b tb) (hs:HH b:=by intro _ _;rfl):QE X (.Subscript a b pos) (iU r ta tb):=⟨TZ hr ha.h hb.h hs⟩
def lst {es:List Expr} {t:TA} (h:QA X es t):QE X (.List es pos) (zu t):=⟨Pw h.h⟩
def tup {es:List Expr} {x1} {t:TA} (h:QA X es t):QE X (.Tuple es x1 pos) (zh t):=⟨abK h.h⟩
def ou:QE X (.Dict [] [] pos) wU:=⟨Qj⟩
def T8:QP X pos [] [] []:=⟨ZC⟩
def U9 {k v:Expr} {ks:List (Option Expr)} {vs:List Expr} {tk tv:TE} {gq:List (TE×TE)} (hk:QE X k tk) (hv:QE X v tv) (hr:QP X pos ks vs gq):QP X pos (some k::ks) (v::vs) ((tk,tv)::gq):=⟨Uz hk.h hv.h hr.h⟩
def Yb {keys:List (Option Expr)} {values:List Expr} {gq:List (TE×TE)} (h:QP X pos keys values gq) (iP:keys.all (·.isSome)=true:=by rfl) (hl:keys.length=values.length:=by rfl) (h0:keys≠[]:=by simp) (Em:keys.length<=15:=by decide) :
  QE X (.Dict keys values pos) (L7 gq):=⟨acW h.h iP hl h0 Em⟩
def bw {o:CmpOp} {r:R2} (ho:aZ X (compareOp o) r) (ha:QE X a ta) (hb:QE X b tb) (hm:behindInMarks o b=false:=by first | exact wB _ (by decide) (by decide) | rfl):QT X (.Compare a [o] [b] pos) (ju (iU r ta tb)):=⟨RG ho ha.h hb.h hm⟩
def xj {o o':CmpOp} {f g:Int->Int->Bool} (ho:aZ X (compareOp o) (jW f)) (ho':aZ X (compareOp o') (jW g)) (ha:QE X a ta) (hb:QE X b tb) (hc:QE X c tc)
  (hm:lastMarks [o,o'] [b,c]=false:=by with_unfolding_all rfl):QT X (.Compare a [o,o'] [b,c] pos) (yT f g ta tb tc):=⟨ado ho ho' ha.h hb.h hc.h hm⟩
def cO {t:TE} (h:QE X a t) (he:∀ whole,isTrue a X.env whole=(do let v <- whole;standAt a.pos;holding [v] (truthy v)):=by intro _;rfl):QT X a (ju t):=⟨Sk h.h he⟩
def cX (ha:QT X a tA):QT X (.UnaryOp .Not a pos) (A0 tA):=⟨RZ ha.h⟩
def gk (h:QW X a tA):QT X a tA:=⟨h.h.pt⟩
def vM (ha:QT X a tA):QW X (.BoolOp .And [a] pos) tA:=⟨ace ha.h⟩
def i0 (ha:QT X a tA):QW X (.BoolOp .Or [a] pos) tA:=⟨Vi ha.h⟩
def w_and (ha:QT X a tA) (hb:QW X (.BoolOp .And (b::rest) pos) tB'):QW X (.BoolOp .And (a::b::rest) pos) (yF tA tB'):=⟨Px ha.h hb.h⟩
def w_or (ha:QT X a tA) (hb:QW X (.BoolOp .Or (b::rest) pos) tB'):QW X (.BoolOp .Or (a::b::rest) pos) (C6 tA tB'):=⟨Vl ha.h hb.h⟩
variable {st:Stmt} {NW:List Stmt} {t u:TS} {tg:Expr} {g:TG}
def hX (i:Nat) {x:Str} (hN:X.N.Nodup) (hi:X.N[i]?=some x:=by rfl) (hx:Loc X.env.scope x:=by first | exact Or.inl rfl | exact Or.inr rfl) (hf:X.fn x=true\/X.env.scope.names.lookup x=some .local:=by first | exact .inl rfl | exact .inr rfl):QG X (.Name x pos) (fT i):=⟨SU hN hi hx hf⟩
def y2 {o i:Expr} {to ti:TE} {s:rR} (ho:QE X o to) (hi:QE X i ti) (hs:xH X s) (ha:∀ v,assign (.Subscript o i pos) X.env v=(do
   let ov <- holding [v] (eval o X.env)
   let iv <- holding [v,ov] (eval i X.env)
   standAt pos
   holding [v,ov,iv] (setItem ov iv v)
   release [v,ov,iv] []):=by intro _;rfl):QG X (.Subscript o i pos) (z7 to ti s):=⟨Sd ho.h hi.h hs ha⟩
def WL:wc X [] Ck:=⟨aau⟩
def J3 {e:Expr} {es:List Expr} {t:TG} {u:j0} (h1:QG X e t) (h2:wc X es u) (hs:(assignEach (e::es) X.env).map (·.2)=assign e X.env::(assignEach es X.env).map (·.2):=by rfl):wc X (e::es) (BH t u):=⟨adx h1.h h2.h hs⟩
def YZ {K:ν} {es:List Expr} {k:Nat} {t:j0} {n:Nat} (hK:X.K=K) (hc:X.calm=true) (h:wc X es t) (hn:(assignEach es X.env).length=n:=by rfl) (bt:(assignEach es X.env).findIdx? (·.1)=none:=by rfl):QG X (.Tuple es k pos) (Au K n t):=hK ▸ ⟨Yv hc h.h hn bt⟩
def aO (i:Nat) {x:Str} {e:Expr} {te:TE} {pos':Pos} (hN:X.N.Nodup) (he:QE X e te) (hi:X.N[i]?=some x:=by rfl) (hx:Loc X.env.scope x:=by first | exact Or.inl rfl | exact Or.inr rfl) (hs:swapsWith e (some (.Name x pos')) pos.line X.env=pure false:=by rfl)
  (hf:X.fn x=true\/X.env.scope.names.lookup x=some .local:=by first | exact .inl rfl | exact .inr rfl):QS X (.Assign [.Name x pos'] e pos) (mC te (fT i)):=⟨ZJ hN hi hx he.h hs hf⟩
def Cu {e:Expr} {te:TE} (he:QE X e te) (hg:QG X tg g) (hs:swapsWithSole [tg] e pos.line X.env=pure false:=by rfl) (hw:swappedStores [tg] e X.env=pure none:=by rfl) (h1:(assignEach [tg] X.env).map (·.2)=[assign tg X.env]:=by rfl) :
  QS X (.Assign [tg] e pos) (mC te g):=⟨aaK he.h hg.h hs hw h1⟩
def aK (he:QE X a ta):QS X (.Return (some a) pos) (Bc ta):=⟨Ss he.h⟩
def Iz:QS X (.Return none pos) C8:=⟨Py⟩
def aL (he:QE X a ta) (hs:swapsWith a none pos.line X.env=pure false:=by rfl):QS X (.Expr a pos) (nB ta):=⟨Zt he.h hs⟩
def aW {A B:List Stmt} (hc:QT X a tA) (ha:QB X A t) (hb:QB X B u):QS X (.If a A B pos) (rL tA t u):=⟨Tj hc.h ha.h hb.h⟩
def Ao {iter:Expr} {body:List Stmt} {wi:TI} {tb:TS} (hp:PassesOwn (model X.prog X.w) X.A X.env X.xe) (hc:X.calm=true) (hi:QI X tg iter wi) (hg:QG X tg g) (hb:QB X body tb) (hs:∀ x,foldedSetIterable iter X.env x=pure x:=by intro _;rfl) :
  QS X (.For tg iter body [] pos) (zg wi g tb):=⟨Wk hp hc hi.h hg.h hb.h hs⟩
def nil:QB X [] rZ:=⟨Rw⟩
def ah (h1:QS X st t):QB X [st] t:=⟨adG h1.h⟩
def cut (h1:QS X st t) (h2:QB X NW u):QB X (st::NW) (kH t u):=⟨ZZ h1.h h2.h⟩
def lG {K:ν} {l:Expr} {tl:TE} (h:X.K=K) (hl:QE X l tl):QI X tg l (Di K tl):=h ▸ ⟨adM hl.h⟩
def Zs {l:Expr} {tl:TE} (hl:QE X l tl):QI X tg l (B0 tl):=⟨VT hl.h⟩
def K6 {ta:TA} {p:Pos} (hm:X.mg "range" = none) (ha:QA X [a] ta) (hg:Gl X "range" := by rfl) (hs:noStar a=true:=by rfl):QI X tg (.Call (.Name "range" p) [a] [] pos) (By ta):=⟨Pr hg hm ha.h (fY hs)⟩
def AF:oG X [] xq:=⟨Wl⟩
def pP (h:QT X c tA):oG X [c] tA:=⟨SJ h.h⟩
end
end Dv
end L2
namespace Tx
open PySem PySem.Builtin PySem.StrLaws
def Xd {c a:Nat} (h:a=c) (r:List Nat):cut c (a::r)=[]::cut c r:=if_pos h
def Tq {c a:Nat} {r:List Nat} {x:List Nat} {y:List (List Nat)} (h:¬ a=c) (e:cut c r=x::y):cut c (a::r)=(a::x)::y:=by
 show (if a=c then _ else _)=_;rw [if_neg h,e]
def words (c:Nat) (t:List Nat):List (List Nat):=(cut c t).filter fun w=>decide (w≠[])
def zH (c:Nat):∀ t:List Nat,(cut c t).length<=t.length+1
 | []=>Nat.le_refl _
 | a::r=>by
  have ih:=zH c r;unfold cut;split
  ·simp only [List.length_cons];omega
  ·split
   ·simp
   ·rename_i h t' e;rw [e] at ih;simp only [List.length_cons] at ih ⊢;omega
def aaj (t:List Nat) (c:Nat):((cut c t).map S).filter (fun z=>decide (z≠S []))=(words c t).map S:=by
 unfold words;rw [List.filter_map]
 congr 1
 refine List.filter_congr fun w _=>?_;show decide (S w≠S [])=decide (w≠[]);by_cases h:w=[]
 ·simp [h]
 ·have:S w≠S []:=fun e=>h (Le e);simp [h,this]
def Y3 (x:List Nat) (c:Nat):Txt.startswith (S x) (S [c])=decide (x.head?=some c):=by
 unfold Txt.startswith;rw [dD,dD];cases x with
 | nil=>simp
 | cons a r =>
  rw [subAt_one (a::r) c 0 (by simp)];simp
def adR (x:List Nat) (c:Nat):Txt.endswith (S x) (S [c])=decide (x.getLast?=some c):=by
 unfold Txt.endswith;rw [dD,dD];cases hx:x with
 | nil=>simp
 | cons a r =>
  have hl:(a::r).length - [c].length < (a::r).length:=by simp
  rw [subAt_one (a::r) c _ hl];have e:(a::r)[(a::r).length - [c].length]?=(a::r).getLast?:=by
   rw [List.getLast?_eq_getElem?];rfl
  rw [e];have:decide (0+[c].length<=(a::r).length)=true:=decide_eq_true (by simp);rw [this,Bool.true_and]
end Tx
namespace L2
open PySem PySem.Spec PyProof.Rows
def Kn {A:Around} {s:Shared} {l1 l2:List (Str×Tok)} (j:Nat) (h1:j < (strValues l1).toArray.size) (h2:j < (strValues l2).toArray.size) :
  SeqAt.EqAt A s (strValues l1).toArray[j] (strValues l2).toArray[j] (decide ((l1.map (·.1))[j]?=(l2.map (·.1))[j]?)):=by
 have g1:j < l1.length:=by simpa [strValues] using h1
 have g2:j < l2.length:=by simpa [strValues] using h2
 have e1:(strValues l1).toArray[j]=Value.str l1[j].1 l1[j].2:=by simp [strValues]
 have e2:(strValues l2).toArray[j]=Value.str l2[j].1 l2[j].2:=by simp [strValues]
 rw [e1,e2];have e:decide ((l1.map (·.1))[j]?=(l2.map (·.1))[j]?)=(l1[j].1 == l2[j].1):=by
  rw [Da,Da,mo g1,mo g2];by_cases q:l1[j].1=l2[j].1
  ·simp [q]
  ·simp [q]
 rw [e];exact SeqAt.EqAt.str_str _ _ _ _
def all_eq {α:Type} [DecidableEq α] {xs ys:List α} (h:xs.length=ys.length):(List.range xs.length).all (fun j=>decide (xs[j]?=ys[j]?))=decide (xs=ys):=by
 rw [_w,IO,LT];constructor
 ·intro q;apply List.ext_getElem?;intro i;by_cases hi:i < xs.length
  ·exact _U (q i (Jaa.mpr hi))
  ·rw [XV (by omega),XV (by omega)]
 ·rintro rfl j _;simp
section
variable {X:Cx}
def Kf {π:List (Addr×Obj)} {σ:St} {H:Hp} {s:Shared} {A:Around} {a b:Addr} {ts us:List Str} (I:Inv X π σ H s) (ha:H a=some (.lst (ts.map V.str))) (hb:H b=some (.lst (us.map V.str))) (hu:A.units < cLine) :
  SeqAt.RcAt A s (.ref a) (.ref b) (decide (ts=us))/\SeqAt.RcNeAt A s (.ref a) (.ref b) (!decide (ts=us)):=by
 obtain ⟨i1,r1,p1,_⟩:=I.list (aH.of ha);obtain ⟨i2,r2,p2,_⟩:=I.list (aH.of hb);obtain ⟨l1,rfl,e1⟩:=u3 r1;obtain ⟨l2,rfl,e2⟩:=u3 r2;have n1:(strValues l1).toArray.size=ts.length:=by rw [<- e1];simp [strValues]
 have n2:(strValues l2).toArray.size=us.length:=by rw [<- e2];simp [strValues]
 by_cases h:ts.length=us.length
 ·have hsz:(strValues l1).toArray.size=(strValues l2).toArray.size:=by rw [n1,n2,h]
  have k1:=SeqAt.RcAt.lists (A:=A) p1.isList p2.isList hsz hu (fun j g1 g2=>Kn j g1 g2);have k2:=SeqAt.RcNeAt.lists (A:=A) p1.isList p2.isList hsz hu (fun j g1 g2=>Kn j g1 g2);rw [n1,e1,e2,all_eq h] at k1 k2;exact ⟨k1,k2⟩
 ·have hsz:((strValues l1).toArray.size != (strValues l2).toArray.size)=true:=by rw [n1,n2];simpa using h
  have e:decide (ts=us)=false:=tz fun z=>h (by rw [z]);rw [e];exact ⟨SeqAt.RcAt.lists_lengths p1.isList p2.isList hsz hu,SeqAt.RcNeAt.lists_lengths p1.isList p2.isList hsz hu⟩
def pA (neg:Bool):R2:=fun x y H Q=>match x,y with
 | .ref a,.ref b=>∃ ts us:List Str,H a=some (.lst (ts.map V.str))/\H b=some (.lst (us.map V.str))/\Q (.bl (neg ^^ decide (ts=us))) H
 | _,_=>False
def Vy (hu:X.A.units < cLine):aZ X (compareOp .Eq) (pA false):=by
 intro π s σ H x y v u Q I rx ry h;unfold pA at h;split at h
 ·obtain ⟨ts,us,ha,hb,q⟩:=h;cases rx;cases ry;simp only [Bool.false_bne] at q;exact (Kf I ha hb hu).1 _ _ _ _ ⟨.bl _,H,I,rfl,q⟩
 ·exact h.elim
def X0 (hu:X.A.units < cLine):aZ X (compareOp .NotEq) (pA true):=by
 intro π s σ H x y v u Q I rx ry h;unfold pA at h;split at h
 ·obtain ⟨ts,us,ha,hb,q⟩:=h;cases rx;cases ry;simp only [Bool.true_bne] at q;exact (Kf I ha hb hu).2 _ _ _ _ ⟨.bl _,H,I,rfl,q⟩
 ·exact h.elim
def Dv.ck {st:Stmt}:QS X st Dw:=⟨Yo⟩
end
def zq:V->Hp->VK->Prop:=fun x H Q=>match x with
 | .int i=>Q (.int (-i)) H
 | _=>False
def hV {X:Cx}:tw X (unaryOp .USub) zq:=fun π s σ H x v Q I rx h=>Rn π s σ H x v Q I rx (by
 unfold zq at h;split at h
 ·exact ⟨_,rfl,h⟩
 ·exact h.elim)
def OQ (r:List V) (x:V):jz (r++[x]) Option.none (some (-1))=r:=by
 unfold jz;have e1:HT.dF (r++[x]).length (r++[x]).length (some (-1))=r.length:=by
  unfold HT.dF;simp;omega
 rw [HT.Uh,e1];simp
section
variable {X:Cx} {K:ν}
def CI (K:ν):List V->Hp->VK->Prop:=fun xs H Q=>match xs with
 | [.ref p]=>∃ ys,aH K H p ys/\Q (.int ys.length) H
 | _=>False
def Zl (h:X.K=K):dz X (.builtin "len") (CI K):=h ▸ Ih.imp fun xs H Q h=>by
 unfold CI at h;split at h
 ·obtain ⟨ys,h1,h2⟩:=h;exact ⟨_,_,rfl,.inl ⟨ys,h1,rfl⟩,h2⟩
 ·exact h.elim
def Af (K:ν):R2:=fun x y H Q=>match x,y with
 | .ref p,.int i=>∃ xs v,aH K H p xs/\eC xs i=some v/\Q v H
 | _,_=>False
def Zx (h:X.K=K):fM X (Af K):=h ▸ JU.imp fun x y H Q h=>by
 unfold Af at h;split at h
 ·obtain ⟨xs,v,h1,h2,h3⟩:=h;exact ⟨_,xs,_,v,rfl,rfl,h1,h2,h3⟩
 ·exact h.elim
end
end L2
namespace L2
open PySem
open Sem (wp)
def dG (e:Addr) (c:Value) (od:Option Addr) (h:Heap):Prop:=∃ o,h.get? e=some o/\o.cls=c/\o.dict=od/\∃ vs,o.data=.fields vs
structure Kp (e:Addr) (c:Value) (od:Option Addr) {α:Type} (t:Sem α):Prop where
 out:∀ (M:Model) (Γ:Ctx) (P:α->Pos->Shared->Prop) (Ee:Value->Pos->Shared->Prop) (p:Pos) (s:Shared),dG e c od s.heap->wp M Γ t P Ee p s->wp M Γ t (fun a p' s'=>P a p' s'/\dG e c od s'.heap) Ee p s
section
variable {e:Addr} {c:Value} {od:Option Addr} {α β:Type}
def Kp.pure (a:α):Kp e c od (Pure.pure a:Sem α):=⟨fun _ _ _ _ _ _ hd h=>⟨h,hd⟩⟩
def Kp.unsupported (w:String):Kp e c od (PySem.unsupported w:Sem α):=⟨fun _ _ _ _ _ _ _ h=>h⟩
def Kp.bind {m:Sem α} {f:α->Sem β} (hm:Kp e c od m) (hf:∀ a,Kp e c od (f a)):Kp e c od (m >>= f):=⟨fun M Γ P Ee p s hd h=>by
 rw [Sem.wp_bind'] at h ⊢;exact Sem.wp_mono M Γ m (fun a p' s' h'=>(hf a).out M Γ P Ee p' s' h'.2 h'.1) (fun _ _ _ x=>x) p s (hm.out M Γ _ Ee p s hd h)⟩
def Kp.ite {q:Prop} [Decidable q] {t u:Sem α} (ht:Kp e c od t) (hu:Kp e c od u):Kp e c od (if q then t else u):=by split <;> assumption
def Kp.load (a:Addr):Kp e c od (PySem.load a):=⟨fun _ _ _ _ _ _ hd h=>let ⟨o,ho,z⟩:=h;⟨o,ho,z,hd⟩⟩
def Kp.stack:Kp e c od PySem.stack:=⟨fun M Γ P Ee p s hd h=>by
 unfold PySem.stack at h ⊢;rw [Sem.wp_stack] at h ⊢;exact ⟨h,hd⟩⟩
def dG.push {h:Heap} (x:dG e c od h) (o:Obj):dG e c od (h.push o):=let ⟨u,hu,r⟩:=x;⟨u,pc _ hu,r⟩
def dG.update {h:Heap} (x:dG e c od h) (a:Addr) (f:Obj->Obj) (hf:∀ o,(f o).cls=o.cls/\(f o).dict=o.dict/\∀ vs,o.data=.fields vs->∃ ws,(f o).data=.fields ws):dG e c od (h.update a f):=by
 obtain ⟨u,hu,h1,h2,vs,h3⟩:=x;by_cases q:a=e
 ·subst q;obtain ⟨ws,h4⟩:=(hf u).2.2 vs h3;exact ⟨f u,Rs f hu (Obj.isFreed_of_fields h4),(hf u).1.trans h1,(hf u).2.1.trans h2,ws,h4⟩
 ·exact ⟨u,(GM _ _ q).trans hu,h1,h2,vs,h3⟩
def Kp.update (a:Addr) (f:Obj->Obj) (hf:∀ o,(f o).cls=o.cls/\(f o).dict=o.dict/\∀ vs,o.data=.fields vs->∃ ws,(f o).data=.fields ws):Kp e c od (PySem.update a f) :=
 ⟨fun _ _ _ _ _ _ hd h=>⟨h.1,h.2,hd.update a f hf⟩⟩
def Tr (g:Array Value->Array Value) (o:Obj):(Obj.mapFields g o).cls=o.cls/\(Obj.mapFields g o).dict=o.dict/\∀ vs,o.data=.fields vs->∃ ws,(Obj.mapFields g o).data=.fields ws:=by
 obtain ⟨c1,d1,dt,sl⟩:=o;refine ⟨Obj.cls_mapFields _ _,?_,fun vs h=>⟨_,Jaf h g⟩⟩;cases dt <;> rfl
def Kp.alloc (o:Obj):Kp e c od (PySem.alloc o):=⟨fun _ _ _ _ _ _ hd h=>⟨h,hd.push o⟩⟩
def Kp.field (v:Value) (i:Nat):Kp e c od (PySem.field v i):=⟨fun _ Γ _ _ _ _ hd h=>by
 rw [wp_field_iff] at h ⊢;obtain ⟨a,o,vs,x,h1,h2,h3,h4,h5⟩:=h;exact ⟨a,o,vs,x,h1,h2,h3,h4,h5,hd⟩⟩
def Kp.setField (v:Value) (i:Nat) (x:Value):Kp e c od (PySem.setField v i x):=⟨fun _ Γ _ _ _ _ hd h=>by
 rw [wp_setField_iff] at h ⊢;obtain ⟨a,o,vs,h1,h2,h3,h4,h5⟩:=h;exact ⟨a,o,vs,h1,h2,h3,h4,h5,hd.update a _ (Tr _)⟩⟩
local macro_rules | `(tactic| walk_at "kps")=>`(tactic| repeat' with_reducible first | assumption | exact Kp.pure _ | exact Kp.unsupported _ | exact Kp.field _ _ | exact Kp.setField _ _ _ | exact Kp.load _ | exact Kp.stack | exact Kp.alloc _ | apply Kp.ite | apply Kp.bind | intro _ | split)
def Kp.newFields (ty:String) (vs:List Value):Kp e c od (PySem.newFields ty vs):=by
 unfold PySem.newFields newObj newObjAsIs;walk_at "kps"
def Kp.frameEnvs:Kp e c od PySem.frameEnvs:=by
 unfold PySem.frameEnvs;walk_at "kps"
def Kp.isImport (env:Env) (outer:List Env):Kp e c od (behindIsImport env outer):=by
 unfold behindIsImport;walk_at "kps"
def Kp.caller:Kp e c od underTheClaimsCaller:=by
 unfold underTheClaimsCaller;walk_at "kps"
def Kp.keptBack (env:Env) (i:Bool) (l:List Env):Kp e c od (PySem.keptBack env i l):=by
 have:=Kp.caller (e:=e) (c:=c) (od:=od);cases l <;> unfold PySem.keptBack <;> walk_at "kps"
def Kp.ready:∀ l:List Env,Kp e c od (readyFrames l)
 | []=>Kp.pure _
 | env::outer=>by
  have ih:=Kp.ready outer;have h1:=Kp.isImport (e:=e) (c:=c) (od:=od) env outer;have h2:=fun i=>Kp.keptBack (e:=e) (c:=c) (od:=od) env i outer;unfold readyFrames;walk_at "kps"
  all_goals first | exact h2 _ | exact Kp.update _ _ (fun o=>⟨rfl,rfl,fun vs h=>⟨vs,h⟩⟩) | skip
def Kp.frameObject (l:List Env):Kp e c od (PySem.frameObject l):=by
 cases l with
 | nil=>exact Kp.pure _
 | cons env outer =>
  have:=Kp.ready (e:=e) (c:=c) (od:=od) (env::outer);unfold PySem.frameObject;walk_at "kps"
def Kp.frameOf (env:Env):Kp e c od (PySem.frameOf env):=by
 have h1:=Kp.frameEnvs (e:=e) (c:=c) (od:=od);have h2:=Kp.frameObject (e:=e) (c:=c) (od:=od);unfold PySem.frameOf;walk_at "kps"
 all_goals first | exact h2 _ | skip
def Kp.place (f:Addr) (b:Bool):Kp e c od (entryPlaceOf f b):=by
 unfold entryPlaceOf;walk_at "kps"
def Kp.setFlight (v:Value) (fr:Option Addr):Kp e c od (PySem.setFlight v fr):=by
 unfold PySem.setFlight;walk_at "kps"
def Kp.noteFrame (v:Value) (env:Env):Kp e c od (PySem.noteFrame v env):=by
 have h1:=Kp.frameOf (e:=e) (c:=c) (od:=od) env;have h2:=fun f b=>Kp.place (e:=e) (c:=c) (od:=od) f b;unfold PySem.noteFrame EntryCells.newEntry;walk_at "kps"
 all_goals first | exact h2 _ _ | exact Kp.newFields _ _ | skip
def Kp.leaving (env:Env) (v:Value):Kp e c od (PySem.leaving env v):=by
 have h1:=Kp.noteFrame (e:=e) (c:=c) (od:=od) v env;have h2:=Kp.setFlight (e:=e) (c:=c) (od:=od) v none;unfold PySem.leaving;walk_at "kps"
def Kp.any {t:Sem α} (k:Kp e c od t) {M:Model} {A:Around} {Q:α->Shared->Prop} {E:Value->Shared->Prop} {s:Shared} (hd:dG e c od s.heap) (h:wpAny M A t Q E s):wpAny M A t (fun a s'=>Q a s'/\dG e c od s'.heap) E s :=
 fun Γ p hΓ=>k.out M Γ _ _ p s hd (h Γ p hΓ)
end
end L2
namespace Tx
open PySem PySem.Builtin PySem.StrLaws
def vw (l:List Nat) (n:Nat) (hl:l.length<=2) (hn:n<=2100):MulOk (S l) (n:Int):=by
 refine ⟨?_,fun h1 h2=>?_,fun h1 h2=>?_⟩
 ·rw [decide_eq_false (by omega),decide_eq_false (by omega)];rfl
 ·rw [dD];have h0:(0:Int) < n:=by omega
  have:(2:Int)<=(2 ^ 63 - 1) / (n:Int):=by
   rw [Int.le_ediv_iff_mul_le h0];omega
  omega
 ·unfold PySem.Builtin.Str.tooLong;rw [dD,Int.toNat_natCast];refine decide_eq_false ?_;have:(sizeLine:Nat)=16777216:=sizeLine_eq;have h3:l.length * n<=2 * 2100:=Nat.mul_le_mul hl hn;omega
end Tx
namespace Tx
def wz (c:Nat):∀ (t:List Nat),∀ w∈cut c t,w.length<=t.length
 | [],w,h=>by
  have:w=[]:=by simpa [cut] using h
  rw [this];exact Nat.le_refl _
 | x::r,w,h=>by
  by_cases hx:x=c
  ·rw [Xd hx] at h;rcases List.mem_cons.mp h with e | e
   ·rw [e];exact Nat.zero_le _
   ·exact Nat.le_trans (wz c r w e) (by simp)
  ·cases e:cut c r with
   | nil=>exact absurd e (Vn c r)
   | cons y z =>
    rw [Tq hx e] at h;rcases List.mem_cons.mp h with q | q
    ·have:=wz c r y (by rw [e];exact List.mem_cons_self);rw [q,List.length_cons,List.length_cons];omega
    ·exact Nat.le_trans (wz c r w (by rw [e];exact List.mem_cons_of_mem _ q)) (by simp)
def Z7 (c:Nat) (t:List Nat) (w:List Nat) (h:w∈words c t):w.length<=t.length:=wz c t w (List.mem_filter.mp h).1
end Tx
namespace L2
open PySem PySem.Spec PyProof.Rows
def bQ.there {P:Program} {w:World} {H:Hp} {h:Heap} {a:Addr} {o:HO} (x:bQ P w H h a o):∃ u,h.get? a=some u:=by
 cases o with
 | lst xs=>obtain ⟨_,_,_,_,e⟩:=x;exact ⟨_,e⟩
 | tup xs=>obtain ⟨_,_,_,u,e,_⟩:=x;exact ⟨_,e⟩
 | dK kvs=>obtain ⟨_,_,_,_,o,_,_,e,_⟩:=x;exact ⟨_,e⟩
 | dT kvs=>obtain ⟨_,_,_,_,o,_,_,e,_⟩:=x;exact ⟨_,e⟩
 | set S n=>obtain ⟨o,_,_,_,e,_⟩:=x;exact ⟨_,e⟩
 | ins C dx fs=>obtain ⟨_,_,_,e,_⟩:=x;exact ⟨_,e⟩
 | own y=>exact x
 | xd fs=>obtain ⟨_,⟨_,_,_,e,_⟩,_⟩:=x;exact ⟨_,e⟩
 | vJ lo hi=>obtain ⟨_,_,_,e⟩:=x;exact ⟨_,e⟩
 | dI ob u=>obtain ⟨e,_⟩:=x;exact ⟨_,e⟩
 | mf ps=>exact ⟨_,(show h.get? a=some _ from x)⟩
 | met f y=>exact ⟨_,(show h.get? a=some _ from x)⟩
 | ext φ=>obtain ⟨_,e,_⟩:=x;exact e
def sC (B:Heap) (fs:List Addr) (h:Heap) (H':Hp) (h':Heap):Prop :=
 ∀ b o,h'.get? b=some o->b ∉ fs->((∃ u,h.get? b=some u)\/∃ u,H' b=some u)->B.get? b=some o
def LN {P:Program} {w:World} {fs:List Addr} {H H':Hp} {h h1 h2 B:Heap} (u:Un fs [] H H' h h1) (au:bD P w H' h1) (hf:∀ b∈fs,H b=none/\∃ o,h.get? b=some o/\∀ vs,o.data≠.fields vs) (cH:sC B fs h H' h1)
  (st:B.StaysIn h2) (up:h1.UpToSlots h2):Un fs [] H H' h h2/\bD P w H' h2:=by
 have kB:∀ b o,h1.get? b=some o->b ∉ fs->((∃ u,h.get? b=some u)\/∃ u,H' b=some u)->h2.get? b=some o:=fun b o e hb z=>st b o (cH b o e hb z);have fr:∀ b∈fs,∀ o,h.get? b=some o->∃ sl,h2.get? b=some { o with slots:=sl }:=fun b hb o e=>by
  obtain ⟨n,o',e',nf⟩:=hf b hb;rw [e] at e';cases e';obtain ⟨sl,e1⟩:=u.slot b o e n hb (by simp);obtain ⟨sl',e2⟩:=up b _ e1 nf;exact ⟨sl',e2⟩
 refine ⟨⟨fun b o q n hb hx=>kB b o (u.keep b o q n hb hx) hb (.inl ⟨o,q⟩),fun b o q n hb hx=>fr b hb o q,u.free,fun b o q hx=>?_,u.fb,u.eM,u.eT⟩,fun a v e=>?_⟩
 ·by_cases hb:b∈fs
  ·obtain ⟨sl,e⟩:=fr b hb o q;exact ⟨_,e⟩
  ·obtain ⟨o',e1⟩:=u.there b o q hx;exact ⟨o',kB b o' e1 hb (.inl ⟨o,q⟩)⟩
 ·have tr:∀ b,(∃ u,H' b=some u)->b ∉ fs:=fun b ⟨v',e'⟩ hb=>by
   obtain ⟨n,o,ho,_⟩:=hf b hb;have:=u.free b o ho n (by simp);rw [e'] at this;cases this
  refine (au a v e).gX (fun b x hb q=>?_) (fun _ q=>q) fun _ _ q=>q;have hs:∃ u,H' b=some u:=by
   rcases hb with rfl | hb
   ·exact ⟨v,e⟩
   ·exact ⟨_,hb⟩
  exact kB b x q (tr b hs) (.inr hs)
structure nY (P:Program) (w:World) (outer:List Env) (H:Hp) (s:Shared) (ea C:Addr) (od:Option Addr) (H':Hp) (s':Shared):Prop where
 os:s'.os=s.os
 bare:AllBare s'.gens
 un:Un (bK outer) [] H H' s.heap s'.heap
 au:bD P w H' s'.heap
 free:H' ea=none
 new:s.heap.get? ea=none
 hd:dG ea (.ref C) od s'.heap
 Bh:∃ B a0,Heap.FlyingW B outer ea (.ref C) a0 s'.heap/\sC B (bK outer) s.heap H' s'.heap
def aR (P:Program) (w:World):dj:=fun outer H s E e s'=>∃ ea C od H',e=.ref ea/\nY P w outer H s ea C od H' s'/\E (.ref C) od H'
def aq.cx {P:Program} {w:World} {K:ν} {mg:Str->Option Value} {base:Heap} {CX:dj} {k:Nat} {f:Addr} {fd:FuncData} {ps:List Str} {sp:Sp} (F:aq P w K mg base aP k f fd ps sp):aq P w K mg base CX k f fd ps sp :=
 ⟨F.len,fun A outer s H args us vs Q E hr he hb hv hs=>Uf (F.run A outer s H args us vs Q E hr he hb hv hs) fun r s' z=>by
  cases r with
  | error e=>exact False.elim z
  | ok fl=>cases fl <;> exact z⟩
section
variable {X:Cx} {π:List (Addr×Obj)} {σ:St} {H H':Hp} {s s':Shared} {ea C:Addr} {od:Option Addr}
def Inv.HJ (I:Inv X π σ H s):∀ b∈bK X.stack,H b=none/\∃ o,s.heap.get? b=some o/\∀ vs,o.data≠.fields vs:=fun b hb=>⟨I.wH b hb,(I.stack.mem hb).2⟩
structure Own (X:Cx):Prop where
 ei:X.stack=X.env::X.outer
 frame:X.env.frame=some X.env.locals
 ex:X.ex=[]
def Inv.B2 {h1 B:Heap} {a0:Value} (I:Inv X π σ H s) (O:Own X) (os:s'.os=s.os) (bare:AllBare s'.gens) (un:Un (bK X.stack) [] H H' s.heap h1) (au:bD X.prog X.w H' h1) (free:H' ea=none) (new:s.heap.get? ea=none)
  (cH:sC B (bK X.stack) s.heap H' h1) (fl:Heap.FlyingW B X.outer ea (.ref C) a0 s'.heap) (up:h1.UpToSlots s'.heap) (hd:dG ea (.ref C) od s'.heap):nY X.prog X.w X.outer X.H₀ X.s₀ ea C od H' s':=by
 obtain ⟨u2,hok2⟩:=LN un au I.HJ cH fl.1 up;have DJ:bK X.stack=X.env.locals::X.fs:=by
  rw [O.ei];unfold bK;rw [_h,O.frame];rfl
 have uF:∀ b o,X.s₀.heap.get? b=some o->b≠X.env.locals:=fun b o e=>xL (wS (sB e) I.ok.above);have nx:∀ b:Addr,b ∉ X.ex:=fun b=>by rw [O.ex];simp
 have f9:∀ b o,X.s₀.heap.get? b=some o->b ∉ X.fs->b ∉ bK X.stack:=fun b o e hb z=>by
  rw [DJ] at z;rcases pi.mp z with q | q
  ·exact uF b o e q
  ·exact hb q
 have Lfree:H' X.env.locals=none:=by
  obtain ⟨m,⟨o,_,_,ho,_⟩,_⟩:=I.loc;exact un.free _ o ho I.free (by simp)
 refine ⟨os.trans I.os,bare,⟨fun b o q n hb _=>?_,fun b o q n hb _=>?_,fun b o q n _=>?_,fun b o q _=>?_,fun b xs q=>?_,fun b o v q=>?_,fun b ps q=>?_⟩,hok2,free,?_,hd,B,a0,fl,fun b o e hb z=>?_⟩
 ·exact u2.keep b o (I.base.keep b o q n hb (nx b)) (I.base.free b o q n (nx b)) (f9 b o q hb) (by simp)
 ·obtain ⟨sl,e1⟩:=I.base.slot b o q n hb (nx b);obtain ⟨sl',e2⟩:=u2.slot b _ e1 (I.base.free b o q n (nx b)) (by rw [DJ];exact KK _ hb) (by simp);exact ⟨sl',e2⟩
 ·obtain ⟨o',e1⟩:=I.base.there b o q (nx b);exact u2.free b o' e1 (I.base.free b o q n (nx b)) (by simp)
 ·obtain ⟨o',e1⟩:=I.base.there b o q (nx b);exact u2.there b o' e1 (by simp)
 ·exact u2.fb b xs (I.base.fb b xs q)
 ·exact u2.eM b o v (I.base.eM b o v q)
 ·obtain ⟨m1,e1⟩:=I.base.eT b ps q;obtain ⟨m2,e2⟩:=u2.eT b _ e1;exact ⟨m1++m2,by rw [e2,Array.append_assoc]⟩
 ·cases q:X.s₀.heap.get? ea with
  | none=>rfl
  | some u =>
   obtain ⟨u',e'⟩:=I.base.there ea u q (nx ea);rw [new] at e';cases e'
 ·have hn:b ∉ bK X.stack:=fun z'=>by
   rw [DJ] at z';rcases pi.mp z' with q | q
   ·rcases z with ⟨o',e'⟩ | ⟨v,e'⟩
    ·exact uF b o' e' q
    ·rw [q,Lfree] at e';cases e'
   ·exact hb q
  have hs:∃ o',h1.get? b=some o'/\((∃ u,s.heap.get? b=some u)\/∃ u,H' b=some u):=by
   rcases z with ⟨o',e'⟩ | ⟨v,e'⟩
   ·obtain ⟨o2,e2⟩:=I.base.there b o' e' (nx b);obtain ⟨o3,e3⟩:=un.there b o2 e2 (by simp);exact ⟨o3,e3,.inl ⟨o2,e2⟩⟩
   ·obtain ⟨o3,e3⟩:=(au b v e').there;exact ⟨o3,e3,.inr ⟨v,e'⟩⟩
  obtain ⟨o3,e3,z3⟩:=hs;have e4:=cH b o3 e3 hn z3;have e5:=fl.1 b o3 e4;rw [e] at e5;cases e5;exact e4
def Inv.J6 {M:Model} {A:Around} {E:Value->Shared->Prop} (I:Inv X π σ H s) (O:Own X) (hA:A.frames=some X.stack) (F:nY X.prog X.w X.stack H s ea C od H' s') :
  wpAny M A (leaving X.env (.ref ea)) (fun _ s''=>nY X.prog X.w X.outer X.H₀ X.s₀ ea C od H' s'') E s':=by
 obtain ⟨B,a0,fl,cH⟩:=F.Bh;have fl':=fl;rw [O.ei] at fl' hA;refine aC ((Kp.leaving X.env (.ref ea)).any F.hd (wpAny_leaves_onW (Q:=fun _ s''=>∃ h',s''={ s' with heap:=h' }/\Heap.FlyingW B X.outer ea (.ref C) a0 h'/\s'.heap.UpToSlots h') hA O.frame fl' fun h' x1 x2=>⟨h',rfl,x1,x2⟩)) fun _ s'' ⟨⟨h',e,x1,x2⟩,hd⟩=>?_;subst e;exact I.B2 (s':={ s' with heap:=h' }) O F.os F.bare F.un F.au F.free F.new cH x1 x2 hd
def Js {h h':Heap} {e:Addr} {cls:Value} {args:List Value} (hx:Heap.MadeExcOf h h' e cls args):dG e cls none h':=by
 obtain ⟨t,he,_⟩:=hx.there;exact ⟨_,he,rfl,rfl,_,rfl⟩
def Inv.RM {M:Model} {A:Around} {E:Value->Shared->Prop} {h':Heap} {vs:List Value} (I:Inv X π σ H s) (O:Own X) (hA:A.frames=some X.stack) (hx:Heap.MadeExcOf s.heap h' ea (.ref C) vs) :
  wpAny M A (leaving X.env (.ref ea)) (fun _ s''=>nY X.prog X.w X.outer X.H₀ X.s₀ ea C none H s'') E { s with heap:=h' }:=by
 have bt:(W.hideAll s.heap (bK X.stack)).StaysIn s.heap:=fun b o q=>Ja9 _ q;have lW:s.heap.FunFrames (W.hideAll s.heap (bK X.stack)) X.stack:=W.funFrames_hide I.stack fun env he a ha=>_q.mpr ⟨env,he,ha⟩;have mU:H ea=none:=by
  cases q:H ea with
  | none=>rfl
  | some u =>
   obtain ⟨o,e⟩:=(I.au ea u q).there;have:=hx.new;rw [e] at this;cases this
 have cH:sC (W.hideAll s.heap (bK X.stack)) (bK X.stack) s.heap H h':=fun b o e hb z=>by
  have hs:∃ u,s.heap.get? b=some u:=by
   rcases z with z | ⟨v,z⟩
   ·exact z
   ·exact (I.au b v z).there
  obtain ⟨u,eu⟩:=hs;have:=hx.keeps b u eu;rw [e] at this;cases this;exact Ja1 _ eu hb
 generalize W.hideAll s.heap (bK X.stack)=B at bt lW cH;have hfr':=lW;rw [O.ei] at hfr' hA;refine aC ((Kp.leaving X.env (.ref ea)).any (s:={ s with heap:=h' }) (Js hx) (wpAny_leaves_madeW (s:={ s with heap:=h' }) (Q:=fun _ s''=>∃ h2 t,s''={ s with heap:=h2 }/\Heap.FlyingW B X.outer ea (.ref C) (.ref t) h2/\h'.UpToSlots h2) hA O.frame bt hfr' hx
  fun h2 t x1 _ _ x4=>⟨h2,t,rfl,x1,x4⟩)) fun _ s'' ⟨⟨h2,t,e,x1,x4⟩,hd⟩=>?_
 subst e;exact I.B2 (s':={ s with heap:=h2 }) O rfl I.bare (Un.kept hx.keeps) (I.au.kept hx.keeps) mU hx.new cH x1 x4 hd
structure hJ (X:Cx) (R:St->XK):Prop where
 pass:∀ (π:List (Addr×Obj)) (σ:St) (H:Hp) (s:Shared) (e:Value) (s':Shared),Inv X π σ H s->aR X.prog X.w X.stack H s (R σ) e s'->X.xe e s'
structure Raises (X:Cx) (R:St->XK):Prop where
 made:∀ (π:List (Addr×Obj)) (σ:St) (H:Hp) (s:Shared) (h':Heap) (ea C:Addr) (vs:List Value),Inv X π σ H s->Heap.MadeExcOf s.heap h' ea (.ref C) vs->R σ (.ref C) none H->X.xe (.ref ea) { s with heap:=h' }
def aQ {P:Program} {w:World} {K:ν} {mg:Str->Option Value} {base:Heap} {N:List Str} {qual:Str} {scope:Scope} {f:Addr} {cd:Value} {A:Around} {outer:List Env} {s₀:Shared} {H₀:Hp} {E:XK} :
  hJ (c7 (aR P w) P w K mg base N qual scope f cd A outer s₀ H₀ E) (fun _=>E) where
 pass:=fun π σ H s e s' I hc=>by
  obtain ⟨ea,C,od,H',rfl,F,hE⟩:=hc;exact aC (I.J6 ⟨rfl,rfl,rfl⟩ I.ok.frames F) fun _ s'' z=>⟨ea,C,od,H',rfl,z,hE⟩
def jG {P:Program} {w:World} {K:ν} {mg:Str->Option Value} {base:Heap} {N:List Str} {qual:Str} {scope:Scope} {f:Addr} {cd:Value} {A:Around} {outer:List Env} {s₀:Shared} {H₀:Hp} {E:XK} :
  Raises (c7 (aR P w) P w K mg base N qual scope f cd A outer s₀ H₀ E) (fun _=>E) where
 made:=fun π σ H s h' ea C vs I hx hE=>aC (I.RM ⟨rfl,rfl,rfl⟩ I.ok.frames hx) fun _ s'' z=>⟨ea,C,none,H,rfl,z,hE⟩
def yX (sp:Sp) (bu:List V) (R:St->XK) (t:TA):TE:=fun σ H Q=>t σ H fun vs H1=>sp (vs++bu) H1 Q (R σ)
section
variable {k:Nat} {f:Addr} {fd:FuncData} {ps:List Str} {sp:Sp} {bu:List V} {ds:List Value} {R:St->XK} {x:Str} {p pos:Pos} {e:Expr} {es:List Expr} {t:TA}
def IV {Q:VK} {us:List Value} {vs:List V} (F:aq X.prog X.w X.K X.mg X.base (aR X.prog X.w) k f fd ps sp) (hr:bc k X.A) (hb:Binds X.K fd ps ds) (hd:Vals bu ds) (hx:hJ X R)
  (I:Inv X π σ H s) (r:Vals vs us) (h:sp (vs++bu) H Q (R σ)):wpAny (model X.prog X.w) X.A (call (.ref f) us) (EP X π σ Q) X.xe s:=by
 have r2:Vals (vs++bu) (us++ds):=r.append hd;have hl:(us++ds).length=ps.length:=by rw [<- r2.length];exact F.len _ _ _ _ h
 refine _f (Uf (F.run X.A X.stack s H ⟨us,[]⟩ (us++ds) (vs++bu) Q (R σ) hr I.qk (hb s us I.cj hl) r2 h) fun r s' hq=>?_);cases r with
 | error e=>exact hx.pass π σ H s e s' I hq
 | ok fl =>
  cases fl with
  | ret u=>exact I.after hq
  | next=>exact False.elim hq
  | brk=>exact False.elim hq
  | cont=>exact False.elim hq
def adl (F:aq X.prog X.w X.K X.mg X.base (aR X.prog X.w) k f fd ps sp) (hr:bc k X.A) (hg:Gl X x) (hm:X.mg x=some (.ref f)) (hk:W.keepIn X.K (.ref f)=true) (hb:Binds X.K fd ps ds) (hd:Vals bu ds) (hx:hJ X R)
  (ha:PA X (e::es) t) (hs:(e::es).all noStar=true:=by rfl) (bM:(x == ("__debug__":Str))=false:=by decide):PE X (.Call (.Name x p) (e::es) [] pos) (yX sp bu R t):=by
 have hs':=hs;rw [KB,Ch] at hs';intro π s σ H Q I h;refine Go (kW I hg hm ?_ bM);refine SL (h₀:=X.base) I.ok.mod.gS hk (aC (ha pos π s σ H _ I h) fun us s1 ⟨vs,H1,I1,r,q⟩=>⟨I1.cj,?_⟩) (fY hs'.1) (ir hs'.2);exact IV F hr hb hd hx I1 r q
end
end
abbrev rW:List Value:=[.type "ValueError",.type "Exception",.type "BaseException",.type "object"]
def adb {K:ν} {h:Heap} {C:Addr} {OI:List Value} {newId:String} (X:K.In h) (q:W.excIn K C OI newId=true) :
  ∃ bm N nm q bs hdct sn sub ab col dd k0 k1 k2 k3 k5 mN,h.get? C=some (excClassObj nm q C N bs bm hdct sn sub ab col dd k0 k1 k2 k3 k5 newId)/\h.Ns N mN/\mN "__init__" = none/\OwnTail h OI bm:=by
 unfold W.excIn at q;split at q
 ·rename_i dd cd sl ho;split at q
  ·rename_i C' bm k0 k1 k2 k3 n k5 hm hs;simp only [Ch,_r,Bool.not_eq_true'] at q;obtain ⟨⟨⟨⟨⟨q1,q2⟩,q3⟩,q4⟩,q5⟩,q6⟩:=q;subst q1 q2;obtain ⟨nm,bs,mro,ns,qn,hd,sn,sub,ab,col,del⟩:=cd;dsimp only at hm q3 q5 q6;subst hm q3;have e1:sl=#[k0,k1,k2,k3,some (.builtin n),k5]:=by
    obtain ⟨l⟩:=sl;simp only at hs;rw [hs]
   subst e1;exact ⟨bm,ns,nm,qn,bs,hd,sn,sub,ab,col,dd,k0,k1,k2,k3,k5,_,X _ _ ho,.of_isNs (W.isNs_of_in X q5),W.nsMap_none_of_in X q5 q6,W.tail_of_in X q4⟩
  ·cases q
 ·cases q
def Df (C:Addr) (R:St->XK) (t:TA):TS:=fun _ σ H=>t σ H fun vs H1=>vs.length<=sizeLine/\R σ (.ref C) none H1
def adC {X:Cx} {R:St->XK} {x:Str} {C:Addr} {e:Expr} {es:List Expr} {t:TA} {np bj pos:Pos} (hx:Raises X R) (hc:X.calm=true) (hm:X.mg x=some (.ref C)) (q:W.excIn X.K C rW "ValueError.__new__" = true) (ha:PA X (e::es) t)
  (hg:Gl X x:=by rfl) (hs:(e::es).all noStar=true:=by rfl) (bM:(x == ("__debug__":Str))=false:=by decide):PS X (.Raise (some (.Call (.Name x np) (e::es) [] bj)) none pos) (Df C R t):=by
 have hs':=hs;rw [KB,Ch] at hs';intro π s σ H D I h;obtain ⟨bm,N,nm,qn,bs,hdct,sn,sub,ab,col,dd,k0,k1,k2,k3,k5,mN,hC,hN,hni,T⟩:=adb I.ok.mod.gS q;refine wpAny_Raise_call_subT (C:=C) (nm:=nm) (q:=qn) (N:=N) (bs:=bs) (bm:=bm) (hdct:=hdct) (sn:=sn) (sub:=sub) (ab:=ab) (col:=col) (dd:=dd) (k0:=k0) (k1:=k1) (k2:=k2) (k3:=k3) (k5:=k5)
  _D (mN:=mN) (T.hasType _D.hasBase) (I.ok.hd hc) (by rw [fY hs'.1];exact ir hs'.2) hni (kW I hg hm ⟨rfl,?_⟩ bM)
 have ha':=ha bj π s σ H _ I h;rw [fY hs'.1] at ha' ⊢;refine _e (aC ha' fun us s2 ⟨vs,H2,I2,r,z,hR⟩=>?_);exact ⟨rfl,by rw [<- r.length];exact z,I2.bk _ _ hC,hN.keeps I2.bk,T.keeps I2.bk,fun h' ea hm'=>hx.made π σ H2 s2 h' ea C us I2 hm' hR⟩
def mR (ea C:Addr) (od:Option Addr):HO:=.ext (dG ea (.ref C) od)
def acO {P:Program} {w:World} {H:Hp} {h:Heap} {ea C:Addr} {od:Option Addr} (x:dG ea (.ref C) od h):bQ P w H h ea (mR ea C od) :=
 ⟨x,let ⟨o,e,_⟩:=x;⟨o,e⟩,fun _ _ ⟨o,e,r⟩ k=>⟨o,k o e,r⟩⟩
abbrev Cx.lz (X:Cx) (v:Value):Cx:={ X with A:=X.A.mark (some v),calm:=false,xe:=fun _ _=>False }
abbrev Cx.n6 (X:Cx) (π:List (Addr×Obj)) (R:St->XK):Cx:={ X with pn:=X.pn++π,xe:=fun e s'=>∃ (σ':St) (H H':Hp) (s:Shared) (ea C:Addr) (od:Option Addr),Inv X π σ' H s/\e=.ref ea/\nY X.prog X.w X.stack H s ea C od H' s'/\R σ' (.ref C) od H' }
section
variable {X:Cx} {π π':List (Addr×Obj)} {σ:St} {H H':Hp} {s s':Shared} {R:St->XK} {v:Value}
def Inv.lz (I:Inv X π σ H s) (v:Value):Inv (X.lz v) π σ H s :=
 ⟨⟨I.ok.mod,I.ok.kind,I.ok.glob,I.ok.blt,I.ok.above,I.ok.inj,I.ok.has,I.ok.jn,(fun z=>Bool.noConfusion z),I.ok.frames,I.ok.ei,I.ok.tR,I.ok.bs,I.ok.gB,I.ok.l8,I.ok.mS,I.ok.eU,I.ok.g8⟩,
  I.os,I.bare,I.base,I.loc,I.cell,I.free,I.eW,I.pin,I.au,I.len⟩
def Inv.acQ (I:Inv (X.lz v) π σ H s) (ok:X.Ok):Inv X π σ H s:=⟨ok,I.os,I.bare,I.base,I.loc,I.cell,I.free,I.eW,I.pin,I.au,I.len⟩
def Inv.n6 (I:Inv X π σ H s) (R:St->XK):Inv (X.n6 π R) [] σ H s :=
 ⟨⟨I.ok.mod,I.ok.kind,I.ok.glob,I.ok.blt,I.ok.above,I.ok.inj,I.ok.has,I.ok.jn,I.ok.hd,I.ok.frames,I.ok.ei,I.ok.tR,I.ok.bs,I.ok.gB,I.ok.l8,I.ok.mS,I.ok.eU,I.ok.g8⟩,
  I.os,I.bare,I.base,I.loc,I.cell,I.free,I.eW,fun p hp=>I.pin p (by simpa using hp),I.au,I.len⟩
def Inv.sP (I:Inv (X.n6 π R) π' σ H s):Inv X π σ H s :=
 ⟨⟨I.ok.mod,I.ok.kind,I.ok.glob,I.ok.blt,I.ok.above,I.ok.inj,I.ok.has,I.ok.jn,I.ok.hd,I.ok.frames,I.ok.ei,I.ok.tR,I.ok.bs,I.ok.gB,I.ok.l8,I.ok.mS,I.ok.eU,I.ok.g8⟩,
  I.os,I.bare,I.base,I.loc,I.cell,I.free,I.eW,fun p hp=>I.pin p (_d _ hp),I.au,I.len⟩
def Us:hJ (X.n6 π R) R:=⟨fun π' σ H s e s' I hc=>by
 obtain ⟨ea,C,od,H',rfl,F,hE⟩:=hc;exact ⟨σ,H,H',s,ea,C,od,I.sP,rfl,F,hE⟩⟩
def Inv.rA {a:Addr} {o:HO} (I:Inv X π σ H s) (hn:H a=none) (n0:X.s₀.heap.get? a=none) (nL:a≠X.env.locals) (nC:∀ x c,X.env.cells.lookup x=some c->c≠a) (nP:∀ p∈X.pn++π,p.1≠a)
  (new:bQ X.prog X.w (upd H a o) s.heap a o):Inv X π σ (upd H a o) s:=by
 have ne:∀ b u,H b=some u->b≠a:=fun b u e=>gd e hn;have n0':∀ b u,X.s₀.heap.get? b=some u->b≠a:=fun b u e z=>by rw [z,n0] at e;cases e
 refine ⟨I.ok,I.os,I.bare,⟨I.base.keep,I.base.slot,fun b u e n hx=>by rw [aj (n0' b u e)];exact I.base.free b u e n hx,I.base.there,fun b xs e=>by have:=I.base.fb b xs e;rw [aj (ne b _ this)];exact this,
  fun b u v e=>by have:=I.base.eM b u v e;rw [aj (ne b _ this)];exact this,fun b ps e=>?_⟩,I.loc,I.cell,by rw [aj (wP nL)];exact I.free,fun x c e=>by rw [aj (nC x c e)];exact I.eW x c e,fun p hp=>?_,fun b u e=>?_,I.len⟩
 ·obtain ⟨m,e1⟩:=I.base.eT b ps e;exact ⟨m,by rw [aj (ne b _ e1)];exact e1⟩
 ·obtain ⟨e1,e2,r⟩:=I.pin p hp;exact ⟨e1,by rw [aj (nP p hp)];exact e2,r⟩
 ·by_cases hb:b=a
  ·subst hb;rw [ay] at e;cases e;exact new
  ·rw [aj hb] at e;exact (I.au b u e).gX (fun _ _ _ q=>q) (fun c q=>by rw [aj (ne c _ q)];exact q) fun c xs q=>by rw [aj (ne c _ q)];exact q
def Inv.UW {i:Nat} {n:Str} {m:Str->Option Value} {h8:Heap} {v:Option Value} {t8:Nat} (I:Inv X π σ H s) (hN:X.N.Nodup) (hi:X.N[i]?=some n)
  (hl:∀ (i:Nat) (x:Str) (v:V),X.N[i]?=some x->σ[i]?=some (some v)->mH X.env.scope x->∃ u,RelV v u/\Look X.env s.heap m x u)
  (DZ:h8.Ns X.env.locals (fun x=>if x=n then v else m x)) (sb:Heap.SameBut X.env.locals s.heap h8):Inv X π (σ.set i none) H { s with heap:=h8,toks:=t8 }:=by
 have old:∀ b o,X.s₀.heap.get? b=some o->h8.get? b=s.heap.get? b:=fun b o e=>sb.2 b (xL (wS (sB e) I.ok.above));refine ⟨I.ok,I.os,I.bare,⟨fun b o e n' hb hx=>(old b o e).trans (I.base.keep b o e n' hb hx),fun b o e n' hb hx=>?_,I.base.free,fun b o e hx=>?_,I.base.fb,I.base.eM,I.base.eT⟩,⟨_,DZ,fun j y v' e1 e2 e3=>?_⟩,fun y c e=>?_,I.free,I.eW,fun p hp=>?_,fun b u e=>?_,by simpa using I.len⟩
 ·obtain ⟨sl,e1⟩:=I.base.slot b o e n' hb hx;exact ⟨sl,(old b o e).trans e1⟩
 ·obtain ⟨o',e1⟩:=I.base.there b o e hx;exact ⟨o',(old b o e).trans e1⟩
 ·by_cases hj:j=i
  ·subst hj;have cb:j < σ.length:=by rw [I.len];exact (sK.mp hi).1
   rw [TW cb] at e2;cases e2
  ·rw [SZ (wP hj)] at e2;obtain ⟨u',r',q⟩:=hl j y v' e1 e2 e3;refine ⟨u',r',?_⟩;rcases q with ⟨k,e⟩ | ⟨k,c,e,z⟩
   ·refine .inl ⟨k,?_⟩;have:y≠n:=fun e=>hj (zZ hN e1 (e ▸ hi));simp [this,e]
   ·exact .inr ⟨k,c,e,z.sameBut sb (I.jH y c e)⟩
 ·obtain ⟨w',z⟩:=I.cell y c e;exact ⟨w',z.sameBut sb (I.jH y c e)⟩
 ·obtain ⟨e,n',ne,nf,d⟩:=I.pin p hp;exact ⟨(sb.2 p.1 ne).trans e,n',ne,nf,d⟩
 ·refine (I.au b u e).gX (fun c w' hc q=>(sb.2 c ?_).trans q) (fun _ q=>q) fun _ _ q=>q;rintro rfl;have hf:=I.free;rcases hc with z | z
  ·rw [z] at hf;rw [hf] at e;cases e
  ·rw [hf] at z;cases z
end
def WS {K:ν} {M:Model} {A:Around} {E:Value->Shared->Prop} {s:Shared} {e C Cc:Addr} {od:Option Addr} {Q:Bool->Shared->Prop} (X:K.In s.heap) (hd:dG e (.ref C) od s.heap) (h1:W.instIn K (.ref Cc) (.type "tuple")=some false)
  (h2:W.mroIn K Cc (.type "BaseException")=some true) (h3:W.subIn K (.ref C) (.ref Cc)=some true) (hq:Q true s):wpAny M A (excMatches (.ref e) (.ref Cc)) Q E s:=by
 obtain ⟨o,he,hc,_⟩:=hd;have L1:=W.looks_instIn (M:=M) X h1;have L2:=_j (M:=M) X h2;have L3:=W.looks_subIn (M:=M) X h3;have L4:W.Looks M s.heap (isType (.ref Cc)) true:=by
  obtain ⟨cd,aV,_⟩:=Option.bind_eq_some_iff.mp h2;unfold W.clsIn at aV;split at aV
  ·rename_i c' d' cd' sl' ho;intro A' Q' E' s' k q;unfold isType loadHead;exact lv (_S (k _ _ (X _ _ ho)) (sw q))
  ·cases aV
 have L5:W.Looks M s.heap (typeOf (.ref e)) (.ref C):=hc ▸ (_I he).andThen .now;have L6:W.Looks M s.heap (isExcClass (.ref Cc)) true:=L4.andThen L2;obtain ⟨hh,g,d,t,os⟩:=s;unfold excMatches;refine lv (L1.at ?_);simp only [FB,Ty,pure_bind];simp only [List.forIn_cons,List.forIn_nil,bind_assoc,pure_bind];refine lv (L6.at ?_);simp only [_y,FB,Ty,bind_assoc,pure_bind];refine lv (L5.at (lv (L3.at ?_)));simp only [Ja8,pure_bind];exact sw hq
def Ends.yM (D:Ends) (i:Nat):Ends:=⟨fun σ H=>D.nx (σ.set i none) H,D.rt,fun σ H=>D.bk (σ.set i none) H,fun σ H=>D.ct (σ.set i none) H⟩
def Gb (K:ν) (Cc:Addr) (i:Nat) (tb:(St->XK)->TS) (th:TS):TS:=fun D σ H=>∃ R:St->XK,tb R D σ H/\∀ σ' C od H',R σ' (.ref C) od H'->W.subIn K (.ref C) (.ref Cc)=some true /\
 ∀ ea,H' ea=none->th (D.yM i) (σ'.set i (some (.ref ea))) (upd H' ea (mR ea C od))
def Wm {X:Cx} {K:ν} {Cc:Addr} (i:Nat) {n x:Str} {body o7:List Stmt} {b₀:Stmt} {np hpos pos:Pos} {tb:(St->XK)->TS} {th:TS} (hK:X.K=K) (O:Own X) (hN:X.N.Nodup) (hm:X.mg x=some (.ref Cc))
  (c1:W.instIn X.K (.ref Cc) (.type "tuple")=some false) (c2:W.mroIn X.K Cc (.type "BaseException")=some true)
  (hb:∀ π R,dv (X.n6 π R) body (tb R)) (hs:∀ v,dv (X.lz v) (b₀::o7) th) (hg:Gl X x:=by rfl) (hi:X.N[i]?=some n:=by rfl) (hn:X.env.scope.names.lookup n=some .local:=by rfl) (bM:(x == ("__debug__":Str))=false:=by decide) :
  PS X (.Try body [.ExceptHandler (some (.Name x np)) (some n) (b₀::o7) hpos] [] [] pos) (Gb K Cc i tb th):=by
 subst hK;intro π s σ H D I h;obtain ⟨R,hb',hh⟩:=h;refine wpAny_Try_except (GT (hb π R [] s σ H D (I.n6 R) hb') (fun f s1 z=>?_) fun e s1 z=>?_)
 ·cases f with
  | next=>obtain ⟨σ',H',I',q⟩:=z;exact _P ⟨σ',H',I'.sP,q⟩
  | ret u=>obtain ⟨v,σ',H',I',r,q⟩:=z;exact ⟨v,σ',H',I'.sP,r,q⟩
  | brk=>obtain ⟨σ',H',I',q⟩:=z;exact ⟨σ',H',I'.sP,q⟩
  | cont=>obtain ⟨σ',H',I',q⟩:=z;exact ⟨σ',H',I'.sP,q⟩
 ·obtain ⟨σ',H0,H',s0,ea,C,od,I0,rfl,F,hR⟩:=z;obtain ⟨hsub,aS⟩:=hh σ' C od H' hR;obtain ⟨B,a0,fl,cH⟩:=F.Bh;have hA:X.A.frames=some (X.env::X.outer):=by rw [<- O.ei];exact I.ok.frames
  rw [O.ei] at fl;refine aC ((Kp.noteFrame (.ref ea) X.env).any F.hd (wpAny_looks_onW (Q:=fun _ s2=>∃ h2,s2={ s1 with heap:=h2 }/\Heap.HeldW B (X.env::X.outer) ea (.ref C) a0 X.env.locals h2/\s1.heap.UpToSlots h2) hA O.frame fl fun h2 x1 x2=>⟨h2,rfl,x1,x2⟩))
   fun _ s2 ⟨⟨h2,e2,held,Nm⟩,hd2⟩=>?_
  subst e2;refine aC ((Kp.setFlight (.ref ea) none).any (s:={ s1 with heap:=h2 }) hd2 (wpAny_landsW (s:={ s1 with heap:=h2 }) (Q:=fun _ s3=>∃ h3,s3={ s1 with heap:=h3 }/\Heap.FlyingW B (X.env::X.outer) ea (.ref C) a0 h3/\h2.UpToSlots h3) held fun h3 x1 x2=>⟨h3,rfl,x1,x2⟩))
   fun _ s3 ⟨⟨h3,e3,M3,Oo⟩,Nw⟩=>?_
  subst e3;have step:∀ h4:Heap,B.StaysIn h4->s1.heap.UpToSlots h4->Inv X π σ' H' { s1 with heap:=h4 }:=fun h4 st up=>by
   obtain ⟨u,au⟩:=LN F.un F.au I0.HJ cH st up;exact I0.Jz (s':={ s1 with heap:=h4 }) (ch:=[]) F.os u au F.bare (fun b z=>absurd z (by simp))
  have I3:=step h3 M3.1 (Nm.trans Oo);refine wpAny_handleBy_cons (codeAny_handlers_test (kW (I3.lz (.ref ea)) hg hm ?_ bM)) (by intro q;cases q);refine WS I3.cj Nw c1 c2 hsub ?_;refine codeAny_handlers_suite_as ?_;refine aC ((Kp.setFlight (.ref ea) none).any (s:={ s1 with heap:=h3 }) Nw (lands_againW (s:={ s1 with heap:=h3 }) (Q:=fun _ s4=>∃ h4,s4={ s1 with heap:=h4 }/\Heap.FlyingW B (X.env::X.outer) ea (.ref C) a0 h4/\h3.UpToSlots h4) M3 fun h4 x1 x2=>⟨h4,rfl,x1,x2⟩))
   fun _ s4 ⟨⟨h4,e4,fl4,up4⟩,qT⟩=>?_
  subst e4;have I4:=step h4 fl4.1 ((Nm.trans Oo).trans up4);have f9:∀ b,(∃ o,s0.heap.get? b=some o)->b≠ea:=fun b ⟨o,e⟩ z=>by rw [z,F.new] at e;cases e
  have I5:Inv X π σ' (upd H' ea (mR ea C od)) { s1 with heap:=h4 }:=by
   refine I4.rA F.free ?_ ?_ ?_ ?_ (acO qT)
   ·cases q:X.s₀.heap.get? ea with
    | none=>rfl
    | some u=>exact absurd rfl (f9 ea (I0.base.there ea u q (by rw [O.ex];simp)))
   ·obtain ⟨m,⟨o,_,_,ho,_⟩,_⟩:=I0.loc;exact wP (f9 _ ⟨o,ho⟩)
   ·intro y c e;obtain ⟨w',o,ho,_⟩:=I0.cell y c e;exact f9 _ ⟨o,ho⟩
   ·intro p hp;exact f9 _ ⟨_,(I0.pin p hp).1⟩
  refine zD (X:=X.lz (.ref ea)) (v:=.ref ea) (I5.lz (.ref ea)) hN hi (Or.inl hn) rfl (fun s6 I6=>?_) (Or.inr hn);refine GT (hs (.ref ea) π s6 _ _ (D.yM i) I6 (aS ea F.free)) (fun f s7 z=>?_) fun _ _ z=>False.elim z;have uG:(X.env.scope.kind == .class || (X.env.scope.kind == .module && X.env.locals != X.env.globals))=false:=by rw [I.ok.kind];rfl
  have fin:∀ {σ7:St} {H7:Hp} (I7:Inv (X.lz (.ref ea)) π σ7 H7 s7) (Q:Unit->Shared->Prop),(∀ s8,Inv X π (σ7.set i none) H7 s8->Q () s8)->∀ E:Value->Shared->Prop,wpAny (model X.prog X.w) X.A (do bindName X.env n .none;unbindBehindTheSuite X.env n hpos) Q E s7:=fun {σ7 H7} I7 Q k E=>by
   have J:=I7.acQ I.ok;obtain ⟨m,hn7,hl7⟩:=id J.loc;exact wpAny_nameGoes_keeps hn hn7 uG fun h8 v DZ sb8=>k _ (J.UW hN hi hl7 DZ sb8)
  cases f with
  | next=>obtain ⟨σ7,H7,I7,q⟩:=z;exact fin I7 _ (fun s8 I8=>⟨_,H7,I8,q⟩) _
  | ret u=>obtain ⟨v,σ7,H7,I7,r,q⟩:=z;exact fin I7 _ (fun s8 I8=>⟨v,_,H7,I8,r,q⟩) _
  | brk=>obtain ⟨σ7,H7,I7,q⟩:=z;exact fin I7 _ (fun s8 I8=>⟨_,H7,I8,q⟩) _
  | cont=>obtain ⟨σ7,H7,I7,q⟩:=z;exact fin I7 _ (fun s8 I8=>⟨_,H7,I8,q⟩) _
structure gM (K:ν) (C:Addr):Prop where
 ha:W.findIn K (.ref C) "__class__" = some (some (.builtin "object.__class__"))
 hn:W.specialIn K (.builtin "object.__class__") "__get__" = some (some (.builtin "getset_descriptor.__get__"))
 fA:W.takesIn K (.builtin "object.__class__")=some true
 hm:W.mroIn K C (.type "object")=some true
 WW:W.findIn K (.ref C) "__getattribute__" = some (some (.builtin "BaseException.__getattribute__"))
 hgn:W.findIn K (.ref C) "__getattr__" = some none
 hb:W.mroIn K C (.type "BaseException")=some true
def pE {M:Model} {h:Heap} {x C:Addr} {od:Option Addr} (I:dG x (.ref C) od h):W.Looks M h (typeOf (.ref x)) (.ref C):=by
 obtain ⟨o,e,c,_⟩:=I;exact c ▸ (_I e).andThen .now
def Ma {K:ν} {C:Addr} {b:Value} {r:Bool} (h:W.mroIn K C b=some r):∃ c d cd sl,K.lookup C=some ⟨c,d,.cls cd,sl⟩:=by
 obtain ⟨cd,aV,_⟩:=Option.bind_eq_some_iff.mp h;unfold W.clsIn at aV;split at aV
 ·rename_i c' d' cd' sl' ho;exact ⟨_,_,_,_,ho⟩
 ·cases aV
section
variable {prog:Program} {w:World} {A:Around} {E:Value->Shared->Prop} {s:Shared} {K:ν} {x C:Addr} {od:Option Addr}
def Zk {M:Model} {h:Heap} {name:Str} {a g:Value} (X:K.In h) (ha:W.findIn K (.ref C) name=some (some a)) (hn:W.specialIn K a "__get__" = some (some g)) (fA:W.takesIn K a=some true) :
  W.Looks M h (Builtin.ObjectAttr.find (.ref x) (.ref C) name) (.bind g a):=by
 have L1:=P3 (M:=M) X ha;have L2:W.Looks M h (Builtin.ObjectAttr.getOf (some a)) (some g):=W.looks_specialIn X hn;have L3:=W.looks_takesIn (M:=M) X fA;unfold Builtin.ObjectAttr.find;refine L1.andThen (L2.andThen ?_);have L4:W.Looks M h (Builtin.ObjectAttr.dataDescriptor? (some a) (some g)) (some (g,a)):=by
  unfold Builtin.ObjectAttr.dataDescriptor?;exact L3.andThen .now
 exact L4.andThen (W.Looks.tag .now)
open PySem.W in
open Builtin Builtin.ObjectAttr Builtin.Getset_descriptor in
def Xl {R:Result->Shared->Prop} {tp:Value} (Z:gM K C) (X:K.In s.heap) (I:dG x (.ref C) od s.heap) (h:R (.ok (.ret (.ref C))) s) :
  codeAny (model prog w) A (.call (.builtin "getset_descriptor.__get__") ⟨[.builtin "object.__class__",.ref x,tp],[]⟩) R s:=by
 obtain ⟨hh,g,dr,t,os⟩:=s;have L0:=pE (M:=model prog w) I;have L1:=looks_mroIn (M:=model prog w) X Z.hm;refine _E KF.slot_gs.plain KF.entry_gs (KF.slot_gs.check _ _ _ _ _ _ _ _ KF.type_class (KF.args_gs _ _ _) ?_);unfold Builtin.«getset_descriptor.__get__» descrGet;rw [dga_obj];refine lv (sw ?_);unfold descrGetter descrCheckInstance descrNameAndClass isInstance;simp only [KF.owner_class]
 repeat lk
 refine ⟨Jag _ (by decide +kernel),_9 KF.entry_class ?_⟩;unfold Builtin.«object.__class__» shownTypeOf
 repeat lk
 exact h
def ZH {M:Model} {NK:Value} {Q:Unit->Shared->Prop} (Z:gM K C) (X:K.In s.heap) (I:dG x (.ref C) od s.heap) (h:Q () s):wpAny M A (checkBuiltinCall "BaseException.__getattribute__" ⟨[.ref x,NK],[]⟩) Q E s:=by
 have k1:builtinKind "BaseException.__getattribute__" = some .slot:=by decide +kernel
 have k2:splitId "BaseException.__getattribute__" = some ("BaseException","__getattribute__"):=by decide +kernel
 have k3:=PySem.F.args_bexc_ga (.ref x) NK;have L0:=pE (M:=M) I;have L1:=_j (M:=M) X Z.hb;obtain ⟨hh,g,d,t,os⟩:=s;have L2:W.Looks M hh (isInstance (.ref x) (.type "BaseException")) true:=L0.andThen L1;simp only [checkBuiltinCall,k1,k2];refine lv (L2.at ?_)
 repeat (any_goals (first | assumption | wp_step))
def acB {Q:Option Value->Shared->Prop} (Z:gM K C) (X:K.In s.heap) (I:dG x (.ref C) od s.heap) (h:Q (some (.ref C)) { s with toks:=s.toks+1 }):wpAny (model prog w) A (getAttr? (.ref x) "__class__") Q E s:=by
 obtain ⟨hh,g,d,t,os⟩:=s;have L0:=pE (M:=model prog w) I;have L1:=P3 (M:=model prog w) X Z.WW;have L2:=P3 (M:=model prog w) X Z.hgn;have L3:=Zk (M:=model prog w) (x:=x) X Z.ha Z.hn Z.fA;unfold getAttr? getAttrBy? getAttrBy;refine lv (wpAny_mkText (lv (wpAny_attempt (Id (lv (L0.at (lv (L1.at ?_))))))));show wpAny _ _ (getAttrByItsOwn (.ref x) (.str "__class__" t) (.ref C) (.builtin "BaseException.__getattribute__") false false) _ _ _;unfold getAttrByItsOwn;refine lv (L2.at ?_);refine lv (wpAny_attempt (Id ?_));show wpAny _ _ (boundAndCalled (.builtin "BaseException.__getattribute__") (.ref x) (.str "__class__" t)) _ _ _;unfold boundAndCalled;refine lv (wpAny_of_eq (PySem.F.attr_ValueError.ga.bind (.ref x)) ?_);refine _f (_E PySem.F.attr_ValueError.ga.plain PySem.F.entry_bexc_ga (ZH Z X I ?_));show wpAny _ _ (Builtin.«object.__getattribute__» ⟨[.ref x,.str "__class__" t],[]⟩) _ _ _;unfold Builtin.«object.__getattribute__»;refine lv (sw ?_);refine lv (sw ?_);refine lv (L0.at (lv (L3.at ?_)));show wpAny _ _ (Builtin.ObjectAttr.bindTo (.builtin "getset_descriptor.__get__") (.builtin "object.__class__") (.ref x) (.ref C)) _ _ _;show wpAny _ _ (holding [.builtin "object.__class__"] (call (.builtin "getset_descriptor.__get__") [.builtin "object.__class__",.ref x,.ref C]) >>= fun v=>ret v) _ _ _;refine lv (Id (_f (Xl Z X I (sw ?_))));exact sw (sw h)
def yS (Z:gM K C):W.KitX K (.ref x) (.ref C) (dG x (.ref C) od) where
 ty:=fun _ _ _ I=>pE I
 it:=fun _ _ X _=>by
  obtain ⟨c',d',cd',sl',ho⟩:=Ma Z.hm;intro A' Q' E' s' k q;unfold isType loadHead;exact lv (_S (k _ _ (X _ _ ho)) (sw q))
 ne:=fun h tp dd ao n sl X htp=>by
  obtain ⟨c',d',cd',sl',ho⟩:=Ma Z.hm;refine Bool.eq_false_iff.mpr fun q=>?_;have e:C=tp:=Value.ref.inj (_r.mp q);subst e;have z:=(X _ _ ho).symm.trans htp;cases z
 ca:=fun X I k=>acB Z X I k
end
inductive rn (K:ν) (H:Hp):V->Value->Bool->Prop where
 | of {x:V} {t:Value} (h:fP K H x t):rn K H x t false
 | exc {ea C:Addr} {od:Option Addr} (e:H ea=some (mR ea C od)) (Z:gM K C):rn K H (.ref ea) (.ref C) true
inductive tF (K:ν) (H:Hp) (t:Value):Bool->V->Bool->Prop where
 | ty {f:Bool} {n:String} {b:Bool} (e:W.kitOne K t (.type n)=some b):tF K H t f (.ty n) b
 | cls {f:Bool} {a:Addr} {b:Bool} (e:W.kitOne K t (.ref a)=some b):tF K H t f (.ref a) b
 | tup {p:Addr} {cs:List V} {us:List Value} {b:Bool} (h:H p=some (.tup cs)) (hu:∀ ws,Vals cs ws->ws=us) (e:W.kitAny K t us=some b):tF K H t true (.ref p) b
section
variable {X:Cx} {K:ν}
def B6 (K:ν):List V->Hp->VK->Prop:=fun xs H Q=>match xs with
 | [x,c]=>∃ (t:Value) (f b:Bool),rn K H x t f/\tF K H t f c b/\Q (.bl b) H
 | _=>False
def Xb {x c:V} {u v t:Value} {π:List (Addr×Obj)} {σ:St} {H:Hp} {s:Shared} {A:Around} {E:Value->Shared->Prop} {Q:Value->Shared->Prop} {f b:Bool} (I:Inv X π σ H s) (rx:RelV x u) (rc:RelV c v) (ty:rn X.K H x t f) (a:tF X.K H t f c b)
  (h:∀ tk,Q (.bool b) { s with toks:=tk }):wpAny (model X.prog X.w) A (call (.builtin "isinstance") [u,v]) Q E s:=by
 cases ty with
 | of ty =>
  cases a with
  | ty e=>cases (show v=Value.type _ from rc);exact Bx I rx ty e h
  | cls e=>cases (show v=Value.ref _ from rc);exact Bx I rx ty e h
 | @exc ea C od e Z =>
  cases (show u=Value.ref ea from rx);obtain ⟨p,_,_⟩:=(show bQ X.prog X.w H s.heap ea (mR ea C od) from I.au ea _ e);cases a with
  | ty e'=>cases (show v=Value.type _ from rc);exact IN (yS Z) I.cj p e' (fun z=>nomatch z) h
  | cls e'=>cases (show v=Value.ref _ from rc);exact IN (yS Z) I.cj p e' (fun z=>nomatch z) h
  | @tup tp cs us b hp hu e' =>
   cases (show v=Value.ref tp from rc);obtain ⟨_,ao,rv,o,ho,hc,n,hd,_⟩:=(show bQ X.prog X.w H s.heap tp (.tup cs) from I.au tp _ hp);obtain rfl:=hu ao rv;obtain ⟨oc,odd,OC,dq⟩:=o;dsimp only at hc hd;subst hc hd;exact W.kia_tup (yS Z) I.cj p ho e' (fun z=>nomatch z) h
def gR (h:X.K=K):dz X (.builtin "isinstance") (B6 K):=h ▸ fun π s σ H xs us Q I r q=>by
 unfold B6 at q;split at q
 ·rename_i x c;obtain ⟨t,f,b,ty,a,q⟩:=q;obtain ⟨u,v,rfl,ru,rv⟩:=vals2 r;exact Xb I ru rv ty a fun tk=>⟨.bl b,H,I.tok tk,rfl,q⟩
 ·exact q.elim
end
namespace Dv
section
variable {X:Cx} {st:Stmt} {t:TS}
def bg {k:Nat} {f:Addr} {fd:FuncData} {ps:List Str} {sp:Sp} {bu:List V} {ds:List Value} {R:St->XK} {x:Str} {p pos:Pos} {e:Expr} {es:List Expr} {t:TA}
  (F:aq X.prog X.w X.K X.mg X.base (aR X.prog X.w) k f fd ps sp) (hr:bc k X.A) (hm:X.mg x=some (.ref f)) (hk:W.keepIn X.K (.ref f)=true) (hb:Binds X.K fd ps ds) (hd:Vals bu ds) (hx:hJ X R)
  (ha:QA X (e::es) t) (hg:Gl X x:=by rfl) (hs:(e::es).all noStar=true:=by rfl) (bM:(x == ("__debug__":Str))=false:=by decide):QE X (.Call (.Name x p) (e::es) [] pos) (yX sp bu R t):=⟨adl F hr hg hm hk hb hd hx ha.h hs bM⟩
def jx {R:St->XK} {x:Str} {C:Addr} {e:Expr} {es:List Expr} {t:TA} {np bj pos:Pos} (hx:Raises X R) (hc:X.calm=true) (hm:X.mg x=some (.ref C)) (q:W.excIn X.K C rW "ValueError.__new__" = true) (ha:QA X (e::es) t)
  (hg:Gl X x:=by rfl) (hs:(e::es).all noStar=true:=by rfl) (bM:(x == ("__debug__":Str))=false:=by decide):QS X (.Raise (some (.Call (.Name x np) (e::es) [] bj)) none pos) (Df C R t):=⟨adC hx hc hm q ha.h hg hs bM⟩
def acU {K:ν} {Cc:Addr} (i:Nat) {n x:Str} {body o7:List Stmt} {b₀:Stmt} {np hpos pos:Pos} {tb:(St->XK)->TS} {th:TS} (hK:X.K=K) (O:Own X) (hN:X.N.Nodup) (hm:X.mg x=some (.ref Cc))
  (c1:W.instIn X.K (.ref Cc) (.type "tuple")=some false) (c2:W.mroIn X.K Cc (.type "BaseException")=some true)
  (hb:∀ π R,QB (X.n6 π R) body (tb R)) (hs:∀ v,QB (X.lz v) (b₀::o7) th) (hg:Gl X x:=by rfl) (hi:X.N[i]?=some n:=by rfl) (hn:X.env.scope.names.lookup n=some .local:=by rfl) (bM:(x == ("__debug__":Str))=false:=by decide) :
  QS X (.Try body [.ExceptHandler (some (.Name x np)) (some n) (b₀::o7) hpos] [] [] pos) (Gb K Cc i tb th):=⟨Wm i hK O hN hm c1 c2 (fun π R=>(hb π R).h) (fun v=>(hs v).h) hg hi hn bM⟩
end
end Dv
def eK.br {P:Program} {w:World} {K:ν} {mg:Str->Option Value} {base:Heap} {CX:dj} {x qual:Str} {st:Stmt} {f:Addr} {fd:FuncData} {N ps:List Str} {k:Nat} {sp:Sp} (F:eK K x qual st f fd) (S:aF N ps (ax st)) (len:∀ vs H Q E,sp vs H Q E->vs.length=ps.length)
  (hb:∀ (cdv:Value) (A:Around) (outer:List Env) (s:Shared) (H:Hp) (vs:List V) (Q:VK) (E:XK),bc k (A.deeper (envOfC qual (ax st) s.heap.objs.size f cdv))->sp vs H Q E ->
   ∃ t,dv (c7 CX P w K mg base N qual (ax st) f cdv A outer s H E) (aN st) t/\t { nx:=fun _ H'=>Q .aw H',rt:=Q } (start N vs) H):aq P w K mg base CX (k+1) f fd ps sp:=by
 obtain ⟨oc,od,kV,doc,pm,an,cdv,ct,dq,rfl,lk,aV⟩:=F.ex;exact v8 lk aV S len fun A outer s H vs Q E hr dm=>hb cdv A outer s H vs Q E hr dm
def sA:List Value->Bool
 | []=>false
 | v::r=>(v::r) == rW || match v with
  | .ref _=>sA r
  | _=>false
def Gh (self:Value):∀ {l:List Value},sA l=true->refuseLoop self "__setattr__" l=pure ()
 | [],e=>nomatch e
 | v::r,e=>by
  unfold sA at e;rcases Bool.or_eq_true_iff.mp e with q | q
  ·rw [_r.mp q];exact PySem.F.store_ValueError.passes self
  ·split at q
   ·rw [refuseLoop_ref];exact Gh self q
   ·cases q
def vk (K:ν) (C:Addr):Bool:=match K.lookup C with
 | some ⟨.type "type",_,.cls cd,sl⟩=>(match cd.mro,sl.toList with
  | .ref C'::bm,[_,_,_,_,some (.builtin n),_]=>C' == C && n == "ValueError.__new__" && !cd.hasDel && W.tailIn K rW bm && sA cd.mro && cd.hasDict
  | _,_=>false)
 | _=>false
structure kb (K:ν) (C f:Addr) (fld:Str):Prop where
 q:vk K C=true
 hi:W.findIn K (.ref C) "__init__" = some (some (.ref f))
 hf:W.typeIn K (.ref f)=some (.type "function")
 sa:W.findIn K (.ref C) "__setattr__" = some (some (.builtin "object.__setattr__"))
 na:W.findIn K (.ref C) fld=some none
 ob:W.mroIn K C (.type "object")=some true
 be:W.mroIn K C (.type "BaseException")=some true
 self:W.mroIn K C (.ref C)=some true
 kp:W.keepIn K (.ref C)=true
def BJ {K:ν} {h:Heap} {C:Addr} (X:K.In h) (q:vk K C=true) :
  ∃ bm N nm q bs sn sub ab col dd k0 k1 k2 k3 k5,h.get? C=some (excClassObj nm q C N bs bm true sn sub ab col dd k0 k1 k2 k3 k5 "ValueError.__new__")/\OwnTail h rW bm/\sA (.ref C::bm)=true:=by
 unfold vk at q;split at q
 ·rename_i dd cd sl ho;split at q
  ·rename_i C' bm k0 k1 k2 k3 n k5 hm hs;simp only [Ch,_r,Bool.not_eq_true'] at q;obtain ⟨⟨⟨⟨⟨q1,q2⟩,q3⟩,q4⟩,q5⟩,q6⟩:=q;subst q1 q2;obtain ⟨nm,bs,mro,ns,qn,hd,sn,sub,ab,col,del⟩:=cd;dsimp only at hm q3 q5 q6;subst hm q3 q6;have e1:sl=#[k0,k1,k2,k3,some (.builtin "ValueError.__new__"),k5]:=by
    obtain ⟨l⟩:=sl;simp only at hs;rw [hs]
   subst e1;exact ⟨bm,ns,nm,qn,bs,sn,sub,ab,col,dd,k0,k1,k2,k3,k5,X _ _ ho,W.tail_of_in X q4,q5⟩
  ·cases q
 ·cases q
section
variable {prog:Program} {w:World} {A:Around} {E:Value->Shared->Prop} {s:Shared} {K:ν} {x C f:Addr} {fld:Str} {v:Value}
open Builtin Builtin.ObjectAttr in
def ab3 {Q:Unit->Shared->Prop} (Z:kb K C f fld) (X:K.In s.heap) (I:dG x (.ref C) none s.heap)
  (h:∀ h' d tk,s.heap.objs.size<=d->d≠x->(∃ o,s.heap.get? x=some o/\h'.get? x=some { o with dict:=some d })->h'.Ns1 d (fun y=>if y=fld then some v else none)->(∀ b o,b≠x->s.heap.get? b=some o->h'.get? b=some o)->Q () { s with heap:=h',toks:=tk }) :
  wpAny (model prog w) A (setAttr (.ref x) fld v) Q E s:=by
 obtain ⟨hh,g,dr,t,os⟩:=s;have L0:=pE (M:=model prog w) I;have L1:=P3 (M:=model prog w) X Z.sa;have L2:=P3 (M:=model prog w) X Z.na;obtain ⟨bm,N,nm,qn,bs,sn,sub,ab,col,dd,k0,k1,k2,k3,k5,hC,T,hve⟩:=BJ X Z.q;have Lo:=_j (M:=model prog w) X Z.ob;have Li:W.Looks (model prog w) hh (isInstance (.ref x) (.type "object")) true:=L0.andThen Lo;have SF:=PySem.F.store_object;refine lv (wpAny_mkText (lv (lv (lv (L0.at (L1.at (Id ?_)))))));rw [SF.slot.bind];refine lv (sw (lv (_f ?_)));refine _E SF.slot.plain SF.entry ?_;refine @W.check_slot (model prog w) _ _ ⟨hh,g,dr,t+1,os⟩ "object.__setattr__" "object" "__setattr__" (.ref x) [.str fld t,v] [] _ SF.kind SF.split Li (SF.args (.ref x) (.str fld t) v) ?_;show wpAny _ _ (Builtin.«object.__setattr__» ⟨[.ref x,.str fld t,v],[]⟩) _ _ _;rw [W.osa_eq,refuse_eq];refine lv (lv (L0.at (lv (wpAny_mroOf_exc hC ?_))));rw [Gh _ hve];refine sw (lv (L0.at (lv (L2.at (lv (sw ?_))))));obtain ⟨o,hx,hc,qV,vs,gI⟩:=I;show wpAny _ _ (storeInOwnDict (.ref x) (.ref C) (.str fld t) fld v false) _ _ _;have Lc:W.Looks (model prog w) hh (classData C) _:=(_I (part:=none) hC).andThen .now;obtain ⟨oc,od,OC,dq⟩:=o;dsimp only at hc qV gI;subst hc qV gI;have cu:(hh.push { cls:=.type "dict",data:=.dict #[] }).get? x=some ⟨.ref C,none,.fields vs,dq⟩:=pc _ hx;have EA:x≠hh.objs.size:=xL (sB hx);unfold storeInOwnDict ownDictForStores instanceDict;refine lv (sw ?_);refine lv (lv (_S hx (lv (Lc.at ?_))));refine lv (wpAny_alloc' ?_);refine lv (wpAny_update' cu (sw ?_));show wpAny _ _ (storeInDict hh.objs.size (.str fld t) fld v) _ _ _;have hself:((hh.push { cls:=.type "dict",data:=.dict #[] }).update x fun o=>{ o with dict:=some hh.objs.size }).get? x=some ⟨.ref C,some hh.objs.size,.fields vs,dq⟩:=Rs _ cu rfl;have hdict:((hh.push { cls:=.type "dict",data:=.dict #[] }).update x fun o=>{ o with dict:=some hh.objs.size }).get? hh.objs.size=some { cls:=.type "dict",data:=.dict #[] } :=
  (Heap.get?_update_ne _ _ _ _ EA.symm).trans (Heap.get?_push_at rfl rfl)
 have hoth:∀ b o,b≠x->hh.get? b=some o->((hh.push { cls:=.type "dict",data:=.dict #[] }).update x fun o=>{ o with dict:=some hh.objs.size }).get? b=some o:=fun b o hb e =>
  (Heap.get?_update_ne _ _ _ _ hb).trans (pc _ e)
 have eD:((hh.push { cls:=.type "dict",data:=.dict #[] }).update x fun o=>{ o with dict:=some hh.objs.size }).Ns hh.objs.size (fun _=>none):=⟨_,#[],_,hdict,rfl,fun e he=>absurd he (by simp),fun _=>rfl⟩;unfold storeInDict newKeyGuard;refine lv (sw (lv (wpAny_nsSet1 (Heap.Ns1.of_empty eD) fun h' hn' hs=>?_)));obtain ⟨oD,fU,epD,D4,DM,DQ⟩:=hn'.count (Within.cons fld v Within.nil);refine lv (wpAny_lookBehind D4 (by rw [DM];exact pastItsLine_dict (wE DQ (by rw [FS,_8,_n];omega))) ?_);refine sw (sw (sw ?_));exact h h' hh.objs.size _ (ul _) (wP EA) ⟨_,hx,(hs.2 x EA).trans hself⟩ hn' fun b o hb e=>(hs.2 b (xL (sB e))).trans (hoth b o hb e)
end
def lY (e:Addr) (c:Value) (od:Option Addr) (h:Heap):Prop:=∃ o,h.get? e=some o/\o.cls=c/\o.dict=od/\∃ vs a0,o.data=.fields vs/\vs[1]?=some .none/\vs[0]?=some a0
def lY.hd {e:Addr} {c:Value} {od:Option Addr} {h:Heap} (x:lY e c od h):dG e c od h:=let ⟨o,a,b,c,vs,_,d,_⟩:=x;⟨o,a,b,c,vs,d⟩
def dE (ea C:Addr) (od:Option Addr):HO:=.ext (lY ea (.ref C) od)
def KY {P:Program} {w:World} {H:Hp} {h:Heap} {ea C:Addr} {od:Option Addr} (x:lY ea (.ref C) od h):bQ P w H h ea (dE ea C od) :=
 ⟨x,let ⟨o,e,_⟩:=x;⟨o,e⟩,fun _ _ ⟨o,e,r⟩ k=>⟨o,k o e,r⟩⟩
def aco {h h':Heap} {e:Addr} {cls:Value} {args:List Value} (hx:Heap.MadeExcOf h h' e cls args):lY e cls none h':=by
 obtain ⟨t,he,_⟩:=hx.there;exact ⟨_,he,rfl,rfl,_,_,rfl,rfl,rfl⟩
def Av (C:Addr) (fld:Str) (ta tv:TE):TS:=fun D σ H=>tv σ H fun y H1=>ta σ H1 fun x H2=>∃ ea,x=.ref ea/\H2 ea=some (dE ea C none)/\∀ d,H2 d=none->D.nx σ (upd (upd H2 ea (dE ea C (some d))) d (.xd [(fld,y)]))
def OU {fld g:Str} {y:V} {u:Value} (r:RelV y u):eL (([(fld,y)]:List (Str×V)).lookup g) (if g=fld then some u else none):=by
 by_cases h:g=fld
 ·have hb:(g == fld)=true:=_r.mpr h;simp only [List.lookup,hb,AT h];exact r
 ·have hb:(g == fld)=false:=Fa.mpr h;simp only [List.lookup,hb,zn h];exact True.intro
section
variable {X:Cx} {C f:Addr} {fld:Str} {o value:Expr} {ta tv:TE} {pos pos':Pos}
def XX (Z:kb X.K C f fld) (ha:PE X o ta) (hv:PE X value tv) (hs:swapsWith value (some (.Attribute o fld pos')) pos.line X.env=pure false):PS X (.Assign [.Attribute o fld pos'] value pos) (Av C fld ta tv):=by
 intro π s σ H D I h;refine plainObj_wpAny_Assign_Attribute (aC (hv π s σ H _ I h) fun u s1 ⟨y,H1,I1,ry,q⟩=>aC (ha π s1 σ H1 _ I1 q) fun ov s2 ⟨x,H2,I2,rx,ea,ex,he,q2⟩=>?_) hs;subst ex;obtain rfl:ov=Value.ref ea:=rx;obtain ⟨p,_,_⟩:=(show bQ X.prog X.w H2 s2.heap ea (dE ea C none) from I2.au ea _ he);refine ab3 Z I2.cj p.hd fun h' d tk hsz lU ux eD hkeep=>?_;obtain ⟨o0,e0,e1⟩:=ux;obtain ⟨o0',e0',c0,d0,vs,a0,v0⟩:=p;rw [e0] at e0';cases e0';have hd':lY ea (.ref C) (some d) h':=⟨_,e1,c0,rfl,vs,a0,v0⟩;have gp:H2 d=none:=I2.au.fresh hsz;have J:Inv X π σ (upd H2 ea (dE ea C (some d))) { s2 with heap:=h',toks:=tk } :=
  I2.write (x:=ea) (e:=ea) (o:=dE ea C (some d)) (t':=tk) (by rw [he];exact True.intro) (.inl rfl) hkeep ⟨_,e1⟩ (KY hd')
 have big:∀ b,(∃ u,s2.heap.get? b=some u)->b≠d:=fun b ⟨u,e⟩ z=>absurd (sB e) (by rw [z];exact Nat.not_lt.mpr hsz);refine ⟨σ,_,J.rA (a:=d) (o:=.xd [(fld,y)]) (by rw [aj lU];exact gp) (ST (wE I2.sz hsz)) ?_ ?_ ?_ ⟨_,eD,fun g=>OU ry⟩,q2 d gp⟩
 ·obtain ⟨m,⟨o,_,_,ho,_⟩,_⟩:=I2.loc;exact wP (big _ ⟨o,ho⟩)
 ·intro z c e;obtain ⟨w',o,ho,_⟩:=I2.cell z c e;exact big _ ⟨o,ho⟩
 ·intro p hp;exact big _ ⟨_,(I2.pin p hp).1⟩
end
def mF (C:Addr) (fld:Str):Sp:=fun vs H Q _=>match vs with
 | [.ref ea,y]=>H ea=some (dE ea C none)/\∀ d,H d=none->Q .aw (upd (upd H ea (dE ea C (some d))) d (.xd [(fld,y)]))
 | _=>False
section
variable {prog:Program} {w:World} {A:Around} {E:Value->Shared->Prop} {h:Heap} {g:Array GenState} {d:Drawn} {t:Nat} {os:OsState} {K:ν} {C f:Addr} {fld:Str}
def OS {rest:List Value} {Q:Fin->Shared->Prop} (Z:kb K C f fld) (X:K.In h) (dY:rest.length<=sizeLine)
  (hq:∀ h' e,Heap.MadeExcOf h h' e (.ref C) rest->wpAny (model prog w) A (call (.ref f) (.ref e::rest)) (fun r s'=>r=.none/\Q (.done (.ret (.ref e))) s') E ⟨h',g,d,t,os⟩) :
  wpAny (model prog w) A (Builtin.«type.__call__» ⟨.ref C::rest,[]⟩) Q E ⟨h,g,d,t,os⟩:=by
 have F:=_D;obtain ⟨bm,N,nm,qn,bs,sn,sub,ab,col,dd,k0,k1,k2,k3,k5,hC,T,_⟩:=BJ X Z.q
 repeat (first | with_reducible refine wpAny_loadPart_at hC ?_ | with_reducible refine wpAny_madeBy_exc hC ?_ | wp_step)
 refine codeAny_call_builtin_code (Jag _ F.quiet) (wpAny_check_new_subT F T hC (codeAny_exc_new_subT F T hC ?_ dY));show wpAny _ _ _ _ _ _;have kk:∀ b o,h.get? b=some o->((h.push { cls:=.type "tuple",data:=.seq rest.toArray }).push { cls:=.ref C,data:=.fields #[.ref h.objs.size,.none,.none,.none,.bool false,.none] }).get? b=some o:=fun b o e=>pc _ (pc _ e);have MJ:((h.push { cls:=.type "tuple",data:=.seq rest.toArray }).push { cls:=.ref C,data:=.fields #[.ref h.objs.size,.none,.none,.none,.bool false,.none] }).get? (h.objs.size+1)=some { cls:=.ref C,data:=.fields #[.ref h.objs.size,.none,.none,.none,.bool false,.none] }:=by heap_get
 have Ob:((h.push { cls:=.type "tuple",data:=.seq rest.toArray }).push { cls:=.ref C,data:=.fields #[.ref h.objs.size,.none,.none,.none,.bool false,.none] }).get? h.objs.size=some { cls:=.type "tuple",data:=.seq rest.toArray }:=pc _ (Heap.get?_push_at rfl rfl);generalize N3:(h.push { cls:=.type "tuple",data:=.seq rest.toArray }).push { cls:=.ref C,data:=.fields #[.ref h.objs.size,.none,.none,.none,.bool false,.none] }=h2 at kk MJ Ob ⊢;have made:Heap.MadeExcOf h h2 (h.objs.size+1) (.ref C) rest:=⟨kk,ST (_2 _),h.objs.size,MJ,ST (ul _),Ob⟩;have X2:K.In h2:=fun b o e=>kk b o (X b o e);have L0:=pE (M:=model prog w) (Js made);have L1:=P3 (M:=model prog w) X2 Z.hi;have Lb:=W.bind_fn (M:=model prog w) X2 (.ref (h.objs.size+1)) Z.hf;have Ls:W.Looks (model prog w) h2 (isSubtype (.ref C) (.ref C)) true:=_j X2 Z.self;have Li:W.Looks (model prog w) h2 (isInstance (.ref (h.objs.size+1)) (.ref C)) true:=L0.andThen Ls;refine lv (Li.at ?_);simp only [_y,FB,Ty];refine lv (Id ?_);unfold callSpecial? specialOf;refine lv (lv (L0.at (L1.at ?_)));refine Id (lv (Lb.at (lv (GT (hq h2 _ made) (fun r s' z=>?_) fun _ _ z=>z))));obtain ⟨rfl,z⟩:=z;exact sw (sw z)
def Rt {rest:List Value} {Q:Value->Shared->Prop} (Z:kb K C f fld) (X:K.In h) (dY:rest.length<=sizeLine)
  (hq:∀ h' e,Heap.MadeExcOf h h' e (.ref C) rest->wpAny (model prog w) (A.under (.builtin "type.__call__" ⟨.ref C::rest,[]⟩)) (call (.ref f) (.ref e::rest)) (fun r s'=>r=.none/\Q (.ref e) s') E ⟨h',g,d,t,os⟩) :
  wpAny (model prog w) A (call (.ref C) rest) Q E ⟨h,g,d,t,os⟩:=by
 obtain ⟨bm,N,nm,qn,bs,sn,sub,ab,col,dd,k0,k1,k2,k3,k5,hC,T,_⟩:=BJ X Z.q;have f1:=tc_lookup;have f2:=tc_bind (.ref C);have hT:(⟨h,g,d,t,os⟩:Shared).TypeIs (.ref C) "type" := ⟨_,hC,rfl⟩;refine _f (codeAny_of_tree ?_);show wpAny _ _ (callAny (.ref C) _) _ _ _
 repeat (any_goals (first | assumption | with_reducible refine wpAny_loadPart_at hC ?_ | wp_step))
 exact ⟨rfl,codeAny_call_builtin_at (Jag _ (by decide +kernel)) entry_typeCall (wpAny_check_type_call_sub hC (OS Z X dY fun h' e hm=>hq h' e hm))⟩
end
def TL {M:Model} {A:Around} {E:Value->Shared->Prop} {s:Shared} {env:Env} {K:ν} {C:Addr} {x:Sem Value} {Q:Flow->Shared->Prop} (hb:W.mroIn K C (.type "BaseException")=some true) (cm:W.typeIn K (.ref C)=some (.type "type")) (hh:A.handled=none)
  (h:wpAny M A x (fun v s₁=>∃ e o vs,v=.ref e/\s₁.heap.get? e=some o/\o.cls=.ref C/\o.data=.fields vs/\vs[1]?=some .none/\K.In s₁.heap/\E (.ref e) s₁) E s) :
  wpAny M A (raiseStmt env (some x) none) Q E s:=by
 unfold raiseStmt;refine lv (GT h (fun v s₁ h₁=>?_) fun _ _ x=>x);obtain ⟨e,o,vs,rfl,he,hc,hd,h1,X,hE⟩:=h₁;obtain ⟨hp,g,d,tk,os⟩:=s₁;have L0:W.Looks M hp (typeOf (.ref e)) (.ref C):=hc ▸ (_I he).andThen .now;have L1:=_j (M:=M) X hb;have L2:W.Looks M hp (isType (.ref e)) false:=by
  obtain ⟨oc,od,OC,dq⟩:=o;dsimp only at hd;subst hd;intro A' Q' E' s' k q;unfold isType loadHead;exact lv (_S (k _ _ he) (sw q))
 have L3:W.Looks M hp (isExcClass (.ref e)) false:=L2.andThen .now;have L4:W.Looks M hp (isInstance (.ref e) (.type "BaseException")) true:=L0.andThen L1;have L5:=W.looks_typeIn (M:=M) X cm;refine lv (sw (lv (Id ?_)));unfold excFromValue;refine lv (L3.at ?_);simp only [FB,Ty];refine lv (L4.at ?_);simp only [Ja8];refine sw ?_;refine lv (L2.at ?_);simp only [FB,Ty];unfold raisedInstance;refine lv (lv (L0.at (lv (L5.at ?_))));refine sw ?_;unfold setFlight;refine lv (lv (wpAny_field he hd h1 ?_));refine sw ?_;exact wpAny_raiseNew_none hh hE
def Kv {fs:List Addr} {H H':Hp} {h h1 base:Heap} (u:Un fs [] H H' h h1):∀ l:List Env,(∀ b∈bK l,b∈fs/\H b=none)->h.FunFrames base l->h1.FunFrames base l
 | [],_,_=>trivial
 | env::r,hs,⟨hk,⟨L,o,hf,hn,ho,hd⟩,hr⟩=>by
  have e:bK (env::r)=L::bK r:=by
   unfold bK;rw [_h,hf]
  obtain ⟨h1',h2'⟩:=hs L (by rw [e];exact _p);obtain ⟨sl,e1⟩:=u.slot L o ho h2' h1' (by simp);exact ⟨hk,⟨L,_,hf,hn,e1,hd⟩,Kv u r (fun b hb=>hs b (by rw [e];exact KK _ hb)) hr⟩
section
variable {X:Cx} {π:List (Addr×Obj)} {σ:St} {H H':Hp} {s s1:Shared} {ea C:Addr} {od:Option Addr}
def Inv.S9 {M:Model} {A:Around} {E:Value->Shared->Prop} (I:Inv X π σ H s) (O:Own X) (hA:A.frames=some X.stack) (os:s1.os=s.os) (bare:AllBare s1.gens) (un:Un (bK X.stack) [] H H' s.heap s1.heap) (au:bD X.prog X.w H' s1.heap)
  (free:H' ea=none) (new:s.heap.get? ea=none) (hn:lY ea (.ref C) od s1.heap):wpAny M A (leaving X.env (.ref ea)) (fun _ s''=>nY X.prog X.w X.outer X.H₀ X.s₀ ea C od H' s'') E s1:=by
 have bt:(W.hideAll s1.heap (ea::bK X.stack)).StaysIn s1.heap:=fun b o q=>Ja9 _ q;have lW:s1.heap.FunFrames (W.hideAll s1.heap (ea::bK X.stack)) X.stack:=W.funFrames_hide (Kv un X.stack (fun b hb=>⟨hb,I.wH b hb⟩) I.stack) fun env he a ha=>KK _ (_q.mpr ⟨env,he,ha⟩);have Eo:(W.hideAll s1.heap (ea::bK X.stack)).get? ea=none:=W.hideAll_none _ _p;have cH:sC (W.hideAll s1.heap (ea::bK X.stack)) (bK X.stack) s.heap H' s1.heap:=fun b o e hb z=>by
  refine Ja1 _ e fun hm=>?_;rcases pi.mp hm with q | q
  ·rcases z with ⟨u,z⟩ | ⟨u,z⟩
   ·rw [q,new] at z;cases z
   ·rw [q,free] at z;cases z
  ·exact hb q
 generalize W.hideAll s1.heap (ea::bK X.stack)=B at bt lW Eo cH;rw [O.ei] at lW hA;obtain ⟨oe,he,hc,xS,vs,a0,hd,h1,h0⟩:=id hn;refine aC ((Kp.leaving X.env (.ref ea)).any hn.hd (wpAny_leaving_firstW (Q:=fun _ s''=>∃ h2,s''={ s1 with heap:=h2 }/\Heap.LeftW B (X.env::X.outer) ea oe.cls a0 s1.heap h2) hA lW O.frame he bt Eo hd h1 h0 fun h2 x=>⟨h2,rfl,x⟩)) fun _ s'' ⟨⟨h2,e,k1,⟨_,_,k2⟩,k3,k4⟩,hd2⟩=>?_;subst e;rw [hc] at k3;exact I.B2 (s':={ s1 with heap:=h2 }) O os bare un au free new cH ⟨k1,Eo,k2,k3⟩ k4 hd2
structure Bp (X:Cx) (R:St->XK):Prop where
 made:∀ (π:List (Addr×Obj)) (σ:St) (H H':Hp) (s s1:Shared) (ea C:Addr) (od:Option Addr),Inv X π σ H s->s1.os=s.os->AllBare s1.gens->Un (bK X.stack) [] H H' s.heap s1.heap->bD X.prog X.w H' s1.heap->H' ea=none->s.heap.get? ea=none ->
  lY ea (.ref C) od s1.heap->R σ (.ref C) od H'->X.xe (.ref ea) s1
end
def sU {P:Program} {w:World} {K:ν} {mg:Str->Option Value} {base:Heap} {N:List Str} {qual:Str} {scope:Scope} {f:Addr} {cd:Value} {A:Around} {outer:List Env} {s₀:Shared} {H₀:Hp} {E:XK} :
  Bp (c7 (aR P w) P w K mg base N qual scope f cd A outer s₀ H₀ E) (fun _=>E) where
 made:=fun π σ H H' s s1 ea C od I os bare un au free new hn hE=>aC (I.S9 ⟨rfl,rfl,rfl⟩ I.ok.frames os bare un au free new hn) fun _ s'' z=>⟨ea,C,od,H',rfl,z,hE⟩
def DF (C:Addr) (fld:Str) (R:St->XK) (t:TA):TS:=fun _ σ H=>t σ H fun vs H1=>∃ v,vs=[v]/\∀ d,H1 d=none->R σ (.ref C) (some d) (upd H1 d (.xd [(fld,v)]))
def ac5 {X:Cx} {R:St->XK} {x fld:Str} {C f:Addr} {fd:FuncData} {k:Nat} {ps:List Str} {e:Expr} {es:List Expr} {t:TA} {np bj pos:Pos} (hx:Bp X R) (hex:X.ex=[]) (hc:X.calm=true) (hm:X.mg x=some (.ref C)) (Z:kb X.K C f fld) (cm:W.typeIn X.K (.ref C)=some (.type "type"))
  (F:aq X.prog X.w X.K X.mg X.base aP k f fd ps (mF C fld)) (hr:bc (k+1) X.A) (hb:Binds X.K fd ps []) (ha:PA X (e::es) t)
  (hg:Gl X x:=by rfl) (hs:(e::es).all noStar=true:=by rfl) (bM:(x == ("__debug__":Str))=false:=by decide):PS X (.Raise (some (.Call (.Name x np) (e::es) [] bj)) none pos) (DF C fld R t):=by
 have hs':=hs;rw [KB,Ch] at hs';intro π s σ H D I h;rw [arm_exec_Raise];refine lv (_1 ?_);show wpAny _ _ (raiseStmt X.env (some (do let v <- eval (.Call (.Name x np) (e::es) [] bj) X.env;standAt pos;pure v)) none) _ _ s;refine TL Z.be cm (I.ok.hd hc) (lv (GT (Go (kW I hg hm ?_ bM)) (fun v s3 h3=>lv (_1 (sw h3))) fun _ _ z=>z));refine SL (h₀:=X.base) I.ok.mod.gS Z.kp (aC (ha bj π s σ H _ I h) fun us s2 ⟨vs,H2,I2,r,v,ev,hR⟩=>⟨I2.cj,?_⟩) (fY hs'.1) (ir hs'.2);subst ev;obtain ⟨u,rfl,ru⟩:=vals1 r;obtain ⟨h2,g2,d2,t2,yh⟩:=s2;refine Rt Z I2.cj (by show 1<=sizeLine;decide) fun h3 ex m4=>?_;have f9:∀ b,(∃ o,h2.get? b=some o)->b≠ex:=fun b ⟨o,e'⟩ z=>by
  have:=m4.new;rw [z,this] at e';cases e'
 have mU:H2 ex=none:=by
  cases q:H2 ex with
  | none=>rfl
  | some o=>exact absurd rfl (f9 ex (I2.au ex o q).there)
 have I3:Inv X π σ H2 ⟨h3,g2,d2,t2,yh⟩:=I2.kept (t':=t2) m4.keeps;have I4:Inv X π σ (upd H2 ex (dE ex C none)) ⟨h3,g2,d2,t2,yh⟩:=by
  refine I3.rA mU ?_ ?_ ?_ ?_ (KY (aco m4))
  ·cases q:X.s₀.heap.get? ex with
   | none=>rfl
   | some o =>
    exact absurd rfl (f9 ex (I2.base.there ex o q (by rw [hex];simp)))
  ·obtain ⟨m,⟨o,_,_,ho,_⟩,_⟩:=I2.loc;exact wP (f9 _ ⟨o,ho⟩)
  ·intro y c e';obtain ⟨w',o,ho,_⟩:=I2.cell y c e';exact f9 _ ⟨o,ho⟩
  ·intro p hp;exact f9 _ ⟨_,(I2.pin p hp).1⟩
 have hl:([Value.ref ex,u]++([]:List Value)).length=ps.length:=by
  have:=F.len [.ref ex,v] (upd H2 ex (dE ex C none)) (fun _ _=>True) E0 ⟨ay,fun _ _=>True.intro⟩;exact this
 refine _f (Uf (F.run (X.A.under (.builtin "type.__call__" ⟨[.ref C,u],[]⟩)) X.stack ⟨h3,g2,d2,t2,yh⟩ (upd H2 ex (dE ex C none)) ⟨[.ref ex,u],[]⟩ [.ref ex,u] [.ref ex,v]
  (fun r H5=>r=.aw/\∃ d,upd H2 ex (dE ex C none) d=none/\H5=upd (upd (upd H2 ex (dE ex C none)) ex (dE ex C (some d))) d (.xd [(fld,v)])) E0 (hr.make C [u] []) (I4.qk.make C [u] []) (hb _ [.ref ex,u] I4.cj hl) (.cons rfl (.cons ru .nil))
  ⟨ay,fun d hd=>⟨rfl,d,hd,rfl⟩⟩) fun r s5 hq=>?_)
 cases r with
 | error e'=>exact False.elim hq
 | ok fl =>
  cases fl with
  | next=>exact False.elim hq
  | brk=>exact False.elim hq
  | cont=>exact False.elim hq
  | ret u5 =>
   obtain ⟨v5,H5,os5,bare5,mW,DI,rv5,rfl,d,qT,rfl⟩:=hq;have lU:d≠ex:=fun z=>by rw [z,ay] at qT;cases qT
   have hd2:H2 d=none:=by rw [aj lU] at qT;exact qT
   have e5:upd (upd (upd H2 ex (dE ex C none)) ex (dE ex C (some d))) d (.xd [(fld,v)]) ex=some (dE ex C (some d)):=by rw [aj (wP lU),ay]
   have e6:∀ b,b≠ex->upd (upd (upd H2 ex (dE ex C none)) ex (dE ex C (some d))) d (.xd [(fld,v)]) b=upd H2 d (.xd [(fld,v)]) b:=fun b hb=>by
    by_cases q:b=d
    ·rw [q,ay,ay]
    ·rw [aj q,aj hb,aj hb,aj q]
   have e7:upd H2 d (.xd [(fld,v)]) ex=none:=by rw [aj (wP lU)];exact mU
   have e4:∀ b,b≠ex->upd H2 ex (dE ex C none) b=H2 b:=fun b hb=>aj hb;generalize upd (upd (upd H2 ex (dE ex C none)) ex (dE ex C (some d))) d (.xd [(fld,v)])=H5 at mW DI e5 e6;obtain ⟨hN,_,_⟩:=(show bQ X.prog X.w H5 s5.heap ex (dE ex C (some d)) from DI ex _ e5);have ra:∀ b o,H2 b=some o->b≠ex:=fun b o q=>gd q mU;have OF:Un (bK X.stack) [] H2 (upd H2 d (.xd [(fld,v)])) h2 s5.heap:=by
    refine ⟨fun b o q n hb hx=>?_,fun b o q n hb hx=>?_,fun b o q n hx=>?_,fun b o q hx=>?_,fun b xs q=>?_,fun b o v' q=>?_,fun b ps' q=>?_⟩
    ·exact mW.keep b o (m4.keeps b o q) (by rw [e4 b (f9 b ⟨o,q⟩)];exact n) hb hx
    ·exact mW.slot b o (m4.keeps b o q) (by rw [e4 b (f9 b ⟨o,q⟩)];exact n) hb hx
    ·rw [<- e6 b (f9 b ⟨o,q⟩)];exact mW.free b o (m4.keeps b o q) (by rw [e4 b (f9 b ⟨o,q⟩)];exact n) hx
    ·exact mW.there b o (m4.keeps b o q) hx
    ·rw [<- e6 b (ra b _ q)];exact mW.fb b xs (by rw [e4 b (ra b _ q)];exact q)
    ·rw [<- e6 b (ra b _ q)];exact mW.eM b o v' (by rw [e4 b (ra b _ q)];exact q)
    ·rw [<- e6 b (ra b _ q)];exact mW.eT b ps' (by rw [e4 b (ra b _ q)];exact q)
   have hokF:bD X.prog X.w (upd H2 d (.xd [(fld,v)])) s5.heap:=fun b o q=>by
    have hb:b≠ex:=fun z=>by rw [z,e7] at q;cases q
    have q5:H5 b=some o:=by rw [e6 b hb];exact q
    have ne5:∀ c o',H5 c=some o'->o'≠dE ex C (some d)->c≠ex:=fun c o' z1 z2 z=>by rw [z,e5] at z1;exact z2 (Fk z1).symm
    refine (DI b o q5).gX (fun _ _ _ z=>z) (fun c z=>?_) fun c xs z=>?_
    ·rw [<- e6 c (ne5 c _ z (fun z'=>by cases z'))];exact z
    ·rw [<- e6 c (ne5 c _ z (fun z'=>by cases z'))];exact z
   obtain ⟨oe,he,yq,xS,vs',a0,yf,h1,h0⟩:=id hN;refine ⟨rv5,ex,oe,vs',rfl,he,yq,yf,h1,?_,hx.made π σ H2 _ ⟨h2,g2,d2,t2,yh⟩ s5 ex C (some d) I2 os5 bare5 OF hokF e7 m4.new hN (hR d hd2)⟩;exact I2.ok.mod.gS.keeps fun b o z=>OF.keep b o (I2.bs b o z).1 (I2.bs b o z).2 (fun hb=>by have:=(I2.stack.mem hb).1;rw [z] at this;cases this) (by simp)
section
variable {prog:Program} {w:World} {A:Around} {E:Value->Shared->Prop} {s:Shared} {K:ν} {x C f d:Addr} {fld:Str}
end
def QF (C:Addr) (fld:Str) (ta:TE):TE:=fun σ H Q=>ta σ H fun x H1=>∃ ea d fs v,x=.ref ea/\H1 ea=some (mR ea C (some d))/\H1 d=some (.xd fs)/\fs.lookup fld=some v/\Q v H1
inductive FI (C:Addr) (f:Str) (x:V) (H:Hp) (Q:V->Prop):Prop
 | mk:∀ a dx fs v,x=.ref a->H a=some (.ins C dx fs)->fs.lookup f=some v->Q v->FI C f x H Q
inductive SI (C:Addr) (f:Str) (x y:V) (H:Hp) (R:Hp->Prop):Prop
 | mk:∀ a dx fs,x=.ref a->H a=some (.ins C dx fs)->fs.length < 1000->R (upd H a (.ins C dx (aA f y fs)))->SI C f x y H R
inductive AI (C:Addr) (f:Str) (x:V) (H:Hp) (Q:Addr->V->Prop):Prop
 | mk:∀ a dx fs v,x=.ref a->H a=some (.ins C dx fs)->fs.lookup f=some v->Q a v->AI C f x H Q
inductive BI (C:Addr) (f:Str) (a:Addr) (z:V) (H:Hp) (R:Hp->Prop):Prop
 | mk:∀ dx fs,H a=some (.ins C dx fs)->fs.length < 1000->R (upd H a (.ins C dx (aA f z fs)))->BI C f a z H R
def AB (C:Addr) (f:Str) (ta:TE):TE:=fun σ H Q=>ta σ H fun x H1=>FI C f x H1 fun v=>Q v H1
def sQ (C:Addr) (f:Str) (ta tv:TE):TS:=fun D σ H=>tv σ H fun y H1=>ta σ H1 fun x H2=>SI C f x y H2 fun H3=>D.nx σ H3
def zw (C:Addr) (f:Str) (ta tv:TE) (rd:R2):TS:=fun D σ H=>ta σ H fun x H1=>AI C f x H1 fun a v=>tv σ H1 fun y H2=>rd v y H2 fun z H3=>BI C f a z H3 fun H4=>D.nx σ H4
def yL (C:Addr) (m:Str) (sp:Sp) (bu:List V) (R:St->XK) (ta:TE) (t:TA):TE:=fun σ H Q=>ta σ H fun x H1=>MI C m x H1 (t σ H1 fun vs H2=>sp (x::(vs++bu)) H2 Q (R σ))
section
variable {X:Cx} {k:Nat} {f C:Addr} {fd:FuncData} {ps:List Str} {sp:Sp} {bu:List V} {ds:List Value} {R:St->XK} {x m:Str} {p pos apos:Pos} {e o:Expr} {es:List Expr} {ta:TE} {t:TA}
def Pz {pl:Sem Bool} (he:PE X o ta) (c:c8 X.K C) (hm:Meth X.K C m f) (F:aq X.prog X.w X.K X.mg X.base (aR X.prog X.w) k f fd ps sp) (hr:bc k X.A) (hb:Binds X.K fd ps ds) (hd:Vals bu ds) (hx:hJ X R) (ha:PA X (e::es) t) (hs:(e::es).all noStar=true:=by rfl)
  (ht:eval (.Call (.Attribute o m apos) (e::es) [] pos) X.env=(do
   let ov <- eval o X.env
   standAt apos.atName
   let (f,first) <- holding [ov] (getMethod ov m pl)
   callWith pos f first (backTo pos (starEach (e::es) X.env)) (backToKw pos (keywordEach [] X.env))):=by rfl):PE X (.Call (.Attribute o m apos) (e::es) [] pos) (yL C m sp bu R ta t):=by
 have hs':=hs;rw [KB,Ch] at hs';intro π s σ H Q I h;refine _W (pl:=pl) (aC (he π s σ H _ I h) fun u s1 ⟨x,H1,I1,rx,a,dx,fs,ex,ea,l,q⟩=>?_) ht;subst ex;obtain rfl:u=Value.ref a:=rx;refine Bo I1 ea c hm l (SL (first:=[.ref a]) (h₀:=X.base) I.ok.mod.gS hm.kp (aC (ha pos π s1 σ H1 _ I1 q) fun us s2 ⟨vs,H2,I2,r,q2⟩=>⟨I2.cj,?_⟩) (fY hs'.1) (ir hs'.2));exact IV (us:=.ref a::us) (vs:=.ref a::vs) F hr hb hd hx I2 (.cons rfl r) q2
end
section
variable {X:Cx} {C:Addr} {f:Str} {e o value:Expr} {ta tv:TE} {pos pos' qP:Pos}
def Zn (c:c8 X.K C) (n:bC X.K C f) (he:PE X e ta) (hb:attributeBase e f X.env (eval e X.env)=eval e X.env):PE X (.Attribute e f pos) (AB C f ta):=by
 intro π s σ H Q I h;refine adv hb (aC (he π s σ H _ I h) fun u s1 ⟨x,H1,I1,rx,a,dx,fs,v,ex,ea,l,q⟩=>?_);subst ex;obtain rfl:u=Value.ref a:=rx;exact ID I1 ea c n l fun u' s2 I2 ru=>⟨v,H1,I2,ru,q⟩
def SD (c:c8 X.K C) (n:bC X.K C f) (ha:PE X o ta) (hv:PE X value tv) (hs:swapsWith value (some (.Attribute o f pos')) pos.line X.env=pure false):PS X (.Assign [.Attribute o f pos'] value pos) (sQ C f ta tv):=by
 intro π s σ H D I h;refine plainObj_wpAny_Assign_Attribute (aC (hv π s σ H _ I h) fun u s1 ⟨y,H1,I1,ry,q⟩=>aC (ha π s1 σ H1 _ I1 q) fun ov s2 ⟨x,H2,I2,rx,a,dx,fs,ex,ea,l,q2⟩=>?_) hs;subst ex;obtain rfl:ov=Value.ref a:=rx;exact Kj I2 ea c n l ry fun s3 I3=>⟨σ,_,I3,q2⟩
def P2 {op:Operator} {rd:R2} (c:c8 X.K C) (n:bC X.K C f) (ha:PE X o ta) (hv:PE X value tv) (D6:zG X op rd):PS X (.AugAssign (.Attribute o f qP) op value pos) (zw C f ta tv rd):=by
 intro π s σ H D I h;refine wpAny_AugAssign_AttributeAny (aC (ha π s σ H _ I h) fun ov s1 ⟨x,H1,I1,rx,a,dx,fs,v,ex,ea,l,q⟩=>?_);subst ex;obtain rfl:ov=Value.ref a:=rx;refine ID I1 ea c n l fun u s2 I2 ru=>aC (hv π s2 σ H1 _ I2 q) fun w3 s3 ⟨y,H2,I3,ry,q3⟩=>aC (D6 π s3 σ H2 v y u w3 _ I3 ru ry q3) fun w4 s4 ⟨z,H3,I4,rz,dx',fs',ea',l',q4⟩=>?_;exact Kj I4 ea' c n l' rz fun s5 I5=>⟨σ,_,I5,q4⟩
end
def IM {X:Cx} {op:CmpOp} {a b:Expr} {t:TE} {pos:Pos} (h:PC X op a b t) (hm:behindInMarks op b=false:=by first | exact wB _ (by decide) (by decide) | rfl):PT X (.Compare a [op] [b] pos) (ju t):=by
 intro π s σ H Q I hw;refine wpAny_isTrue_Compare1 (aC (h π s σ H _ I hw) fun v s1 h1=>aC h1 fun u s2 h2=>aC h2 fun c s3 ⟨x,H1,I1,r1,q1⟩=>?_) hm;obtain ⟨k,rfl,q⟩:=AX q1;cases r1;exact Op ⟨H1,I1,q⟩
namespace Dv
section
variable {X:Cx} {a b o e i value:Expr} {ta tb td ty tv:TE} {es:List Expr} {t:TA} {pos pos' apos bj p qP:Pos} {f C:Addr} {fn m x:Str} {k:Nat} {fd:FuncData} {ps:List Str} {sp:Sp} {bu:List V} {ds:List Value} {R:St->XK} {CX:dj} {E:XK} {tA:TT} {body:List Stmt} {tB:TS}
def fld (c:c8 X.K C) (n:bC X.K C fn) (he:QE X e ta) (hb:attributeBase e fn X.env (eval e X.env)=eval e X.env:=by rfl):QE X (.Attribute e fn pos) (AB C fn ta):=⟨Zn c n he.h hb⟩
def bP (c:c8 X.K C) (n:bC X.K C fn) (ha:QE X o ta) (hv:QE X value tv) (hs:swapsWith value (some (.Attribute o fn pos')) pos.line X.env=pure false:=by rfl):QS X (.Assign [.Attribute o fn pos'] value pos) (sQ C fn ta tv):=⟨SD c n ha.h hv.h hs⟩
def oC {op:Operator} {rd:R2} (c:c8 X.K C) (n:bC X.K C fn) (D6:zG X op rd) (ha:QE X o ta) (hv:QE X value tv):QS X (.AugAssign (.Attribute o fn qP) op value pos) (zw C fn ta tv rd):=⟨P2 c n ha.h hv.h D6⟩
def IE (Z:kb X.K C f fn) (ha:QE X o ta) (hv:QE X value tv) (hs:swapsWith value (some (.Attribute o fn pos')) pos.line X.env=pure false:=by rfl):QS X (.Assign [.Attribute o fn pos'] value pos) (Av C fn ta tv):=⟨XX Z ha.h hv.h hs⟩
def bB {pl:Sem Bool} (c:c8 X.K C) (hm:Meth X.K C m f) (F:aq X.prog X.w X.K X.mg X.base CX k f fd ps sp) (hr:bc k X.A) (hb:Binds X.K fd ps ds) (hd:Vals bu ds) (hx:Passes CX X E) (ho:QE X o ta) (ha:QA X (e::es) t) (hs:(e::es).all noStar=true:=by rfl)
  (ht:eval (.Call (.Attribute o m apos) (e::es) [] pos) X.env=(do
   let ov <- eval o X.env
   standAt apos.atName
   let (f,first) <- holding [ov] (getMethod ov m pl)
   callWith pos f first (backTo pos (starEach (e::es) X.env)) (backToKw pos (keywordEach [] X.env))):=by rfl):QE X (.Call (.Attribute o m apos) (e::es) [] pos) (tX C m sp bu E ta t):=by
 have hs':=hs;rw [KB,Ch] at hs';exact ⟨YG ho.h c hm F hr hb hd hx ha.h (fY hs'.1) (ir hs'.2) ht⟩
def qC {pl:Sem Bool} (c:c8 X.K C) (hm:Meth X.K C m f) (F:aq X.prog X.w X.K X.mg X.base CX k f fd ps sp) (hr:bc k X.A) (hb:Binds X.K fd ps ds) (hd:Vals bu ds) (hx:Passes CX X E) (ho:QE X o ta)
  (ht:eval (.Call (.Attribute o m apos) [] [] pos) X.env=(do
   let ov <- eval o X.env
   standAt apos.atName
   let (f,first) <- holding [ov] (getMethod ov m pl)
   callWith pos f first (backTo pos (starEach [] X.env)) (backToKw pos (keywordEach [] X.env))):=by rfl):QE X (.Call (.Attribute o m apos) [] [] pos) (tX C m sp bu E ta iZ):=⟨Yq ho.h c hm F hr hb hd hx ht⟩
def bf {pl:Sem Bool} (c:c8 X.K C) (hm:Meth X.K C m f) (F:aq X.prog X.w X.K X.mg X.base (aR X.prog X.w) k f fd ps sp) (hr:bc k X.A) (hb:Binds X.K fd ps ds) (hd:Vals bu ds) (hx:hJ X R) (ho:QE X o ta) (ha:QA X (e::es) t) (hs:(e::es).all noStar=true:=by rfl)
  (ht:eval (.Call (.Attribute o m apos) (e::es) [] pos) X.env=(do
   let ov <- eval o X.env
   standAt apos.atName
   let (f,first) <- holding [ov] (getMethod ov m pl)
   callWith pos f first (backTo pos (starEach (e::es) X.env)) (backToKw pos (keywordEach [] X.env))):=by rfl):QE X (.Call (.Attribute o m apos) (e::es) [] pos) (yL C m sp bu R ta t):=⟨Pz ho.h c hm F hr hb hd hx ha.h hs ht⟩
def make (M:Mk X.K C f) (F:aq X.prog X.w X.K X.mg X.base CX k f fd ps sp) (hr:bc (k+1) X.A) (hm:X.mg x=some (.ref C)) (hb:Binds X.K fd ps ds) (hd:Vals bu ds) (hx:Passes CX X E) (ha:QA X (e::es) t) (hg:Gl X x:=by rfl) (hs:(e::es).all noStar=true:=by rfl) (bM:(x == ("__debug__":Str))=false:=by decide) :
  QE X (.Call (.Name x p) (e::es) [] pos) (tQ C sp bu E t):=by
 have hs':=hs;rw [KB,Ch] at hs';exact ⟨acS M F hr hg hm hb hd hx ha.h bM (fY hs'.1) (ir hs'.2)⟩
def Yw (M:Mk X.K C f) (F:aq X.prog X.w X.K X.mg X.base CX k f fd ps sp) (hr:bc (k+1) X.A) (hm:X.mg x=some (.ref C)) (hb:Binds X.K fd ps ds) (hd:Vals bu ds) (hx:Passes CX X E) (hg:Gl X x:=by rfl) (bM:(x == ("__debug__":Str))=false:=by decide) :
  QE X (.Call (.Name x p) [] [] pos) (tQ C sp bu E iZ):=⟨XC M F hr hg hm hb hd hx bM⟩
def rE (hx:Bp X R) (hex:X.ex=[]) (hc:X.calm=true) (hm:X.mg x=some (.ref C)) (Z:kb X.K C f fn) (cm:W.typeIn X.K (.ref C)=some (.type "type")) (F:aq X.prog X.w X.K X.mg X.base aP k f fd ps (mF C fn)) (hr:bc (k+1) X.A) (hb:Binds X.K fd ps []) (ha:QA X (e::es) t)
  (hg:Gl X x:=by rfl) (hs:(e::es).all noStar=true:=by rfl) (bM:(x == ("__debug__":Str))=false:=by decide):QS X (.Raise (some (.Call (.Name x p) (e::es) [] bj)) none pos) (DF C fn R t):=⟨ac5 hx hex hc hm Z cm F hr hb ha.h hg hs bM⟩
def ph (hu:X.A.units+1 < cLine) (ho:QE X o td) (hi:QE X i ty) (hs:yW i:=by intro _ _;rfl):QE X (.Subscript o i pos) (B5 td ty):=⟨ZK hu ho.h hi.h hs⟩
def BF (hu:X.A.units+1 < cLine) (hi:QE X i ty) (ho:QE X o td) (hm:behindInMarks .In o=false:=by rfl):QT X (.Compare i [.In] [o] pos) (ju (Dz ty td)):=⟨IM (Wi hu hi.h ho.h) hm⟩
def GZ (hu:X.A.units+1 < cLine) (hi:QE X i ty) (ho:QE X o td) (hm:behindInMarks .NotIn o=false:=by rfl):QT X (.Compare i [.NotIn] [o] pos) (ju (Bg ty td)):=⟨IM (ZE hu hi.h ho.h) hm⟩
def tW (hu:X.A.units+1 < cLine) (ho:QE X o td) (hi:QE X i ty) (hv:QE X value tv) (hs:swapsWith value (some (.Subscript o i pos')) pos.line X.env=pure false:=by rfl):QS X (.Assign [.Subscript o i pos'] value pos) (Bf td ty tv):=⟨Wj hu ho.h hi.h hv.h hs⟩
def ZL:QE X (.Dict [] [] pos) BW:=⟨Vp⟩
def zb (hu:X.A.units+1 < cLine) (ho:QE X o td) (he:QE X e ty) (m1:M1 X o "get" apos e bj:=by exact ⟨rfl,rfl,rfl,rfl⟩):QE X (.Call (.Attribute o "get" apos) [e] [] bj) (zY td ty):=⟨V7 hu ho.h he.h m1⟩
def r9 (hp:PassesOwn (model X.prog X.w) X.A X.env X.xe) (hc:QT X a tA) (hb:QB X body tB):QS X (.While a body [] pos) (Mr tA tB):=⟨adh hp hc.h hb.h⟩
def FF (hc:QT X o tA) (ha:QE X a ta) (hb:QE X b tb):QE X (.IfExp o a b pos) (Dx tA ta tb):=⟨adL hc.h ha.h hb.h⟩
end
end Dv
def RS {P:Program} {w:World} {K:ν} {mg:Str->Option Value} {base:Heap} {N:List Str} {qual:Str} {scope:Scope} {f:Addr} {cd:Value} {A:Around} {outer:List Env} {s₀:Shared} {H₀:Hp} {E:XK} {CX:dj} :
  PassesOwn (model P w) (c7 CX P w K mg base N qual scope f cd A outer s₀ H₀ E).A (c7 CX P w K mg base N qual scope f cd A outer s₀ H₀ E).env (c7 CX P w K mg base N qual scope f cd A outer s₀ H₀ E).xe:=PassesOwn.leaving
structure O9 (X:Cx) (π:List (Addr×Obj)) (σ:St) (H:Hp) (ea C:Addr) (od:Option Addr) (s:Shared):Prop where
 fl:∃ B a0,Heap.FlyingW B (X.env::X.outer) ea (.ref C) a0 s.heap/\∀ h4:Heap,B.StaysIn h4->s.heap.UpToSlots h4->Inv X π σ H { s with heap:=h4 }
 hd:dG ea (.ref C) od s.heap
 free:H ea=none
 n0:X.s₀.heap.get? ea=none
 nL:ea≠X.env.locals
 nC:∀ x c,X.env.cells.lookup x=some c->c≠ea
 nP:∀ p∈X.pn++π,p.1≠ea
abbrev vY:=Ends->St->Addr->Option Addr->Hp->Prop
def PH (X:Cx) (hs:List ExceptHandler) (t:vY):Prop:=∀ (π:List (Addr×Obj)) (s:Shared) (σ:St) (H:Hp) (D:Ends) (ea C:Addr) (od:Option Addr),O9 X π σ H ea C od s->t D σ C od H->wpAny (model X.prog X.w) X.A (handleBy (.ref ea) X.env hs) (SP X π D) X.xe s
section
variable {X:Cx} {K:ν} {Cc:Addr} {n x:Str} {o7:List Stmt} {b₀:Stmt} {np hpos pos:Pos} {th:TS} {tr:vY} {rest:List ExceptHandler}
end
structure QH (X:Cx) (hs:List ExceptHandler) (t:vY):Prop where
 h:PH X hs t
namespace Dv
section
variable {X:Cx} {K:ν} {Cc:Addr} {n x:Str} {o7:List Stmt} {b₀:Stmt} {np hpos pos:Pos} {th:TS} {tr:vY} {rest:List ExceptHandler}
end
end Dv
def eQ (a b:Str):Bool:=!ltCps b.cps.toList a.cps.toList
def g9 (ts:List Str):List Str:=ts.mergeSort eQ
def u6 {a b:Str}:eQ a b=true ↔ ¬ b.cps.toList < a.cps.toList:=by
 unfold eQ;rw [ltCps_eq];simp
def Ho (a b c:Str) (h1:eQ a b=true) (h2:eQ b c=true):eQ a c=true:=by
 rw [u6] at *;exact _3.mpr (List.le_trans (_3.mp h1) (_3.mp h2))
def SQ (a b:Str):(eQ a b || eQ b a)=true:=by
 cases h:eQ a b with
 | true=>rfl
 | false =>
  have:¬ eQ a b=true:=by rw [h];simp
  rw [u6,Classical.not_not] at this;simp only [Bool.false_or,u6];exact _3.mpr (List.le_of_lt this)
def XH {a b:Str} (h1:eQ a b=true) (h2:eQ b a=true):a=b:=by
 rw [u6] at *;have:=List.le_antisymm (_3.mp h1) (_3.mp h2);obtain ⟨x⟩:=a;obtain ⟨y⟩:=b;exact PP Str.mk (Array.ext' this)
def LS (ts:List Str):(g9 ts).Perm ts:=List.mergeSort_perm ts eQ
def Vr (ts:List Str):(g9 ts).Pairwise (fun a b=>eQ a b=true):=List.pairwise_mergeSort Ho SQ ts
def HV (ts:List Str):(g9 ts).length=ts.length:=(LS ts).length_eq
def HK:∀ (p:Str) (l:List Str),risingS p l=true->(p::l).Pairwise (fun a b=>eQ a b=true)
 | p,[],_=>List.pairwise_singleton _ _
 | p,x::r,h=>by
  have h':eQ p x=true/\risingS x r=true:=by simpa [risingS,eQ] using h
  have ih:=HK x r h'.2;refine List.pairwise_cons.mpr ⟨fun y hy=>?_,ih⟩;rcases pi.mp hy with e | hy
  ·exact e ▸ h'.1
  ·exact Ho p x y h'.1 (List.rel_of_pairwise_cons ih hy)
def G2:∀ (l:List Str),sortedS l=true->l.Pairwise (fun a b=>eQ a b=true)
 | [],_=>.nil
 | x::r,h=>HK x r h
def Hw {us ts:List Str} (hp:us.Perm ts) (hs:us.Pairwise (fun a b=>eQ a b=true)):us=g9 ts :=
 List.Perm.eq_of_pairwise (fun a b _ _ h1 h2=>XH h1 h2) hs (Vr ts) (hp.trans (LS ts).symm)
def HW:∀ {ts:List Str} {us:List Value},Vals (ts.map V.str) us->StrsAre us ts
 | [],_,.nil=>.nil
 | x::r,_,.cons h t=>by obtain ⟨t',rfl⟩:=h;exact .cons x t' (HW t)
def yD:∀ {us:List Value} {ts:List Str},StrsAre us ts->Vals (ts.map V.str) us
 | _,_,.nil=>.nil
 | _,_,.cons y t h=>.cons ⟨t,rfl⟩ (yD h)
section
variable {X:Cx}
def Lu (K:ν):List V->Hp->VK->Prop:=fun xs H Q=>∃ p ts,xs=[.ref p]/\aH K H p (ts.map V.str)/\ts.length < 64/\∀ l,H l=none->Q (.ref l) (upd H l (.lst ((g9 ts).map V.str)))
def O1:dz X (.builtin "sorted") (Lu X.K):=by
 intro π s σ H xs us Q I r h;obtain ⟨p,ts,rfl,hq,Fb,q⟩:=h;obtain ⟨u,rfl,rx⟩:=vals1 r;cases rx;obtain ⟨ao,r',pl,hz⟩:=I.list hq;have hlen:=r'.length;refine sorted_strs pl.isList (HW r') (by rw [<- hlen];simpa using Fb) fun out ss' a1 a2 a3=>?_;obtain ⟨e,he⟩:=sortedAll_at s.heap ao out;have e1:ss'=g9 ts:=Hw a2 (G2 _ a3);subst e1;refine ⟨.ref (s.heap.objs.size+1),_,I.laid (t':=s.toks) (fun _ _=>sortedAll_old) (_2 _) (show bQ X.prog X.w _ _ _ (.lst ((g9 ts).map V.str)) from ⟨?_,out.toList,e,yD a1,?_⟩),rfl,q _ (I.au.fresh (_2 _))⟩
 ·rw [pp,HV];simpa using hz
 ·simpa [seqObj] using he
def HP:List V->Hp->VK->Prop:=fun xs H Q=>∃ p kvs,∃ ts:List Str,xs=[.ref p]/\H p=some (.dK kvs)/\kvs.map (·.1)=ts.map Sum.inr/\ts.length < 64/\∀ l,H l=none->Q (.ref l) (upd H l (.lst ((g9 ts).map V.str)))
def Rr {x:Str} {v:Value} (h:nv (.inr x) v=true):∃ t,v=Value.str x t:=Value.isStrOf_shape h
def Ux (hc:X.calm=true):dz X (.builtin "sorted") HP:=by
 intro π s σ H xs us Q I r h;obtain ⟨p,kvs,ts,rfl,hq,hk,Fb,q⟩:=h;obtain ⟨u,rfl,rx⟩:=vals1 r;cases rx;obtain ⟨hz,hS,vs,rv,m⟩:kvs.length<=sizeLine/\(p == sysModules)=false/\∃ vs,KV kvs vs/\s.heap.DictOf (dO X.prog X.w) p vs:=I.au p _ hq;obtain ⟨ep,uJ⟩:=m.dictAt;have mX:kvs.length=ts.length:=by simpa using PP List.length hk
 have Ny:vs.length=ts.length:=by rw [<- mX];simpa using (PP List.length rv.keys).symm
 refine _L kind_sorted plain_sorted entry_sorted (args_sorted1 _) ?_;unfold Builtin.«sorted»;refine lv (m:=checkCount "sorted" 1 1 _) (sw ?_);refine lv (Ja4 (A:=X.A.in1) (W.kdl_dict (knd:=dO X.prog X.w) (kvs:=vs) (ep:=ep) hS) (I.ok.hd hc) uJ (by rw [Ny,<- mX];exact hz) fun h' tk acc hk' fE=>?_);have hl:acc.toList.length=ts.length:=by rw [On,<- Ny];exact fE.1
 have hS':StrsAre acc.toList ts:=by
  have key:∀ (l:List Value) (us:List Str),l.length=us.length->(∀ (j:Nat) (v:Value) (x:Str),l[j]?=some v->us[j]?=some x->∃ t,v=Value.str x t)->StrsAre l us:=by
   intro l
   induction l with
   | nil=>intro us e _;cases us with | nil=>exact .nil | cons=>cases e
   | cons v l ih =>
    intro us e hh;cases us with
    | nil=>cases e
    | cons x us =>
     obtain ⟨t,rfl⟩:=hh 0 v x rfl rfl;exact .cons x t (ih us (by simpa using e) fun j v x h1 h2=>hh (j+1) v x h1 h2)
  refine key _ _ hl fun j v x h1 h2=>?_;obtain ⟨k,y,hx,uQ⟩:=fE.2 j v (by rw [<- Os];exact h1);have e1:(vs.map (·.1))[j]?=some k:=by rw [Da,hx];rfl
  rw [<- rv.keys,hk,Da,h2] at e1;cases e1;exact Rr uQ
 refine lv (Jaj ?_ (by rw [hl,<- mX];exact hz));have ie:(h'.push (seqObj "list" acc.toList.toArray 0)).get? h'.objs.size=some (seqObj "list" acc.toList.toArray 0):=u8 _ rfl;refine lv (Id (_J slot_list_sort ⟨_,ie,rfl⟩ entry_list_sort (list_sort_treeK strKind_oneLt ie hS'.keysOf (fun v₁ v₂ rest e=>keyKind_strs (by rw [<- e];exact hS')) (by rw [hl];exact Fb) fun st' a1 a2=>⟨_,rfl,?_⟩) (args_list_sort _)));refine sw ⟨_,rfl,?_⟩;obtain ⟨ss',b1,b2,b3⟩:=sorted_out_str hS' a1 a2;have e1:ss'=g9 ts:=Hw b2 (G2 _ b3);subst e1;obtain ⟨e,he⟩:=sortedHeap_at (out:=(arrOf st').map (·.2)) ie;have I1:Inv X π σ H { s with heap:=h',toks:=tk }:=I.kept (t':=tk) hk';refine ⟨.ref h'.objs.size,_,I1.laid (t':=tk) (fun b o z=>?_) (ul _) (show bQ X.prog X.w _ _ _ (.lst ((g9 ts).map V.str)) from ⟨?_,_,e,yD b1,?_⟩),rfl,q _ (I1.au.fresh (ul _))⟩
 ·have hb:b < h'.objs.size:=sB z;rw [sortedHeap_old (xL hb) (by have:=WF h' (seqObj "list" acc.toList.toArray 0);rw [this];exact _V hb)];exact pc _ z
 ·rw [pp,HV,<- mX];exact hz
 ·rw [_4];exact he
end
def kD (P:Program) (w:World) (K:ν) (mg:Str->Option Value) (base:Heap) (N:List Str) (qual:Str) (scope:Scope) (f:Addr) (cd:Value) (cl:List (Str×Addr)) (A:Around) (outer:List Env) (s:Shared) (H:Hp) (E:XK):Cx where
 prog:=P
 w:=w
 K:=K
 mg:=mg
 base:=base
 A:=A.deeper (W.envX qual scope s.heap.objs.size f cd cl)
 N:=N
 s₀:=s
 H₀:=H
 env:=W.envX qual scope s.heap.objs.size f cd cl
 outer:=outer
 stack:=W.envX qual scope s.heap.objs.size f cd cl::outer
 ex:=[]
 calm:=true
 fn:=fun _=>false
 pn:=[]
 xe:=fun e s'=>wpAny (model P w) (A.deeper (W.envX qual scope s.heap.objs.size f cd cl)) (leaving (W.envX qual scope s.heap.objs.size f cd cl) e) (fun _ s''=>aR P w outer H s E e s'') (fun e' s''=>aR P w outer H s E e' s'') s'
def iA (c:Addr) (q:Str):HO:=.ext fun h=>h.CodeRec (.ref c) q
structure oA (N:List Str) (scope:Scope) (cl:List (Str×Addr)):Prop where
 kind:scope.kind=.function
 co:scope.isCoroutine=false
 gen:scope.isGenerator=false
 rq:∀ x∈scope.names,x.2≠.cell
 free:∀ x∈N,scope.names.lookup x=some .free
 has:∀ x,scope.names.lookup x=some .free->∃ c,cl.lookup x=some c
 inj:∀ x y c,cl.lookup x=some c->cl.lookup y=some c->x=y
def lC (P:Program) (w:World) (K:ν) (mg:Str->Option Value) (base:Heap) (k:Nat) (s1:Shared) (B:Addr->Prop) (f:Addr) (wish:Hp->VK->XK->Prop):Prop :=
 ∀ (A:Around) (outer:List Env) (s:Shared) (H:Hp) (Q:VK) (E:XK),bc k A->hU P w K mg base A outer s H ->
  (∀ b o,B b->s1.heap.get? b=some o->s.heap.get? b=some o/\H b=none)->wish H Q E ->
  codeAny (model P w) A (.call (.ref f) ⟨[],[]⟩) (CR (aR P w) outer P w H s Q E) s
def HA {P:Program} {w:World} {K:ν} {mg:Str->Option Value} {base:Heap} {k:Nat} {s1:Shared} {B:Addr->Prop} {f:Addr} {wish:Hp->VK->XK->Prop} {N:List Str} {vs:List V}
  {name qual:Str} {params:Arguments} {body:Expr} {scope:Scope} {cl:List (Str×Addr)} {cdv:Value} (S:oA N scope cl)
  (ho:∀ (s:Shared) (H:Hp) (Q:VK) (E:XK),bD P w H s.heap->(∀ b o,B b->s1.heap.get? b=some o->s.heap.get? b=some o/\H b=none)->wish H Q E->∃ o pm ct,s.heap.get? f=some o/\o.data=.func (W.kla_fn name qual params body scope cl pm cdv ct))
  (aV:∀ H Q E,wish H Q E->∃ c,cdv=.ref c/\H c=some (iA c qual))
  (hB:∀ x c,cl.lookup x=some c->B c) (hlen:vs.length=N.length)
  (ky:∀ x c,cl.lookup x=some c->∃ v,s1.heap.IsCell c v)
  (hcells:∀ (i:Nat) (x:Str) (v:V),N[i]?=some x->vs[i]?=some v->∃ c u,cl.lookup x=some c/\RelV v u/\s1.heap.IsCell c (some u))
  (ES:∀ pm ct,bindArgs (W.kla_fn name qual params body scope cl pm cdv ct) ⟨[],[]⟩=pure [])
  (o1:∀ (A:Around) (outer:List Env) (s:Shared) (H:Hp) (Q:VK) (E:XK),bc k (A.deeper (W.envX qual scope s.heap.objs.size f cdv cl))->wish H Q E ->
   ∃ t,PE (kD P w K mg base N qual scope f cdv cl A outer s H E) body t/\t (vs.map some) H Q) :
  lC P w K mg base (k+1) s1 B f wish:=by
 intro A outer s H Q E hr e0 hk hw;obtain ⟨o,pm,ct,m8,xN⟩:=ho s H Q E e0.au hk hw;obtain ⟨c,rfl,E6⟩:=aV H Q E hw;have xM:s.heap.CodeRec (.ref c) qual:=(e0.au c _ E6).1;have lim:s.heap.NoLimit:=e0.mod.nolimit.keeps fun b o e=>(e0.bs b o e).1;refine W.kla_callFunE (fd:=W.kla_fn name qual params body scope cl pm (.ref c) ct) hr.depth m8 xN S.co S.gen rfl xM ?_;rw [ES pm ct];refine sw (wpAny_newFunctionEnv S.rq (fun _ z=>nomatch z) (fun h₁ eD ku=>⟨lim.fresh _ ku,?_⟩) S.kind);show codeAny _ _ (.expr body (W.envX qual scope s.heap.objs.size f (.ref c) cl)) _ _;have D3:∀ b o,s.heap.get? b=some o->h₁.get? b=some o:=fun b o e=>ku.extBut b o (xL (sB e)) (pc _ e);obtain ⟨t,ht,hq2⟩:=o1 A outer s H Q E (hr.deeper _) hw;have lS:∀ b:Addr,b ∉ (kD P w K mg base N qual scope f (.ref c) cl A outer s H E).ex:=fun b z=>absurd (show b∈([]:List Addr) from z) (by simp);have cellK:∀ x c',cl.lookup x=some c'->∀ v,s1.heap.IsCell c' v->h₁.IsCell c' v/\H c'=none:=fun x c' e v ⟨o',e1,e2⟩ =>
  ⟨⟨o',D3 _ _ (hk c' o' (hB x c' e) e1).1,e2⟩,(hk c' o' (hB x c' e) e1).2⟩
 have I:Inv (kD P w K mg base N qual scope f (.ref c) cl A outer s H E) [] (vs.map some) H { s with heap:=h₁,toks:=s.toks+([]:List (Str×Value)).length }:=by
  refine ⟨⟨e0.mod,S.kind,rfl,rfl,ul _,S.inj,fun y hy=>?_,fun y c' hf=>absurd hf (by simp [kD]),fun _=>hr.hd,Around.frames_deeper e0.frames,.inr ⟨rfl,rfl⟩,fun b z=>absurd z (lS b),e0.bs,e0.gB,fun b _ _=>lS b,fun b z=>absurd z (lS b),e0.eU,e0.g8⟩,
   rfl,e0.bare,Un.kept D3,⟨_,eD,fun i y v h1 h2 h3=>?_⟩,fun y c' h=>?_,e0.au.fresh (ul _),fun y c' h=>?_,fun p hp=>absurd (show p∈([]:List (Addr×Obj)) from hp) (by simp),e0.au.kept D3,?_⟩
  ·have hy:scope.names.lookup y=some .cell\/scope.names.lookup y=some .free:=hy;rcases hy with hy | hy
   ·exact absurd rfl (S.rq _ (Db hy))
   ·exact S.has y hy
  ·have h1':N[i]?=some y:=h1;have ha:vs[i]?=some v:=by
    rw [Da] at h2;cases e:vs[i]? with
    | none=>rw [e] at h2;cases h2
    | some a=>rw [e] at h2;cases h2;rfl
   obtain ⟨c',u,e1,rv,e2⟩:=hcells i y v h1' ha;exact ⟨u,rv,.inr ⟨.inr (S.free y (KM h1')),c',e1,(cellK y c' e1 _ e2).1⟩⟩
  ·obtain ⟨v,e⟩:=ky y c' h;exact ⟨v,(cellK y c' h v e).1⟩
  ·obtain ⟨v,e⟩:=ky y c' h;exact (cellK y c' h v e).2
  ·show (vs.map some).length=N.length;rw [pp,hlen]
 refine W.kla_codeExpr (GT (ht [] _ (vs.map some) H _ I hq2) (fun u s' hs=>?_) fun e s' hs=>hs);obtain ⟨v,H',J,rv,q⟩:=hs;exact ⟨v,H',J.os,J.bare,J.base,J.au,rv,q⟩
def di {P:Program} {w:World} {K:ν} {mg:Str->Option Value} {base:Heap} {N:List Str} {qual:Str} {scope:Scope} {f:Addr} {cd:Value} {cl:List (Str×Addr)} {A:Around} {outer:List Env} {s₀:Shared} {H₀:Hp} {E:XK} :
  hJ (kD P w K mg base N qual scope f cd cl A outer s₀ H₀ E) (fun _=>E) where
 pass:=fun π σ H s e s' I hc=>by
  obtain ⟨ea,C,od,H',rfl,F,hE⟩:=hc;exact aC (I.J6 ⟨rfl,rfl,rfl⟩ I.ok.frames F) fun _ s'' z=>⟨ea,C,od,H',rfl,z,hE⟩
def v9 (outer:List Env) (H:Hp) (s:Shared) (B:Addr->Prop):Prop:=∀ b,B b->(∃ o,s.heap.get? b=some o)/\H b=none/\b ∉ bK outer
def aaa (i:Nat) (f:Addr) (wish:Hp->VK->XK->Prop) (R:St->XK):TE:=fun σ H Q=>σ[i]?=some (some (.ref f))/\wish H Q (R σ)
abbrev xm:=List Env->Shared->Sp
structure sr (P:Program) (w:World) (K:ν) (mg:Str->Option Value) (base:Heap) (CX:dj) (k:Nat) (f:Addr) (fd:FuncData) (ps:List Str) (sp:xm):Prop where
 len:∀ outer s vs H Q E,sp outer s vs H Q E->vs.length=ps.length
 run:∀ (A:Around) (outer:List Env) (s:Shared) (H:Hp) (args:Args) (us:List Value) (vs:List V) (Q:VK) (E:XK),bc k A->hU P w K mg base A outer s H->BindsTo s fd args (ps.zip us)->Vals vs us->sp outer s vs H Q E ->
  codeAny (model P w) A (.call (.ref f) args) (CR CX outer P w H s Q E) s
def S0 {CX:dj} {P:Program} {w:World} {K:ν} {mg:Str->Option Value} {base:Heap} {k:Nat} {f:Addr} {name qual:Str} {params:Arguments} {body:List Stmt} {scope:Scope} {dV kV doc pm cdv ct oc:Value} {an od:Option Addr}
  {dq:Array (Option Value)} {N ps:List Str} {sp:xm} (lk:K.lookup f=some ⟨oc,od,.func (W.fnOf name qual params body scope dV kV doc pm an cdv ct),dq⟩) (aV:W.codeIn K cdv qual=true) (S:aF N ps scope)
  (len:∀ outer s vs H Q E,sp outer s vs H Q E->vs.length=ps.length)
  (o1:∀ (A:Around) (outer:List Env) (s:Shared) (H:Hp) (vs:List V) (Q:VK) (E:XK),bc k (A.deeper (envOfC qual scope s.heap.objs.size f cdv))->sp outer s vs H Q E ->
   ∃ t,dv (c7 CX P w K mg base N qual scope f cdv A outer s H E) body t/\t { nx:=fun _ H'=>Q .aw H',rt:=Q } (start N vs) H) :
  sr P w K mg base CX (k+1) f (W.fnOf name qual params body scope dV kV doc pm an cdv ct) ps sp:=by
 refine ⟨len,fun A outer s H args us vs Q E hr e0 hb r dm=>?_⟩;have hl:=len _ _ _ _ _ _ dm;have KX:K.In s.heap:=e0.mod.gS.keeps fun b o e=>(e0.bs b o e).1;have lim:s.heap.NoLimit:=e0.mod.nolimit.keeps fun b o e=>(e0.bs b o e).1;have uO:∀ y∈ps.zip us,scope.names.lookup y.1=some .local\/(scope.names.lookup y.1=some .cell/\((cellsFrom (s.heap.objs.size+1) scope.names []).lookup y.1).isSome=true):=fun ⟨n,v⟩ hy=>by
  rcases S.par n (_Q hy).1 with q | q
  ·exact .inl q
  ·exact .inr ⟨q,_s _ _ _ (.inl q)⟩
 refine _X hr.depth (KX _ _ lk) rfl S.co S.gen rfl (Jac KX aV) (hb _ _ _ _ ?_);refine _A S.kind uO fun env he s1 x=>?_;subst he;refine ⟨lim.keeps x.toInCall.keep,codeAny_func ?_⟩;obtain ⟨t,ht,hq⟩:=o1 A outer s H vs Q E (hr.deeper _) dm;have I:Inv (c7 CX P w K mg base N qual scope f cdv A outer s H E) [] (start N vs) H s1:=yU S hr.hd e0 hl r x;refine GT (ht [] s1 (start N vs) H _ I hq) (fun fl s' hs=>?_) fun e s' hs=>hs;have fin:∀ {σ':St} {H':Hp} {v:V} {u:Value},Inv (c7 CX P w K mg base N qual scope f cdv A outer s H E) [] σ' H' s'->RelV v u->Q v H'->CE outer P w H s Q u s' :=
  fun {σ' H' v u} J rv q=>⟨v,H',J.os,J.bare,J.base,J.au,rv,q⟩
 cases fl with
 | ret u =>
  obtain ⟨v,σ',H',J,rv,q⟩:=hs;exact fin J rv q
 | next =>
  obtain ⟨σ',H',J,q⟩:=hs;exact fin (v:=V.aw) (u:=Value.none) J rfl q
 | brk =>
  obtain ⟨_,_,_,q⟩:=hs;exact False.elim q
 | cont =>
  obtain ⟨_,_,_,q⟩:=hs;exact False.elim q
abbrev Ent:=Int×Int×Addr
def dP:List Ent->List Value
 | []=>[]
 | e::r=>rawInt e.1::rawInt e.2.1::.ref e.2.2::dP r
def HX:∀ (a b:List Ent),dP (a++b)=dP a++dP b
 | [],b=>rfl
 | e::r,b=>by show _::_::_::dP (r++b)=_;rw [HX r b];rfl
def AV:∀ es:List Ent,TriplesOk (dP es)
 | []=>trivial
 | e::r=>AV r
def F2 (pos:Pos):∀ es:List Ent,codeAmong pos (dP es)=(es.find? fun e=>e.1 == (pos.line:Int) && e.2.1 == (pos.col:Int)).map fun e=>Value.ref e.2.2
 | []=>rfl
 | e::r=>by
  show (if e.1 == (pos.line:Int) && e.2.1 == (pos.col:Int) then some (Value.ref e.2.2) else codeAmong pos (dP r))=_;rw [Tm];cases h:(e.1 == (pos.line:Int) && e.2.1 == (pos.col:Int)) with
  | true=>rfl
  | false=>exact F2 pos r
def ji (P:Addr) (es:List Ent):HO:=.ext fun h=>h.get? P=some (W.tabObj (dP es).toArray)
structure da (H:Hp) (P:Addr) (q:Str) (es:List Ent):Prop where
 tab:H P=some (ji P es)
 code:∀ e∈es,H e.2.2=some (iA e.2.2 q)
structure yI (X:Cx) (P:Addr) (params:Arguments) (scope:Scope) (bY:List (Str×Addr)) (q:Str):Prop where
 dflt:defaultsOf params X.env=([],[])
 gW:closureFor scope X.env=pure bY
 code:∃ c,X.env.code=.ref c/\W.CodeHd X.base c P
 blt:X.base.BuiltinsAt X.mg P
 qual:X.env.qual ++ "<lambda>" = q
structure jL (P:Addr) (q:Str) (c:Addr) (H H1:Hp):Prop where
 rest:∀ b,b≠P->b≠c->H1 b=H b
 code:H1 c=some (iA c q)
 old:H c=none\/H1=H
 tab:∃ es,da H1 P q es
def mO {a b n:Nat} (h:a < n) (h':n<=b):b≠a:=by omega
def Pu {X:Cx} {π:List (Addr×Obj)} {σ:St} {H:Hp} {s:Shared} {P:Addr} {params:Arguments} {body:Expr} {scope:Scope} {bY:List (Str×Addr)} {q:Str} {gb:Pos} {es:List Ent} {Q:Value->Shared->Prop}
  (I:Inv X π σ H s) (L:yI X P params scope bY q) (T:da H P q es)
  (h:∀ f c ct pm s1 H1,Inv X π σ H1 s1->jL P q c H H1->H1 f=none->s.heap.objs.size<=f->f≠X.env.locals->s1.heap.get? f=some (W.kla_obj "<lambda>" q params body scope bY pm c ct) ->
   (∀ b o,H b=none->s.heap.get? b=some o->s1.heap.get? b=some o)->Q (.ref f) s1) :
  wpAny (model X.prog X.w) X.A (eval (.Lambda params body scope gb) X.env) Q X.xe s:=by
 obtain ⟨hdef,ky,⟨c,ML,C⟩,hb,hq⟩:=L;subst hq;refine W.kla_eval hdef ?_;have hP:s.heap.get? P=some (W.tabObj (dP es).toArray):=(I.au P _ T.tab).1;have hgP:mainGlobals≠P:=fun e=>by
  obtain ⟨o,_,_,g,_⟩:=I.mod.glob;have:=(I.bs _ _ g).2;rw [e,T.tab] at this;cases this
 have N1:s.heap.BuiltinsAt X.mg P:=by
  obtain ⟨bm,o,b1,b2,b3,b4,b5,b6⟩:=hb;exact ⟨bm,o,b1,b2,b3,b4,I.bk _ _ b5,b6⟩
 have E2:=I.lt;have dQ:∀ {b:Addr},H b=none->b≠P:=fun {b} n e=>by rw [e,T.tab] at n;cases n
 cases hf:codeAmong gb (dP es).toArray.toList with
 | none =>
  refine W.kla_makeFunction (mg:=X.mg) ky I.ok.glob (I.mod.glob.keeps I.bk) ML (C.keeps I.bk) hP (AV es) hf hgP N1 fun c' ct h' tk hx gG cb xM oZ=>?_;have htb':h'.get? P=some (W.tabObj (dP (es++[((gb.line:Int),(gb.col:Int),c')])).toArray):=by
   rw [oZ,HX];simp [dP]
  have hPs:P < s.heap.objs.size:=sB hP;have NU:c'≠P:=mO hPs gG;have I1:Inv X π σ (upd H P (ji P (es++[((gb.line:Int),(gb.col:Int),c')]))) { s with heap:=h',toks:=tk } :=
   I.write (x:=P) (e:=P) (t':=tk) (by rw [T.tab];trivial) (.inl rfl) (fun b u hb e=>hx b u hb e) ⟨_,htb'⟩ ⟨htb',⟨_,htb'⟩,fun h1 h2 z k=>k _ z⟩
  have OA:H c'=none:=I.au.fresh gG;have hcn1:(upd H P (ji P (es++[((gb.line:Int),(gb.col:Int),c')]))) c'=none:=by rw [aj NU];exact OA
  have I2:=I1.rA (a:=c') (o:=iA c' (X.env.qual ++ "<lambda>")) hcn1 (ST (wE I.sz gG)) (mO E2 gG) (fun x c₁ e z=>by
    obtain ⟨v,o,ho,_⟩:=I.cell x c₁ e;exact mO (sB ho) gG z.symm) (fun p hp z=>by
    exact mO (sB (I.pin p hp).1) gG z.symm) ⟨xM,(by obtain ⟨c₂,o,_,_,e,g,_⟩:=xM;cases e;exact ⟨o,g⟩),fun h1 h2 z k=>by
     obtain ⟨c₂,o,vs,t,e,g,r⟩:=z;cases e;exact ⟨c',o,vs,t,rfl,k o g,r⟩⟩
  have I3:=I2.kept (t':=tk) (h':=h'.push (W.kla_obj "<lambda>" (X.env.qual ++ "<lambda>") params body scope bY ((X.mg "__name__").getD .none) c' ct)) (fun b u e=>pc _ e);have iM:(upd (upd H P (ji P (es++[((gb.line:Int),(gb.col:Int),c')]))) c' (iA c' (X.env.qual ++ "<lambda>"))) h'.objs.size=none:=I2.au.fresh (ul _);have hsz:s.heap.objs.size<=h'.objs.size:=wE gG (Ja6 cb);refine h h'.objs.size c' ct _ _ _ I3 ⟨fun b n1 n2=>by rw [aj n2,aj n1],ay,.inl OA,es++[((gb.line:Int),(gb.col:Int),c')],⟨by rw [aj (wP NU),ay],fun e he=>?_⟩⟩ iM hsz (mO E2 hsz) (u8 _ rfl) fun b o n e=>pc _ (hx b o (dQ n) e);rcases _O.mp he with he | he
  ·have:=T.code e he;by_cases hc:e.2.2=c'
   ·rw [hc,ay]
   ·have hp:e.2.2≠P:=fun z=>by
     have hr:s.heap.CodeRec (.ref P) (X.env.qual ++ "<lambda>"):=by
      have hh:=(I.au _ _ this).1;rw [z] at hh;exact hh
     obtain ⟨c₂,o,vs,t,e1,g,d,r⟩:=hr;cases e1;rw [hP] at g;cases g;have d':(dP es).toArray=vs:=by injection d
     subst d';cases es with
     | nil=>cases he
     | cons e₁ r₁=>simp [dP,rawInt] at r
    rw [aj hc,aj hp];exact this
  ·rw [EQ.mp he];exact ay
 | some cv =>
  have hf':=hf;rw [show (dP es).toArray.toList=dP es from rfl,F2] at hf';obtain ⟨e,he,hev⟩:=_t.mp hf';subst hev;refine W.kla_makeFunctionHit (mg:=X.mg) ky I.ok.glob (I.mod.glob.keeps I.bk) ML (C.keeps I.bk) hP (AV es) hf N1 fun ct h' tk hk hsz=>?_;have I1:=I.kept (t':=tk) hk;have I2:=I1.kept (t':=tk) (h':=h'.push (W.kla_obj "<lambda>" (X.env.qual ++ "<lambda>") params body scope bY ((X.mg "__name__").getD .none) e.2.2 ct)) (fun b u e=>pc _ e);exact h h'.objs.size e.2.2 ct _ _ _ I2 ⟨fun _ _ _=>rfl,T.code e (List.mem_of_find?_eq_some he),.inr rfl,es,T⟩ (I1.au.fresh (ul _)) hsz (mO E2 hsz) (u8 _ rfl) fun b o n e=>pc _ (hk b o e)
abbrev bE:=Hp->VK->XK->Prop
def TY (c:Addr) (q:Str) (W:bE):bE:=fun H Q E=>H c=some (iA c q)/\W H Q E
def fD (ix:List Nat) (σ:St) (vs:List V):Prop:=vs.length=ix.length/\∀ (i j:Nat) (v:V),ix[i]?=some j->vs[i]?=some v->σ[j]?=some (some v)
def Q4 (P:Addr) (q:Str) (ix:List Nat) (W:List V->bE) (je:bE->bE) (R:St->XK):TE:=fun σ H Q =>
 ∃ es vs,da H P q es/\fD ix σ vs/\∀ c H1,jL P q c H H1->je (TY c q (W vs)) H1 Q (R σ)
structure qb (X:Cx) (N':List Str) (ix:List Nat) (bY:List (Str×Addr)):Prop where
 len:ix.length=N'.length
 at':∀ (i j:Nat),ix[i]?=some j->∃ x,N'[i]?=some x/\X.N[j]?=some x/\X.env.scope.names.lookup x=some .cell
 gW:∀ x c,bY.lookup x=some c->X.env.cells.lookup x=some c
 zp:∀ x∈N',bY.lookup x=X.env.cells.lookup x
 own:∀ x c,bY.lookup x=some c->X.fn x=true
abbrev ox:=List (Addr×Addr)
def uX (tabs:ox) (H:Hp):Prop:=∀ q∈tabs,∃ es,H q.2=some (ji q.2 es)
structure nS (tabs:ox) (H:Hp):Prop where
 all:∀ b,H b=none\/(∃ o xs,H b=some (.dI o (.lst xs)))\/∃ q∈tabs,b=q.2
 tab:∀ q∈tabs,H q.2=some (ji q.2 [])
def nS.ok {tabs:ox} {H:Hp} (h:nS tabs H) {c P:Addr} (q:Str) (hm:(c,P)∈tabs):da H P q []:=⟨h.tab _ hm,fun _ z=>nomatch z⟩
def Zi {P:Program} {w:World} {K:ν} {mg mb:Str->Option Value} {CX:dj} {k:Nat} {fa a:Addr} {fd:FuncData} {x:Str} {sp:Sp} {s₁:Shared} {vs:List Value} {ns:List Int} {tabs:ox}
  (KX:K.In s₁.heap) (eD:s₁.heap.Ns mainGlobals mg) (hb:s₁.heap.Ns builtinsNs mb) (hbb:∀ x:Str,x ≠ "__name__" -> mb x=bootBuiltins x) (hlim:s₁.heap.NoLimit) (hg:s₁.gens=#[])
  (hT:W.TabsAt tabs s₁.heap) (o9:W.noTabs K=true) (hbm:∃ bm ob,mg "__builtins__" = some (.ref bm)/\bm≠builtinsNs/\s₁.heap.get? bm=some ob/\ob.cls=.type "module" /\ ob.dict=some builtinsNs/\ob.data=.plain)
  (ha:s₁.heap.get? a=some { cls:=.type "list",data:=.seq vs.toArray }) (hi:IntsAre vs ns) (hl:ns.length<=sizeLine) (hr:bc k callerA)
  (F:∀ base:Heap,K.In base->base.Ns mainGlobals mg->(∀ q∈tabs,W.CodeHd base q.1 q.2/\base.BuiltinsAt mg q.2)->aq P w K mg base CX k fa fd [x] sp) (ES:∀ (s:Shared) (u:Value),BindsTo s fd ⟨[u],[]⟩ [(x,u)])
  (dm:∀ H:Hp,nS tabs H->aH K H a (ns.map V.int)->sp [.ref a] H (fun v H'=>v=.bl true/\uX tabs H') fun _ _ _=>False)
  (EH:∀ H e s',CX [] H s₁ (fun _ _ _=>False) e s'->False) :
  codeAny (model P w) callerA (.call (.ref fa) ⟨[.ref a],[]⟩) (fun r s'=>r=.ok (.ret (.bool true))/\OldK s₁.heap s'.heap/\s'.os=s₁.os/\AllBare s'.gens) s₁:=by
 have rv:=Lx hi;have lenV:=hi.length;have tabAt:∀ b,(∃ q∈tabs,b=q.2)->s₁.heap.get? b=some (W.tabObj #[]):=fun b ⟨q,hq,e⟩=>e ▸ (hT q hq).2;have NQ:¬ ∃ q∈tabs,a=q.2:=fun z=>by
  have:=tabAt a z;rw [ha] at this;cases this
 have core:∀ H:Hp,nS tabs H->aH K H a (ns.map V.int)->bD P w H s₁.heap->(∀ b,H b≠none->b=a\/∃ q∈tabs,b=q.2)->(H a≠none->K.lookup a=none) ->
   codeAny (model P w) callerA (.call (.ref fa) ⟨[.ref a],[]⟩) (fun r s'=>r=.ok (.ret (.bool true))/\OldK s₁.heap s'.heap/\s'.os=s₁.os/\AllBare s'.gens) s₁:=by
  intro H hO hS au hA hK;have yp:∀ {b:Addr} {o:Obj},s₁.heap.get? b=some o->H b=none->(iX s₁.heap H).get? b=some o:=fun e n=>abP e n;have EI:∀ {b:Addr} {o:Obj},s₁.heap.get? b=some o->b≠a->(∀ ps,o.data≠.fields ps\/o.cls≠.none)->H b=none:=fun {b o} e na d=>by
   cases q:H b with
   | none=>rfl
   | some u =>
    rcases hA b (by rw [q];simp) with e' | e'
    ·exact absurd e' na
    ·have e2:=tabAt b e';rw [e] at e2;cases e2;rcases d #[] with d | d
     ·exact absurd rfl d
     ·exact absurd rfl d
  have lS:∀ {b:Addr} {o:Obj} {es:Array DictEntry} {ep:Nat},s₁.heap.get? b=some o->o.data=.dict es ep->H b=none:=fun {b o es ep} e d=>by
   refine EI e (fun z=>?_) fun ps=>.inl (by rw [d];simp);subst z;rw [ha] at e;cases e;have d':Data.seq vs.toArray _=Data.dict es ep:=d;cases d'
  have xV:∀ {b:Addr} {m:Str->Option Value},s₁.heap.Ns b m->(iX s₁.heap H).Ns b m:=fun {b m} ⟨o,es,ep,e,d,r⟩=>⟨o,es,ep,yp e (lS e d),d,r⟩;have Oy:K.In (iX s₁.heap H):=fun b o e=>yp (KX b o e) (by
   cases q:H b with
   | none=>rfl
   | some u =>
    rcases hA b (by rw [q];simp) with e' | e'
    ·subst e';rw [hK (by rw [q];simp)] at e;cases e
    ·have e2:=tabAt b e';rw [KX b o e] at e2;cases e2;have h2:=IO.mp o9 (b,_) (W.mem_of_lookupK e);exact absurd (show false=true from h2) wT)
  have hM:Mod K mg (iX s₁.heap H):=⟨Oy,xV eD,⟨mb,xV hb,hbb⟩,let ⟨mc,h1,h2⟩:=hlim;⟨mc,xV h1,h2⟩⟩;have e0:hU P w K mg (iX s₁.heap H) callerA [] s₁ H:=⟨rfl,hM,fun b o e=>aaw e,Nat.le_of_eq (Wh _ _),trivial,fun b hb=>absurd (show b∈([]:List Addr) from hb) (by simp),au,.of_eq hg⟩;have hcodes:∀ q∈tabs,W.CodeHd (iX s₁.heap H) q.1 q.2/\(iX s₁.heap H).BuiltinsAt mg q.2:=fun q hq=>by
   obtain ⟨o,vs',file,tf,flags,tg,inF,text,tt,e1,r1,r⟩:=(hT q hq).1;obtain ⟨bm,ob,b1,b2,b3,b4,b5,b6⟩:=hbm;refine ⟨⟨o,vs',file,tf,flags,tg,inF,text,tt,yp e1 (EI e1 (fun z=>?_) fun ps=>.inr (by rw [r1];simp)),r1,r⟩,bm,ob,b1,b2,fun z=>?_,fun z=>?_,yp b3 (EI b3 (fun z=>?_) fun ps=>.inr (by rw [b4];simp)),b4,b5,b6⟩
   ·subst z;rw [ha] at e1;cases e1;simp at r1
   ·obtain ⟨o',es,ep,e,d,_⟩:=eD;rw [z,e] at b3;cases b3;rw [d] at b6;cases b6
   ·rw [z,(hT q hq).2] at b3;cases b3;cases b6
   ·subst z;rw [ha] at b3;cases b3;cases b6
  refine Uf ((F _ Oy (xV eD) hcodes).run callerA [] s₁ H ⟨[.ref a],[]⟩ [.ref a] [.ref a] _ _ hr e0 (ES s₁ (.ref a)) (.cons rfl .nil) (dm H hO hS)) fun r s' h=>?_;cases r with
  | error e=>exact (EH H e s' h).elim
  | ok fl =>
   cases fl with
   | next=>exact False.elim h
   | brk=>exact False.elim h
   | cont=>exact False.elim h
   | ret u =>
    obtain ⟨v,H',os,bare,un,hok',r',q',qt⟩:=h;subst q';obtain rfl:u=Value.bool true:=r';refine ⟨rfl,⟨fun b o e=>?_,fun b o e=>un.there b o e (by simp)⟩,os,bare⟩;cases q:H b with
    | none=>exact .inl (un.keep b o e q (by intro z;exact absurd (show b∈([]:List Addr) from z) (by simp)) (by simp))
    | some u =>
     rcases hO.all b with z | ⟨ob,xs,z⟩ | ⟨qq,yr,z⟩
     ·rw [q] at z;cases z
     ·have z2:=un.eM b ob _ z;obtain ⟨e1,_⟩:=au b _ z;obtain ⟨e2,_⟩:=hok' b _ z2;rw [e] at e1;cases e1;exact .inl e2
     ·subst z;obtain ⟨es,he⟩:=qt qq yr;have e3:s'.heap.get? qq.2=some (W.tabObj (dP es).toArray):=(hok' _ _ he).1;have e4:=(hT qq yr).2;rw [e] at e4;cases e4;exact .inr (.inl ⟨((hT qq yr).1.tab (hT qq yr).2).isCodeTable,rfl,#[],(dP es).toArray,rfl,by rw [e3];simp⟩)
 have Ng:∀ b,(∃ q∈tabs,b=q.2)->∀ H:Hp,bQ P w H s₁.heap b (ji b []):=fun b z H=>⟨tabAt b z,⟨_,tabAt b z⟩,fun h1 h2 y k=>k _ y⟩
 classical
 cases hk:K.lookup a with
 | some o =>
  have e:=KX a o hk;rw [ha] at e;cases e;refine core (fun b=>if (∃ q∈tabs,b=q.2) then some (ji b []) else none) ⟨fun b=>?_,fun q hq=>AT ⟨q,hq,rfl⟩⟩ (.inr ⟨_,vs.toArray,_,hk,rfl,rfl,rfl,by rw [ww,lenV];exact hl,by simpa using rv⟩) (fun b u z=>?_) (fun b z=>?_) fun z=>absurd (zn NQ) z
  ·by_cases h:∃ q∈tabs,b=q.2
   ·exact .inr (.inr h)
   ·exact .inl (zn h)
  ·by_cases h:∃ q∈tabs,b=q.2
   ·have z':=(AT h).symm.trans z;cases z';exact Ng b h _
   ·have z':=(zn h).symm.trans z;cases z'
  ·by_cases h:∃ q∈tabs,b=q.2
   ·exact .inr h
   ·exact absurd (zn h) z
 | none =>
  refine core (fun b=>if b=a then some (.dI { cls:=.type "list",data:=.seq vs.toArray } (.lst (ns.map V.int))) else if (∃ q∈tabs,b=q.2) then some (ji b []) else none) ⟨fun b=>?_,fun q hq=>?_⟩ (.inl (.inr ⟨{ cls:=.type "list",data:=.seq vs.toArray },AT rfl⟩)) (fun b u z=>?_) (fun b z=>?_) fun _=>hk
  ·by_cases hb:b=a
   ·exact .inr (.inl ⟨_,_,AT hb⟩)
   ·by_cases h:∃ q∈tabs,b=q.2
    ·exact .inr (.inr h)
    ·exact .inl ((zn hb).trans (zn h))
  ·have dQ:q.2≠a:=fun z=>NQ ⟨q,hq,z.symm⟩;exact (zn dQ).trans (AT ⟨q,hq,rfl⟩)
  ·by_cases hb:b=a
   ·have z':=(AT hb).symm.trans z;cases z';subst hb;exact ⟨ha,by rw [pp];exact hl,vs,_,rv,ha⟩
   ·have z':=(zn hb).symm.trans z;by_cases h:∃ q∈tabs,b=q.2
    ·have z2:=(AT h).symm.trans z';cases z2;exact Ng b h _
    ·have z2:=(zn h).symm.trans z';cases z2
  ·by_cases hb:b=a
   ·exact .inl hb
   ·by_cases h:∃ q∈tabs,b=q.2
    ·exact .inr h
    ·exact absurd ((zn hb).trans (zn h)) z
def acj {l:W.OpenLaw} {n k:Nat} {q:Program} {loose:List Str} {XP:(Str->Option Value)->Heap->Prop} {YP:World->Heap->Prop} {d:DefRec} {K:Params->ν} {CX:World->dj} {sp:World->Sp} {x:Str} {tabs:ox}
  (hn:l.most=some n) (lQ:n<=sizeLine) (uo:d.params.defaults=[]) (hr:bc k callerA)
  (hY:∀ (w:World) (h:Heap),YP w h->(K w.params).In h)
  (o9:∀ w:World,W.noTabs (K w.params)=true) (oZ:∀ (w:World),∀ t∈tabs,∃ y e,(recsOf q).find? (fun e=>e.name == y)=some e/\W.tabIn (K w.params) y=some t)
  (F:∀ (w:World) (mg:Str->Option Value) (fa:Addr) (h:Heap),(K w.params).In h->h.Ns mainGlobals mg->mg d.name=some (.ref fa) ->
   ∃ fd:FuncData,(∀ (s:Shared) (u:Value),BindsTo s fd ⟨[u],[]⟩ [(x,u)]) /\
    ∀ base:Heap,(K w.params).In base->base.Ns mainGlobals mg->(∀ t∈tabs,W.CodeHd base t.1 t.2/\base.BuiltinsAt mg t.2)->aq l.prog w (K w.params) mg base (CX w) k fa fd [x] (sp w))
  (dm:∀ (w:World) (H:Hp) (a:Addr) (ns:List Int),ns.length<=n->nS tabs H->aH (K w.params) H a (ns.map V.int)->sp w [.ref a] H (fun v H'=>v=.bl true/\uX tabs H') fun _ _ _=>False)
  (EH:∀ (w:World) (H:Hp) (s:Shared) (e:Value) (s':Shared),CX w [] H s (fun _ _ _=>False) e s'->False) :
  W.WalkO q loose XP YP l.row.toRowW d [] (fun f vs=>PySem.call f vs):=by
 refine Att.YQ hn uo fun w s₀ s₁ mg mb fa o pm cd doc a vs ns G Y ho hd aV hmg ux hints hlen hg=>?_;have KX:=hY w _ Y;obtain ⟨fd,hb,hF⟩:=F w mg fa _ KX G.T.g hmg;exact Zi KX G.T.g G.T.b G.T.builtins G.T.nolimit hg (fun t ht=>by
  obtain ⟨y,e,h1,h2⟩:=oZ w t ht;exact W.tab_of G.T KX h1 h2) (o9 w) G.T.bmain ux hints (wE hlen lQ) hr hF hb (fun H hO hS=>dm w H a ns hlen hO hS) fun H e s'=>EH w H s₁ e s'
section
variable {prog:Program} {w:World} {A:Around} {R:Result->Shared->Prop} {I:Addr} {fp wr:List Addr} {P:Nat->Value->Prop} {St:Nat->Heap->Prop}
def PB (a d:Value):argsOk "min" ⟨[a],[("default",d)]⟩:=by unfold argsOk;kernel_rfl
def abI (W:Walks prog w A.in1 I fp wr 0 P St) {S:Addr} {s:Shared} {c:Nat} {d:Value} (bt:St 0 s.heap)
  (hS:s.heap.get? S=some { cls:=.type "list",dict:=none,data:=.seq #[] c,slots:=#[] })
  (hR:∀ h' tk,(∀ b o,b ∉ wr->s.heap.get? b=some o->h'.get? b=some o)->R (.ok (.ret d)) { s with heap:=h',toks:=tk }) :
  codeAny (model prog w) A (.builtin "min.loop" ⟨[.ref I,.none,.ref S],[("default",d)]⟩) R s:=by
 refine _9 F.entry_min_loop ?_;rw [_5 _K _];show wpAny _ A.in1 (seqItems? (.ref S) >>= _) _ _ s;refine lv (Jah hS rfl ?_);show wpAny _ A.in1 (tryCatch (pyNext (.ref I)) _ >>= _) _ _ s;refine lv (wpAny_tryCatch (W.done s _ _ bt fun h' tk hk'=>?_));exact lv (wpAny_rule (sw (hR h' tk hk')))
def Y9 (W:Walks prog w A.in1 I fp wr 1 P St) {S:Addr} {s:Shared} {c:Nat} {d:Value} (qM:S ∉ fp) (bt:St 0 s.heap)
  (hS:s.heap.get? S=some { cls:=.type "list",dict:=none,data:=.seq #[] c,slots:=#[] })
  (hR:∀ v h' tk,P 0 v->(∀ b o,b ∉ wr->b≠S->s.heap.get? b=some o->h'.get? b=some o)->R (.ok (.ret v)) { s with heap:=h',toks:=tk }) :
  codeAny (model prog w) A (.builtin "min.loop" ⟨[.ref I,.none,.ref S],[("default",d)]⟩) R s:=by
 have OD:S ∉ wr:=fun h=>qM (W.sub _ h);have Ez:(toString "min" ++ toString ".loop" : String) = "min.loop" := by decide
 refine _9 F.entry_min_loop ?_;rw [_5 _K _];show wpAny _ A.in1 (seqItems? (.ref S) >>= _) _ _ s;refine lv (Jah hS rfl ?_);show wpAny _ A.in1 (tryCatch (pyNext (.ref I)) _ >>= _) _ _ s;refine lv (wpAny_tryCatch (W.item 0 s _ _ (by decide) bt fun v h' tk hP hst' hk'=>?_));have hS':=hk' S _ OD hS;show wpAny _ A.in1 (updateSeq S (fun _=>#[v,v]) >>= _) _ _ _;refine lv ?_;refine wpAny_updateSeq hS' rfl ?_;rw [Ez];refine sw ⟨plainId_quiet _K _,?_⟩;have key:∀ (s2:Shared) (c2:Nat),St 1 s2.heap->s2.heap.get? S=some { cls:=.type "list",dict:=none,data:=.seq #[v,v] c2,slots:=#[] }->(∀ h'' tk'',(∀ b o,b ∉ wr->b≠S->s2.heap.get? b=some o->h''.get? b=some o)->R (.ok (.ret v)) { s2 with heap:=h'',toks:=tk'' }) ->
   codeAny (model prog w) A (.builtin "min.loop" ⟨[.ref I,.none,.ref S],[("default",d)]⟩) R s2:=fun s2 c2 kc hS2 hR2=>by
  refine _9 F.entry_min_loop ?_;rw [_5 _K _];show wpAny _ A.in1 (seqItems? (.ref S) >>= _) _ _ s2;refine lv (Jah hS2 rfl ?_);show wpAny _ A.in1 (tryCatch (pyNext (.ref I)) _ >>= _) _ _ s2;refine lv (wpAny_tryCatch (W.done s2 _ _ kc fun h3 tk3 M8=>?_));have hS3:=M8 S _ OD hS2;show wpAny _ A.in1 (updateSeq S (fun _=>#[]) >>= _) _ _ _;refine lv ?_;refine wpAny_updateSeq hS3 rfl (lv (wpAny_letGo (sw ?_)));exact hR2 _ tk3 fun b o hbw hbS e=>(GM _ _ (wP hbS)).trans (M8 b o hbw e)
 refine key _ _ (W.frame _ _ _ hst' fun b oW o e=>(GM _ _ (fun h:S=b=>qM (by rw [h];exact oW))).trans e) (Rs _ hS' rfl) fun h'' tk'' hk''=>?_;exact hR v h'' tk'' hP fun b o hbw hbS e=>hk'' b o hbw hbS ((GM _ _ (wP hbS)).trans (hk' b o hbw e))
def SG {E:Value->Shared->Prop} {s:Shared} {x d:Value} {Q:Value->Shared->Prop}
  (h:wpAny (model prog w) A.in1 (pyIter x) (fun it s₂=>∃ I fp wr n P St,it=.ref I/\Walks prog w A.in1 I fp wr n P St/\St 0 s₂.heap/\(∀ b∈fp,b < s₂.heap.objs.size)/\n<=1 /\
   ∀ v h' tk,(n=0/\v=d\/n=1/\P 0 v)->(∀ b o,b ∉ wr->s₂.heap.get? b=some o->h'.get? b=some o)->Q v { s₂ with heap:=h',toks:=tk }) E s) :
  wpAny (model prog w) A (call (.builtin "min") [x] [("default",d)]) Q E s:=by
 have Ez:(toString "min" ++ toString ".loop" : String) = "min.loop" := by decide
 refine _f (_E F.plain_min F.entry_min ?_);have NP:wpAny (model prog w) A.in1 (Builtin.«min» ⟨[x],[("default",d)]⟩) (fun fin s'=>match fin with
   | .done f=>(match (Except.ok f:Result) with | .ok (.ret v)=>Q v s' | .ok _=>False | .error e=>E e s')
   | .again c'=>c'.quiet=true/\codeAny (model prog w) A c' (fun r s'=>match r with | .ok (.ret v)=>Q v s' | .ok _=>False | .error e=>E e s') s') E s:=by
  show wpAny _ A.in1 (Builtin.Builtins.bindParams "min" ["key","default"] 0 ⟨[],[("default",d)]⟩ >>= _) _ _ s;refine lv (wpAny_of_eq (show Builtin.Builtins.bindParams "min" ["key","default"] 0 ⟨[],[("default",d)]⟩=pure [none,some d] from rfl) ?_);refine lv (sw ?_);refine lv (GT h (fun it s₂ h₂=>?_) fun _ _ e=>e);obtain ⟨I,fp,wr,n,P,St,rfl,W,bt,EY,hn,hQ⟩:=h₂;refine lv (_z ?_);have qM:s₂.heap.objs.size ∉ fp:=fun hm=>GE _ (EY _ hm);rw [Ez];refine sw ⟨plainId_quiet _K _,?_⟩;have kc:=W.frame _ _ _ bt (fun b _ o e=>pc { cls:=.type "list",data:=.seq ([]:List Value).toArray } e)
  match n,hn,W,hQ with
  | 0,_,W,hQ =>
   refine abI W kc (u8 _ rfl) fun h' tk hk=>?_;exact hQ d h' tk (.inl ⟨rfl,rfl⟩) fun b o hbw e=>hk b o hbw (pc _ e)
  | 1,_,W,hQ =>
   refine Y9 W qM kc (u8 _ rfl) fun v h' tk hP hk=>?_;exact hQ v h' tk (.inr ⟨rfl,hP⟩) fun b o hbw e=>hk b o hbw (xL (sB e)) (pc _ e)
 have ha:=PB x d;simp only [checkBuiltinCall,F.kind_min];cases hsig:Manifest.signature? "min" with
 | none=>exact sw NP
 | some sig =>
  have ha':Bind.checkArgs "min" sig ⟨[x],[("default",d)]⟩=pure ():=by simpa only [argsOk,hsig] using ha
  simp only [ha'];exact sw NP
end
def iC (h:Heap) (d:Addr) (es:Array DictEntry) (ep:Nat):Prop:=∃ o,h.get? d=some o/\o.ExactDict/\o.data=.dict es ep
def iC.at' {h h':Heap} {d:Addr} {es:Array DictEntry} {ep:Nat} (x:iC h d es ep) (k:∀ o,h.get? d=some o->h'.get? d=some o):iC h' d es ep:=let ⟨o,e,r⟩:=x;⟨o,k o e,r⟩
section
variable {prog:Program} {w:World} {A:Around} {E:Value->Shared->Prop} {s:Shared} {es:Array DictEntry}
def iC.typeIs {d:Addr} {ep:Nat} (x:iC s.heap d es ep):s.TypeIs (.ref d) "dict" := let ⟨o,e,c,_⟩:=x;⟨o,e,c.1⟩
def Bv {d:Addr} {ep:Nat} {Q:Value->Shared->Prop} (hd:(d == sysModules)=false) (hm:iC s.heap d es ep)
  (hQ:Q (.ref s.heap.objs.size) { s with heap:=s.heap.push { cls:=.type "dict_keyiterator",data:=.fields #[.ref d,.int 0 0,.int es.size 0,.int ep 0] } }) :
  wpAny (model prog w) A (pyIter (.ref d)) Q E s:=by
 obtain ⟨o,ho,hc,gI⟩:=id hm;have hT:=hm.typeIs;refine wpAny_pyIter_slot hT F.slot_dict_iter (_J F.slot_dict_iter hT F.entry_dict_iter ?_ (F.args_dict_iter_1 _));unfold Builtin.«dict.__iter__» Builtin.Dict.dictSlotNone;refine lv (lv (wpAny_notOrdered_dict hT ?_));show wpAny _ _ (pure (Value.ref d)) _ _ s;refine sw ?_;show wpAny _ _ (Builtin.Dict.showsAll d >>= _) _ _ s;unfold Builtin.Dict.showsAll;rw [zn (by rw [hd];exact wT)];refine lv (sw (lv (wpAny_dictEntries ho gI (lv (wpAny_dictEpoch ho gI ?_)))));refine lv (_z (sw ⟨_,rfl,"dict_keyiterator",_,⟨_,u8 _ rfl,rfl⟩,_x.lookup,?_⟩))
 simpa [rawInt] using hQ
def L8 {it d:Addr} {i ep:Nat} {Q:Option Value->Shared->Prop} (hit:s.heap.IsKeyIter it d i es.size ep) (hm:iC s.heap d es ep)
  (h1:∀ cb:i < es.size,∀ h',h'.IsKeyIter it d (i+1) es.size ep->Heap.SameBut it s.heap h'->Q (some es[i].key) { s with heap:=h' })
  (h2:es.size<=i->A.handled=none/\∀ h',Heap.ExtBut it s.heap h'->Q none { s with heap:=h' }) :
  wpAny (model prog w) A (pyNext (.ref it)) Q E s:=by
 obtain ⟨o,ho,hc,hd⟩:=id hit;obtain ⟨od,xN,aV,xS⟩:=id hm;unfold pyNext;refine lv (wpAny_attempt (wpAny_callSpecial?_slot (name:=Str.ofString "__next__") hit.typeIs _x
  (_J _x hit.typeIs F.entry_dict_keyiterator_next ?_ (F.args_dict_keyiterator_next_1 _))))
 refine lv (sw (lv (lv ?_)));refine lv (_o hit.typeIs (sw ?_));refine lv (wpAny_fieldsOf ho hd ?_);simp only [show Builtin.Dict_items.ownsTuple "dict_keyiterator" = false by decide,FB,Ty];show wpAny _ _ (if (Value.ref d == Value.none)=true then _ else _) _ _ s;rw [zn (show ¬ ((Value.ref d == Value.none)=true) from wT)];refine lv (sw (lv (wpAny_dictEntries xN xS ?_)));rw [zn (by simp)];refine lv (sw (lv (wpAny_dictEpoch xN xS ?_)));rw [zn (by simp)];refine sw ?_;rcases Nat.lt_or_ge i es.size with cb | gG
 ·simp only [show ¬ ((i:Int) < 0) from by omega,Ty,Int.toNat_natCast,Array.getElem?_eq_getElem cb];refine lv (lv (_o hit.typeIs (sw ?_)));refine lv (wpAny_isOneOf_keyiter hit.typeIs ?_);show wpAny _ _ (setField (.ref it) 1 (rawInt ((i:Int)+1)) >>= _) _ _ s;refine lv (wpAny_setField ho hd (by simp) ?_);have hit':(s.heap.update it (Obj.mapFields (·.setIfInBounds 1 (rawInt ((i:Int)+1))))).IsKeyIter it d (i+1) es.size ep :=
   ⟨_,Rs _ ho (Obj.isFreed_of_fields (Jaf hd _)),(Obj.cls_mapFields ..).trans hc,by rw [Jaf hd];simp [rawInt]⟩
  refine lv (Id (lv (wpAny_isOneOf_keyiter (s:={ s with heap:=s.heap.update it (Obj.mapFields (·.setIfInBounds 1 (rawInt ((i:Int)+1)))) }) hit'.typeIs ?_)));show wpAny _ _ (pure es[i].key) _ _ _;exact sw (sw ⟨_,rfl,sw (h1 cb _ hit' (Heap.SameBut.update ..))⟩)
 ·obtain ⟨hh,hQ⟩:=h2 gG;simp only [show ¬ ((i:Int) < 0) from by omega,Ty,Int.toNat_natCast,Array.getElem?_eq_none gG];refine lv (lv (_o hit.typeIs (sw ?_)));show wpAny _ _ (setField (.ref it) 0 .none >>= _) _ _ s;refine lv (wpAny_setField ho hd (by simp) ?_);show wpAny _ _ (newExc (.type "StopIteration") [] >>= _) _ _ _;refine lv ?_;simp only [newExc,newTuple];refine lv (_z ?_ (by size_fits));refine lv (m:=firstArgMember _ _) (wpAny_of_eq (a:=Value.none) (by first | rfl | (simp only [firstArgMember];rfl)) ?_);refine _z ?_ (by size_fits);simp only [raiseNew];refine lv (wpAny_handled ?_);rw [show A.in1.handled=none from hh];refine lv (sw (wpAny_throw ?_));refine lv (wpAny_isInstance (T := "StopIteration") (b:=true) ⟨_,u8 _ rfl,rfl⟩ isSubtype_stop ?_);exact sw (hQ _ (((Heap.SameBut.update ..).extBut.push _).push _))
def BE (hh:A.handled=none) (I d:Addr) (dQ:d≠I) (es:Array DictEntry) (ep:Nat) :
  Walks prog w A I [I,d] [I] es.size (fun i v=>∃ e,es[i]?=some e/\v=e.key) (fun i h=>h.IsKeyIter I d i es.size ep/\iC h d es ep) where
 sub:=fun b hb=>by simp at hb;simp [hb]
 frame:=fun _ _ _ st hk=>⟨st.1.at fun o e=>hk I (by simp) o e,st.2.at' fun o e=>hk d (by simp) o e⟩
 item:=fun i s Q E hi st hQ=>L8 st.1 st.2 (fun cb h' hit' hs'=>hQ _ h' s.toks ⟨es[i],by simp [cb],rfl⟩ ⟨hit',st.2.at' fun o e=>hs'.extBut d o dQ e⟩ fun b o hb e=>hs'.extBut b o (fun h=>hb (by simp [h])) e) fun gG=>absurd hi (Nat.not_lt.mpr gG)
 done:=fun s Q E st hQ=>L8 st.1 st.2 (fun cb=>absurd cb (GE _)) fun _=>⟨hh,fun h' he'=>hQ h' s.toks fun b o hb e=>he' b o (fun h=>hb (by simp [h])) e⟩
 self:=fun _ _ _ _ st hQ=>wpAny_pyIter_keyiter st.1 hQ
end
section
variable {X:Cx}
def yP (te:TE):TE:=fun σ H Q=>te σ H fun x H1=>∃ a kvs,x=.ref a/\H1 a=some (.dT kvs)/\((kvs=[]/\Q .aw H1)\/∃ k v,kvs=[(k,v)]/\∀ p,H1 p=some (.tup (k.map kV))->Q (.ref p) H1)
def aaN {e:Expr} {te:TE} {p p2 p3 pos:Pos} {j:Nat} (hc:X.calm=true) (hg:Gl X "min") (hm:X.mg "min" = none) (he:PE X e te) (hs:starEach [e] X.env=[(false,eval e X.env)]:=by rfl) :
  PE X (.Call (.Name "min" p) [e] [⟨some "default",.Constant .none j p2,p3⟩] pos) (yP te):=by
 intro π s σ H Q I h;refine Go (oh (u:=.builtin "min") I hg hm (by kernel_rfl) ?_);refine callWith_kw ?_ (by rw [hs];rfl) (by rw [hs];rfl);rw [hs];show wpAny _ _ (spliced ((false,eval e X.env)::backTo pos [])) _ _ s;refine Ps (aC (he π s σ H _ I h) fun u s1 ⟨x,H1,I1,rx,a,kvs,ex,hd,q⟩=>Tk ?_);subst ex;cases (show u=Value.ref a from rx);refine kws_cons (Constant_none (kws_nil ?_));show wpAny _ _ (call (.builtin "min") [.ref a] [("default",.none)]) _ _ s1;obtain ⟨hz,hS,xs,hp,o,es,ep,ho,hex,gI,kf,lP⟩:=id (I1.au a _ hd);refine SG (Bv hS ⟨o,ho,hex,gI⟩ ?_);have cb:a < s1.heap.objs.size:=sB ho;have hW:=BE (prog:=X.prog) (w:=X.w) (A:=X.A.in1) (I1.ok.hd hc) s1.heap.objs.size a (xL cb) es ep;have xY:(s1.heap.push { cls:=.type "dict_keyiterator",data:=.fields #[.ref a,.int 0 0,.int es.size 0,.int ep 0] }).IsKeyIter s1.heap.objs.size a 0 es.size ep/\iC (s1.heap.push { cls:=.type "dict_keyiterator",data:=.fields #[.ref a,.int 0 0,.int es.size 0,.int ep 0] }) a es ep :=
  ⟨⟨_,u8 _ rfl,rfl,rfl⟩,⟨o,pc _ ho,hex,gI⟩⟩
 have EY:∀ b∈[s1.heap.objs.size,a],b < (s1.heap.push { cls:=.type "dict_keyiterator",data:=.fields #[.ref a,.int 0 0,.int es.size 0,.int ep 0] }).objs.size:=fun b hb=>by
  rw [WF];rcases pi.mp hb with e | hb
  ·rw [e];exact Re _
  ·rw [EQ.mp hb];exact _V cb
 have kp:∀ h':Heap,(∀ b o,b ∉ [s1.heap.objs.size]->(s1.heap.push { cls:=.type "dict_keyiterator",data:=.fields #[.ref a,.int 0 0,.int es.size 0,.int ep 0] }).get? b=some o->h'.get? b=some o)->∀ b o,s1.heap.get? b=some o->h'.get? b=some o:=fun h' k b o e =>
  k b o (fun z=>by have z':=EQ.mp z;have:=sB e;rw [z'] at this;exact GE _ this) (pc _ e)
 have hsz:es.size=xs.length:=by rw [<- On,kf,pp]
 refine ⟨_,_,_,_,_,_,rfl,hW,xY,EY,?_,fun v h' tk hv hk=>?_⟩
 ·rcases q with ⟨rfl,_⟩ | ⟨k,v,rfl,_⟩
  ·cases hp;rw [hsz];exact Do _
  ·cases hp with | cons _ t=>cases t;rw [hsz];exact ul _
 ·have I2:Inv X π σ H1 { s1 with heap:=h',toks:=tk }:=I1.kept (t':=tk) (kp h' hk);rcases q with ⟨rfl,q⟩ | ⟨k,v',rfl,q⟩
  ·cases hp;rcases hv with ⟨_,rfl⟩ | ⟨h1,_⟩
   ·exact ⟨.aw,H1,I2,rfl,q⟩
   ·rw [hsz] at h1;cases h1
  ·cases hp with
   | @cons _ y _ _ hh t =>
    cases t;rcases hv with ⟨h1,_⟩ | ⟨_,e,he,rfl⟩
    ·rw [hsz] at h1;cases h1
    ·rw [<- Os,kf] at he;cases he;exact ⟨.ref y.2.1,H1,I2,rfl,q _ hh.2.1⟩
end
def cQ {f:Str} {v:V} {fs:List (Str×V)} {m:Nat} (h:fs.length<=m):(aA f v fs).length<=m+1:=wE (y4 f v fs) (_0 h)
def dB (fs gs:List (Str×V)):Prop:=∀ f,fs.lookup f=gs.lookup f
def dB.refl (fs:List (Str×V)):dB fs fs:=fun _=>rfl
def dB.put {fs gs:List (Str×V)} (h:dB fs gs) (f:Str) (v:V):dB (aA f v fs) (aA f v gs):=fun g=>by rw [eP,eP,h g]
section
variable {X:Cx}
def KG {π:List (Addr×Obj)} {σ:St} {H:Hp} {s:Shared} {Q:VK} {p:Addr} (hc:X.calm=true) (I:Inv X π σ H s) (hd:H p=some (.dT [])) (q:∀ l,H l=none->Q (.ref l) (upd H l (.lst []))) :
  wpAny (model X.prog X.w) X.A (call (.builtin "sorted") [.ref p]) (EP X π σ Q) X.xe s:=by
 obtain ⟨hz,hS,xs,hp,o,es,ep,ho,hex,gI,kf,lP⟩:=id (I.au p _ hd);cases hp;have he:es=#[]:=by
  have:es.toList=[]:=kf;exact Array.toList_eq_nil_iff.mp this
 subst he;have uJ:s.heap.DictAt (dO X.prog X.w) p [] ep:=⟨o,#[],ho,hex,gI,fun e z=>absurd z (by simp),.nil,.nil⟩;refine _L kind_sorted plain_sorted entry_sorted (args_sorted1 _) ?_;unfold Builtin.«sorted»;refine lv (m:=checkCount "sorted" 1 1 _) (sw ?_);refine lv (Ja4 (A:=X.A.in1) (W.kdl_dict (knd:=dO X.prog X.w) (kvs:=[]) (ep:=ep) hS) (I.ok.hd hc) uJ (Do _) fun h' tk acc hk' fE=>?_);have ha:acc=#[]:=Array.eq_empty_of_size_eq_zero fE.1;subst ha;refine lv (Jaj ?_ (Do _));have ie:(h'.push (seqObj "list" ([]:List Value).toArray 0)).get? h'.objs.size=some (seqObj "list" ([]:List Value).toArray 0):=u8 _ rfl;refine lv (Id (_J slot_list_sort ⟨_,ie,rfl⟩ entry_list_sort (list_sort_treeK strKind_oneLt (vs:=[]) ie (StrsAre.nil).keysOf (fun v₁ v₂ rest e=>nomatch e) (by decide) fun st' a1 a2=>⟨_,rfl,?_⟩) (args_list_sort _)));refine sw ⟨_,rfl,?_⟩;obtain ⟨e,he⟩:=sortedHeap_at (out:=(arrOf st').map (·.2)) ie;have bt:arrOf st'=#[]:=Array.eq_empty_of_size_eq_zero (a1.size_eq.trans (pairsOf_size []));rw [bt,Array.map_empty] at he;have I1:Inv X π σ H { s with heap:=h',toks:=tk }:=I.kept (t':=tk) hk';rw [bt,Array.map_empty];refine ⟨.ref h'.objs.size,_,I1.laid (t':=tk) (fun b o z=>?_) (ul _) (show bQ X.prog X.w _ _ _ (.lst []) from ⟨Do _,[],e,.nil,he⟩),rfl,q _ (I1.au.fresh (ul _))⟩;have hb:b < h'.objs.size:=sB z;rw [sortedHeap_old (xL hb) (by have:=WF h' (seqObj "list" ([]:List Value).toArray 0);rw [this];exact _V hb)];exact pc _ z
def R6 (K:ν):List V->Hp->VK->Prop:=fun xs H Q=>Lu K xs H Q\/HP xs H Q\/∃ p,xs=[.ref p]/\H p=some (.dT [])/\∀ l,H l=none->Q (.ref l) (upd H l (.lst []))
def FL {K:ν} (h:X.K=K) (hc:X.calm=true):dz X (.builtin "sorted") (R6 K):=by
 subst h;intro π s σ H xs us Q I r h;rcases h with h | h | ⟨p,rfl,hd,q⟩
 ·exact O1 π s σ H xs us Q I r h
 ·exact Ux hc π s σ H xs us Q I r h
 ·obtain ⟨u,rfl,rx⟩:=vals1 r;cases rx;exact KG hc I hd q
def uY:bootBuiltins "sorted" = some (.builtin "sorted"):=by kernel_rfl
def Dv.minD {e:Expr} {te:TE} {p p2 p3 pos:Pos} {j:Nat} (hc:X.calm=true) (hm:X.mg "min" = none) (he:QE X e te) (hg:Gl X "min" := by rfl) (hs:starEach [e] X.env=[(false,eval e X.env)]:=by rfl) :
  QE X (.Call (.Name "min" p) [e] [⟨some "default",.Constant .none j p2,p3⟩] pos) (yP te):=⟨aaN hc hg hm he.h hs⟩
end
structure qj (K:ν) (x qual:Str) (st:Stmt) (f:Addr) (fd:FuncData) (ds:List Value):Prop where
 ex:∃ (oc:Value) (od:Option Addr) (dt:Addr) (kV doc pm:Value) (an:Option Addr) (cdv ct:Value) (dq:Array (Option Value)) (o:Obj) (n:Nat),
  fd=W.fnOf x qual (fe st) (aN st) (ax st) (.ref dt) kV doc pm an cdv ct/\K.lookup f=some ⟨oc,od,.func fd,dq⟩/\W.codeIn K cdv qual=true/\K.lookup dt=some o/\o.data=.seq ds.toArray n
 kp:W.keepIn K (.ref f)=true
section
variable {P:Program} {w:World} {K:ν} {mg:Str->Option Value} {base:Heap} {CX:dj} {x qual:Str} {st:Stmt} {f:Addr} {fd:FuncData} {N ps:List Str} {k:Nat} {ds:List Value}
def qj.br {sp:Sp} (F:qj K x qual st f fd ds) (S:aF N ps (ax st)) (len:∀ vs H Q E,sp vs H Q E->vs.length=ps.length)
  (hb:∀ (cdv:Value) (A:Around) (outer:List Env) (s:Shared) (H:Hp) (vs:List V) (Q:VK) (E:XK),bc k (A.deeper (envOfC qual (ax st) s.heap.objs.size f cdv))->sp vs H Q E ->
   ∃ t,dv (c7 CX P w K mg base N qual (ax st) f cdv A outer s H E) (aN st) t/\t { nx:=fun _ H'=>Q .aw H',rt:=Q } (start N vs) H):aq P w K mg base CX (k+1) f fd ps sp:=by
 obtain ⟨oc,od,dt,kV,doc,pm,an,cdv,ct,dq,o,n,rfl,lk,aV,_⟩:=F.ex;exact v8 lk aV S len fun A outer s H vs Q E hr dm=>hb cdv A outer s H vs Q E hr dm
def RF {oc:Value} {od an:Option Addr} {dq:Array (Option Value)} {kV doc pm cdv ct:Value} {dt:Addr} {o:Obj} {n:Nat} (l:K.lookup f=some ⟨oc,od,.func (W.fnOf x qual (fe st) (aN st) (ax st) (.ref dt) kV doc pm an cdv ct),dq⟩)
  (c:W.codeIn K cdv qual=true) (k:W.keepIn K (.ref f)=true) (ld:K.lookup dt=some o) (hd:o.data=.seq ds.toArray n):qj K x qual st f (W.fnOf x qual (fe st) (aN st) (ax st) (.ref dt) kV doc pm an cdv ct) ds :=
 ⟨⟨oc,od,dt,kV,doc,pm,an,cdv,ct,dq,o,n,rfl,l,c,ld,hd⟩,k⟩
def eK.YO {sp:xm} (F:eK K x qual st f fd) (S:aF N ps (ax st)) (len:∀ outer s vs H Q E,sp outer s vs H Q E->vs.length=ps.length)
  (hb:∀ (cdv:Value) (A:Around) (outer:List Env) (s:Shared) (H:Hp) (vs:List V) (Q:VK) (E:XK),bc k (A.deeper (envOfC qual (ax st) s.heap.objs.size f cdv))->sp outer s vs H Q E ->
   ∃ t,dv (c7 CX P w K mg base N qual (ax st) f cdv A outer s H E) (aN st) t/\t { nx:=fun _ H'=>Q .aw H',rt:=Q } (start N vs) H):sr P w K mg base CX (k+1) f fd ps sp:=by
 obtain ⟨oc,od,kV,doc,pm,an,cdv,ct,dq,rfl,lk,aV⟩:=F.ex;exact S0 lk aV S len fun A outer s H vs Q E hr dm=>hb cdv A outer s H vs Q E hr dm
end
section
variable {X:Cx}
end
def dJ {X:Cx}:hJ X (fun _=>E0) where
 pass:=fun π σ H s e s' I hc=>by
  obtain ⟨ea,C,od,H',rfl,F,hE⟩:=hc;exact hE.elim
section
variable {X:Cx}
end
def eX {α:Type} (p:α->Prop):List α->Prop
 | []=>True
 | a::r=>p a/\eX p r
def eX.mem {α:Type} {p:α->Prop}:∀ {l:List α},eX p l->∀ a∈l,p a
 | _::_,h,a,ha=>by
  rcases pi.mp ha with rfl | ha
  ·exact h.1
  ·exact eX.mem h.2 a ha
def VO:∀ {cl:List (Str×Addr)},(cl.map (·.2)).Nodup->∀ x y c,cl.lookup x=some c->cl.lookup y=some c->x=y:=by
 intro cl nd x y c h1 h2;have m1:=Db h1;have m2:=Db h2
 induction cl with
 | nil=>cases m1
 | cons e r ih =>
  have nd':=Fr.mp (show (e.2::r.map (·.2)).Nodup from nd);rcases pi.mp m1 with e1 | e1 <;> rcases pi.mp m2 with e2 | e2
  ·rw [<- e1] at e2;exact (PP Prod.fst e2).symm
  ·exact absurd (Ix.mpr ⟨_,e2,by rw [<- e1]⟩) nd'.1
  ·exact absurd (Ix.mpr ⟨_,e1,by rw [<- e2]⟩) nd'.1
  ·have go:∀ {l:List (Str×Addr)},(l.map (·.2)).Nodup->(x,c)∈l->(y,c)∈l->x=y:=by
    intro l
    induction l with
    | nil=>intro _ a;cases a
    | cons e r ih =>
     intro nd a b;have nd':=Fr.mp (show (e.2::r.map (·.2)).Nodup from nd);rcases pi.mp a with e1 | e1 <;> rcases pi.mp b with e2 | e2
     ·rw [<- e1] at e2;exact (PP Prod.fst e2).symm
     ·exact absurd (Ix.mpr ⟨_,e2,by rw [<- e1]⟩) nd'.1
     ·exact absurd (Ix.mpr ⟨_,e1,by rw [<- e2]⟩) nd'.1
     ·exact ih nd'.2 e1 e2
   exact go nd'.2 e1 e2
def oA.of {N:List Str} {scope:Scope} {cl:List (Str×Addr)} (kind:scope.kind=.function) (co:scope.isCoroutine=false) (gen:scope.isGenerator=false) (rq:scope.names.all (fun x=>x.2 != .cell)=true)
  (free:N.all (fun x=>scope.names.lookup x == some .free)=true) (has:eX (fun e:Str×NameKind=>e.2=.free->∃ c,cl.lookup e.1=some c) scope.names) (nd:(cl.map (·.2)).Nodup):oA N scope cl where
 kind:=kind
 co:=co
 gen:=gen
 rq:=fun x hx=>by simpa using IO.mp rq x hx
 free:=fun x hx=>by simpa using IO.mp free x hx
 has:=fun x hx=>eX.mem has _ (Db hx) rfl
 inj:=VO nd
def qb.of {X:Cx} {N':List Str} {ix:List Nat} {bY:List (Str×Addr)} (len:ix.length=N'.length) (own:X.fn=fun _=>true)
  (at':eX (fun e:Nat×Str=>X.N[e.1]?=some e.2/\X.env.scope.names.lookup e.2=some .cell/\bY.lookup e.2=X.env.cells.lookup e.2) (ix.zip N'))
  (gW:eX (fun e:Str×Addr=>X.env.cells.lookup e.1=some e.2) bY):qb X N' ix bY where
 len:=len
 at':=fun i j h=>by
  have hi:=(sK.mp h).1;have hi':i < N'.length:=len ▸ hi;have hm:(j,N'[i])∈ix.zip N':=by
   refine _Y.mpr ⟨i,?_⟩;rw [_M];exact ⟨h,mo hi'⟩
  have z:=eX.mem at' _ hm;exact ⟨N'[i],mo hi',z.1,z.2.1⟩
 gW:=fun x c h=>eX.mem gW _ (Db h)
 zp:=fun x hx=>by
  obtain ⟨i,hi,rfl⟩:=TD hx;have hi':i < ix.length:=len ▸ hi;have hm:(ix[i],N'[i])∈ix.zip N':=by
   refine _Y.mpr ⟨i,?_⟩;rw [_M];exact ⟨mo hi',mo hi⟩
  exact (eX.mem at' _ hm).2.2
 own:=fun _ _ _=>by rw [own]
def eK.PF {P:Program} {w:World} {K:ν} {mg:Str->Option Value} {base:Heap} {CX:dj} {x qual:Str} {st:Stmt} {f:Addr} {fd:FuncData} {N ps:List Str} {k:Nat} {sp:Sp} (F:eK K x qual st f fd) (S:aF N ps (ax st)) (len:∀ vs H Q E,sp vs H Q E->vs.length=ps.length)
  (hb:∀ (cdv:Value) (A:Around) (outer:List Env) (s:Shared) (H:Hp) (vs:List V) (Q:VK) (E:XK),fd.code=cdv->bc k (A.deeper (envOfC qual (ax st) s.heap.objs.size f cdv))->sp vs H Q E ->
   ∃ t,dv (c7 CX P w K mg base N qual (ax st) f cdv A outer s H E) (aN st) t/\t { nx:=fun _ H'=>Q .aw H',rt:=Q } (start N vs) H):aq P w K mg base CX (k+1) f fd ps sp:=by
 obtain ⟨oc,od,kV,doc,pm,an,cdv,ct,dq,rfl,lk,aV⟩:=F.ex;exact v8 lk aV S len fun A outer s H vs Q E hr dm=>hb cdv A outer s H vs Q E rfl hr dm
section
variable {X:Cx}
def xw {π:List (Addr×Obj)} {σ:St} {H:Hp} {s:Shared} {A:Around} {a b:Addr} {xs ys:List V} (I:Inv X π σ H s) (ha:aH X.K H a xs) (hb:aH X.K H b ys) (h0:xs=[]\/ys=[]) (hu:A.units < cLine) :
  SeqAt.RcAt A s (.ref a) (.ref b) (decide (xs=ys))/\SeqAt.RcNeAt A s (.ref a) (.ref b) (!decide (xs=ys)):=by
 obtain ⟨i1,r1,p1,_⟩:=I.list ha;obtain ⟨i2,r2,p2,_⟩:=I.list hb;have n1:i1.toArray.size=xs.length:=by rw [ww,<- r1.length]
 have n2:i2.toArray.size=ys.length:=by rw [ww,<- r2.length]
 by_cases h:xs.length=ys.length
 ·have e1:xs=[]:=by
   rcases h0 with e | e
   ·exact e
   ·rw [e] at h;exact _k.mp h
  have e2:ys=[]:=by rw [e1] at h;exact _k.mp h.symm
  subst e1 e2;have hsz:i1.toArray.size=i2.toArray.size:=by rw [n1,n2]
  have hz:i1.toArray.size=0:=n1;have k1:=SeqAt.RcAt.lists (A:=A) (s:=s) (e:=fun _=>true) p1.isList p2.isList hsz hu (fun j g1 g2=>absurd g1 (by rw [hz];exact Nat.not_lt_zero _));have k2:=SeqAt.RcNeAt.lists (A:=A) (s:=s) (e:=fun _=>true) p1.isList p2.isList hsz hu (fun j g1 g2=>absurd g1 (by rw [hz];exact Nat.not_lt_zero _));rw [hz] at k1 k2;exact ⟨k1,k2⟩
 ·have hsz:(i1.toArray.size != i2.toArray.size)=true:=by rw [n1,n2];simpa using h
  have e:decide (xs=ys)=false:=tz fun z=>h (by rw [z]);rw [e];exact ⟨SeqAt.RcAt.lists_lengths p1.isList p2.isList hsz hu,SeqAt.RcNeAt.lists_lengths p1.isList p2.isList hsz hu⟩
def pB (K:ν) (neg:Bool):R2:=fun x y H Q=>match x,y with
 | .ref a,.ref b=>∃ xs ys:List V,aH K H a xs/\aH K H b ys/\((ys=[]/\Q (.bl (neg ^^ xs.isEmpty)) H)\/(xs=[]/\Q (.bl (neg ^^ ys.isEmpty)) H))
 | _,_=>False
def Ms {xs ys:List V} (h:ys=[]):decide (xs=ys)=xs.isEmpty:=by subst h;cases xs <;> simp
def Ge {xs ys:List V} (h:xs=[]):decide (xs=ys)=ys.isEmpty:=by subst h;cases ys <;> simp
def Uo {K:ν} (hK:X.K=K) (hu:X.A.units < cLine):aZ X (compareOp .Eq) (pB K false):=by
 subst hK;intro π s σ H x y v u Q I rx ry h;unfold pB at h;split at h
 ·obtain ⟨xs,ys,ha,hb,q⟩:=h;cases rx;cases ry;simp only [Bool.false_bne] at q;rcases q with ⟨e,q⟩ | ⟨e,q⟩
  ·exact (xw I ha hb (.inr e) hu).1 _ _ _ _ ⟨.bl _,H,I,rfl,by rw [Ms e];exact q⟩
  ·exact (xw I ha hb (.inl e) hu).1 _ _ _ _ ⟨.bl _,H,I,rfl,by rw [Ge e];exact q⟩
 ·exact h.elim
def Qz {K:ν} (hK:X.K=K) (hu:X.A.units < cLine):aZ X (compareOp .NotEq) (pB K true):=by
 subst hK;intro π s σ H x y v u Q I rx ry h;unfold pB at h;split at h
 ·obtain ⟨xs,ys,ha,hb,q⟩:=h;cases rx;cases ry;simp only [Bool.true_bne] at q;rcases q with ⟨e,q⟩ | ⟨e,q⟩
  ·exact (xw I ha hb (.inr e) hu).2 _ _ _ _ ⟨.bl _,H,I,rfl,by rw [Ms e];exact q⟩
  ·exact (xw I ha hb (.inl e) hu).2 _ _ _ _ ⟨.bl _,H,I,rfl,by rw [Ge e];exact q⟩
 ·exact h.elim
def Ca:V->List V->Hp->VK->Prop:=fun x vs H Q=>match x,vs with
 | .ref l,[]=>∃ xs y,H l=some (.lst (xs++[y]))/\Q y (upd H l (.lst xs))
 | _,_=>False
def JO:eG X "list.pop" Ca:=eG.imp (r:=JE) abj fun x vs H Q h=>by
 unfold Ca at h;split at h
 ·obtain ⟨xs,y,hl,q⟩:=h;refine ⟨_,xs++[y],y,rfl,rfl,hl,?_,?_⟩
  ·simp
  ·rw [List.dropLast_concat];exact q
 ·exact h.elim
def ZY:V->List V->Hp->VK->Prop:=fun x vs H Q=>match x,vs with
 | .ref l,[]=>∃ xs,H l=some (.lst xs)/\Q .aw (upd H l (.lst []))
 | _,_=>False
def Xy:List V->Hp->VK->Prop:=fun xs H Q=>∃ p kvs,xs=[.ref p]/\H p=some (.dT kvs)/\∀ l (ks:List Addr),ks.length=kvs.length->(∀ (i:Nat) (a:Addr) (k:List Key) (v:V),ks[i]?=some a->kvs[i]?=some (k,v)->H a=some (.tup (k.map kV)))->H l=none ->
 Q (.ref l) (upd H l (.lst (ks.map V.ref)))
end
def Ry {prog:Program} {w:World} {d:Addr} {es:Array DictEntry} {ep:Nat} (lo:(d == sysModules)=false):W.KdlSrc prog w "dict" d d es.size (fun i v=>∃ e,es[i]?=some e/\v=e.key) (fun h=>iC h d es ep) where
 type:=fun _ hm=>hm.typeIs
 there:=fun _ hm=>let ⟨_,e,_⟩:=hm;⟨sB e,sB e⟩
 keep:=fun _ _ hm hk=>hm.at' fun o e=>hk d (.inl rfl) o e
 notList:=by decide
 notTuple:=by decide
 hint:=fun _ _ _ _ hm hq=>W.kdl_hint_dict hm.typeIs hq
 iter:=fun _ _ hh hm=>⟨_,_,(fun _ _ hq=>Bv lo hm hq),BE hh _ d (let ⟨_,e,_⟩:=hm;xL (sB e)) es ep,⟨⟨_,u8 _ rfl,rfl,rfl⟩,hm.at' fun o e=>pc _ e⟩⟩
def Lk {α β:Type} {F:α->β->Prop}:∀ {l₁:List α} {l₂:List β},Paired F l₁ l₂->∀ {i:Nat} {a:α} {b:β},l₁[i]?=some a->l₂[i]?=some b->F a b
 | _,_,.cons h _,0,_,_,e1,e2=>by cases e1;cases e2;exact h
 | _,_,.cons _ t,i+1,_,_,e1,e2=>Lk t e1 e2
section
variable {X:Cx}
def CK:∀ {vs:List V} {us:List Value},vs.length=us.length->(∀ (i:Nat) (v:V) (u:Value),vs[i]?=some v->us[i]?=some u->RelV v u)->Vals vs us
 | [],[],_,_=>.nil
 | v::vs,u::us,e,h=>.cons (h 0 v u rfl rfl) (CK (by simpa using e) fun i v u h1 h2=>h (i+1) v u h1 h2)
def O3 (hc:X.calm=true):dz X (.type "list") Xy:=by
 intro π s σ H xs us Q I r h;obtain ⟨p,kvs,rfl,hd,q⟩:=h;obtain ⟨u,rfl,rx⟩:=vals1 r;cases rx;obtain ⟨hz,hS,ys,hp,o,es,ep,ho,hex,gI,kf,lP⟩:=id (I.au p _ hd);have hsz:es.size=ys.length:=by rw [<- On,kf,pp]
 have oP:kvs.length=ys.length:=hp.length;refine W.kdl_call (Ry (prog:=X.prog) (w:=X.w) (ep:=ep) (es:=es) hS) (I.ok.hd hc) ⟨o,ho,hex,gI⟩ (by rw [hsz,<- oP];exact hz) fun h' tk acc c hk hD fE=>?_;have hal:acc.toList.length=ys.length:=by rw [On,fE.1,hsz]
 have hv:Vals ((ys.map (·.2.1)).map V.ref) acc.toList:=by
  refine CK (by simp [hal]) fun i v u h1 h2=>?_;obtain ⟨e,he,rfl⟩:=fE.2 i u (by rw [<- Os];exact h2);rw [<- Os,kf,Da] at he;rw [_v,Da] at h1;cases hy:ys[i]? with
  | none=>rw [hy] at h1;cases h1
  | some y =>
   rw [hy] at h1 he;cases h1;cases he;exact rfl
 refine ⟨.ref s.heap.objs.size,_,I.laid (t':=tk) hk (ul _) (show bQ X.prog X.w _ _ _ (.lst ((ys.map (·.2.1)).map V.ref)) from ⟨?_,_,c,hv,?_⟩),rfl,q _ (ys.map (·.2.1)) ?_ (fun i a k v h1 h2=>?_) (I.au.fresh (ul _))⟩
 ·simp only [pp];rw [<- oP];exact hz
 ·rw [_4];exact hD
 ·rw [pp,oP]
 ·rw [Da] at h1;cases hy:ys[i]? with
  | none=>rw [hy] at h1;cases h1
  | some y =>
   rw [hy] at h1;cases h1;have z:=Lk hp h2 hy;exact z.2.1
end
def Vw:typeLookup (.type "list_reverseiterator") "__len__" = pure none:=by rw [typeLookup_type,builtinLookup_eq_fast];kernel_rfl
def WD:typeLookup (.type "list_reverseiterator") "__length_hint__" = pure (some (.builtin "list_reverseiterator.__length_hint__")):=by rw [typeLookup_type,builtinLookup_eq_fast];kernel_rfl
section
variable {prog:Program} {w:World} {A:Around} {E:Value->Shared->Prop} {s:Shared} {I:Addr}
def RY {Q:Bool->Shared->Prop} (hT:s.TypeIs (.ref I) "list_reverseiterator") (h:Q false s):wpAny (model prog w) A (Builtin.List.listLengthHint (.ref I)) Q E s:=by
 unfold Builtin.List.listLengthHint;refine lv (wpAny_specialOf hT Vw ?_);show wpAny _ A (specialOf (Value.ref I) (Str.ofString "__length_hint__") >>= _) _ _ _;refine lv (wpAny_specialOf hT WD ?_);generalize hid:("list_reverseiterator.__length_hint__" : String)=id0
 wp_delta
 rw [show splitId id0=some ("list_reverseiterator","__length_hint__") from by subst hid;decide +kernel];subst hid;refine lv (wpAny_isInstance (T := "list_reverseiterator") (b:=true) hT (by rw [isSubtype_type];kernel_rfl) ?_);refine Ja0 (fun gr=>absurd gr (by decide)) (fun _=>?_);refine Ja0 (fun _=>?_) (fun gr=>absurd (by decide +kernel) gr);refine Ja0 (fun gr=>absurd gr (by decide +kernel)) (fun _=>?_);exact sw h
def abh {R:Result->Shared->Prop} {l S:Addr} {items:Array Value} {res:Value} {c₀:Nat} (hh:A.handled=none) (hit:s.heap.IsRevIter I l ((items.size:Int) - 1)) (hl:s.heap.IsList l items) (dQ:l≠I) (MU:S≠I) (hSl:S≠l) (hn:items.size<=sizeLine)
  (hS:s.heap.get? S=some { cls:=.type "list",data:=.seq #[] c₀ })
  (hR:∀ h' tk acc' c',(∀ b o,b≠S->b≠I->s.heap.get? b=some o->h'.get? b=some o)->h'.get? S=some { cls:=.type "list",dict:=none,data:=.seq acc' c',slots:=#[] }->ItemsOf (fun i v=>items[items.size - 1 - i]?=some v) acc' items.size->R (.ok (.ret res)) { s with heap:=h',toks:=tk }) :
  wpAny (model prog w) A.in1 (Builtin.List.listExtendWith (.ref S) (.ref I) res)
   (fun fin s'=>match fin with | .done f=>R (.ok f) s' | .again c'=>c'.quiet=true/\codeAny (model prog w) A c' R s') (fun e s'=>R (.error e) s') s:=by
 have W:=Walks.listRev (prog:=prog) (w:=w) (A:=A.in1) hh I l dQ items;have qM:S ∉ [I,l]:=by simp only [pi,ss,AC,_F];exact ⟨MU,hSl⟩
 have xY:0<=items.size/\s.heap.IsRevIter I l ((items.size:Int) - 1 - ((0:Nat):Int))/\s.heap.IsList l items:=⟨Do _,by simpa using hit,hl⟩;unfold Builtin.List.listExtendWith;refine lv (wpAny_typeOf hit.typeIs ?_);have h1:Builtin.List.listSameRef (.ref S) (.ref I)=false:=by simp [Builtin.List.listSameRef,MU]
 simp only [h1,show (Value.type "list_reverseiterator" == Value.type "list")=false by decide,show (Value.type "list_reverseiterator" == Value.type "tuple")=false by decide,Jai,FB,Ty];refine lv (W.self 0 _ _ _ xY ?_);refine lv (Id (RY hit.typeIs ?_));refine Ja0 (fun h=>absurd h (by decide)) (fun _=>sw ⟨plainId_quiet PySem.F.plain_extend_loop _,?_⟩);refine codeAny_extend_loopS W.toS hn S qM res items.size 0 _ #[] c₀ rfl (Do _) xY hS (ItemsOf.nil _) fun s' acc' c' hm hS' fE=>?_;rw [Moved.eq_with hm];refine hR s'.heap s'.toks acc' c' (fun b o hb hb' e=>hm.heap b o (fun hmem=>?_) e) hS' fE;rcases pi.mp hmem with e' | hmem
 ·exact hb e'
 ·exact hb' (EQ.mp hmem)
def Q8 {Q:Value->Shared->Prop} {l:Addr} {items:Array Value} (hh:A.handled=none) (hit:s.heap.IsRevIter I l ((items.size:Int) - 1)) (hl:s.heap.IsList l items) (dQ:l≠I) (hn:items.size<=sizeLine)
  (hQ:∀ h' tk acc' c',(∀ b o,b≠I->s.heap.get? b=some o->h'.get? b=some o)->h'.get? s.heap.objs.size=some { cls:=.type "list",dict:=none,data:=.seq acc' c',slots:=#[] }->ItemsOf (fun i v=>items[items.size - 1 - i]?=some v) acc' items.size ->
   Q (.ref s.heap.objs.size) { s with heap:=h',toks:=tk }):wpAny (model prog w) A (call (.type "list") [.ref I]) Q E s:=by
 have hIlt:I < s.heap.objs.size:=let ⟨_,e,_⟩:=hit;sB e
 have hllt:l < s.heap.objs.size:=let ⟨_,e,_⟩:=hl;sB e
 refine callType_codes (Q₁:=fun obj s₁=>obj=.ref s.heap.objs.size/\s₁={ s with heap:=s.heap.push { cls:=.type "list",data:=.seq #[] } }) PySem.F.called_list (PySem.F.typeCall_list_1 _) PySem.F.entry_list_init
  (code_list_new _ ⟨rfl,rfl⟩) fun obj s₁ h₁=>?_
 obtain ⟨rfl,rfl⟩:=h₁;have hS:(s.heap.push { cls:=.type "list",data:=.seq #[] }).get? s.heap.objs.size=some { cls:=.type "list",data:=.seq #[] }:=u8 _ rfl;refine ⟨⟨_,hS,rfl⟩,PySem.F.args_list_init_2 _ _,?_⟩;show wpAny _ _ (do let old <- Builtin.List.listItems (.ref s.heap.objs.size);Builtin.List.listUpdate (.ref s.heap.objs.size) (fun _=>#[]);letGo old.toList.reverse;Builtin.List.listExtendWith (.ref s.heap.objs.size) (.ref I) .none) _ _ _;refine lv ?_;unfold Builtin.List.listItems;refine lv (Jah hS rfl (sw ?_));show wpAny _ _ (updateSeq s.heap.objs.size (fun _=>#[]) >>= fun _=>letGo (#[]:Array Value).toList.reverse >>= fun _=>Builtin.List.listExtendWith (.ref s.heap.objs.size) (.ref I) .none) _ _ _;refine lv (wpAny_updateSeq hS rfl ?_);have hS₂:=Rs (Obj.mapSeq (fun _=>(#[]:Array Value))) hS rfl;have Ej:∀ b o,s.heap.get? b=some o->((s.heap.push { cls:=.type "list",data:=.seq #[] }).update s.heap.objs.size (Obj.mapSeq (fun _=>(#[]:Array Value)))).get? b=some o :=
  fun b o e=>(GM _ _ (Ja7 (sB e))).trans (pc _ e)
 refine lv (wpAny_letGo ?_);refine abh (A:=A.in1) hh (hit.at fun o e=>Ej _ o e) (hl.at fun o e=>Ej _ o e) dQ (Ja7 hIlt) (Ja7 hllt) hn hS₂ fun h' tk acc' c' hk hS' fE=>?_;exact ⟨rfl,hQ h' tk acc' c' (fun b o hb e=>hk b o (xL (sB e)) hb (Ej b o e)) hS' fE⟩
end
section
variable {X:Cx}
def JH (K:ν) (te:TE):TE:=fun σ H Q=>te σ H fun x H1=>∃ p ys,x=.ref p/\aH K H1 p ys/\∀ l,H1 l=none->Q (.ref l) (upd H1 l (.lst ys.reverse))
def YH {e:Expr} {te:TE} {p q pos qos:Pos} (hc:X.calm=true) (hg:Gl X "list") (hm:X.mg "list" = none) (EL:Gl X "reversed") (EK:X.mg "reversed" = none) (he:PE X e te) (hs:starEach [e] X.env=[(false,eval e X.env)]:=by rfl) :
  PE X (.Call (.Name "list" p) [.Call (.Name "reversed" q) [e] [] qos] [] pos) (JH X.K te):=by
 intro π s σ H Q I h;refine Go (oh (u:=.type "list") I hg hm (by kernel_rfl) ?_);refine T0 ?_;show wpAny _ _ (spliced ((false,eval (.Call (.Name "reversed" q) [e] [] qos) X.env)::backTo pos (starEach [] X.env))) _ _ s;refine Ps ?_;refine Go (oh (u:=.type "reversed") I EL EK (by kernel_rfl) ?_);refine T0 ?_ (by rw [hs];rfl) (by rfl);rw [hs];show wpAny _ _ (spliced ((false,eval e X.env)::backTo qos [])) _ _ s;refine Ps (aC (he π s σ H _ I h) fun u s1 ⟨x,H1,I1,rx,a,ys,ex,hl,q⟩=>Tk ?_);subst ex;cases (show u=Value.ref a from rx);obtain ⟨ao,r',pl,hz⟩:=I1.list hl;have hlen:=r'.length;obtain ⟨oa,hoa,_⟩:=pl.isList;have halt:a < s1.heap.objs.size:=sB hoa;refine call_reversed_list pl.isList ?_;refine Tk ?_;refine Q8 (I1.ok.hd hc) (l:=a) (items:=ao.toArray) ⟨_,u8 _ rfl,rfl,rfl⟩ (pl.isList.at fun o e=>pc _ e) (xL halt) (by rw [ww,<- hlen];exact hz) fun h' tk acc c hk hD fE=>?_;have kp:∀ b o,s1.heap.get? b=some o->h'.get? b=some o:=fun b o e=>hk b o (xL (sB e)) (pc _ e);have hsz:s1.heap.objs.size<=(s1.heap.push (revObj a ((ao.toArray.size:Int) - 1))).objs.size:=by rw [WF];exact _2 _
 have hv:Vals ys.reverse acc.toList:=by
  have ha:acc.size=ao.length:=by rw [fE.1,ww]
  refine CK (by rw [Ja5,hlen,<- ha];exact On.symm) fun i v u h1 h2=>?_;have hu:=fE.2 i u (by rw [<- Os];exact h2);have hi:i < ys.length:=by have:=(sK.mp h1).1;rwa [Ja5] at this
  rw [List.getElem?_reverse hi] at h1;obtain ⟨w,hw,rw'⟩:=r'.get h1;rw [List.getElem?_toArray,ww,<- hlen,hw] at hu;cases hu;exact rw'
 refine ⟨.ref _,_,I1.laid (t':=tk) kp hsz (show bQ X.prog X.w _ _ _ (.lst ys.reverse) from ⟨by rw [Ja5];exact hz,_,c,hv,by rw [_4];exact hD⟩),rfl,q _ (I1.au.fresh hsz)⟩
def Dv.listRev {e:Expr} {te:TE} {p q pos qos:Pos} {K:ν} (hK:X.K=K) (hc:X.calm=true) (hm:X.mg "list" = none) (EK:X.mg "reversed" = none) (he:QE X e te) (hg:Gl X "list" := by rfl) (EL:Gl X "reversed" := by rfl) (hs:starEach [e] X.env=[(false,eval e X.env)]:=by rfl) :
  QE X (.Call (.Name "list" p) [.Call (.Name "reversed" q) [e] [] qos] [] pos) (JH K te):=hK ▸ ⟨YH hc hg hm EL EK he.h hs⟩
end
def Ks {K:ν} {x:Str} {f c P:Addr} {oc occ:Value} {od odc:Option Addr} {fd:FuncData} {sl slc:Array (Option Value)} {vs:Array Value} (n:W.nsIn K mainGlobals x=some (some (.ref f))) (l:K.lookup f=some ⟨oc,od,.func fd,sl⟩) (hc:fd.code=.ref c)
  (lc:K.lookup c=some ⟨occ,odc,.fields vs,slc⟩) (hv:vs[11]?=some (.ref P)):W.tabIn K x=some (c,P):=by
 unfold W.tabIn;simp only [n,l,hc,lc,hv]
def cq (X:Cx) (scope:Scope) (cl:List (Str×Addr)) (N:List Str) (s:Shared) (H:Hp) (ex:List Addr) (C:Addr):Cx :=
 { X with N:=N,s₀:=s,H₀:=H,env:=compEnvC scope cl C X.env,outer:=X.stack,stack:=X.stack,ex:=ex,fn:=fun _=>false,pn:=[],xe:=fun _ _=>False }
structure iI (X:Cx) (scope:Scope) (cl:List (Str×Addr)) (caps:List Str) (ix:List Nat):Prop where
 gW:closureFor scope X.env=pure cl
 sub:∀ x c,cl.lookup x=some c->X.env.cells.lookup x=some c
 has:∀ y,((relabel scope X.env).names.lookup y=some .cell\/(relabel scope X.env).names.lookup y=some .free)->∃ c,cl.lookup y=some c
 len:ix.length=caps.length
 at':∀ (i j:Nat),ix[i]?=some j->∃ x,caps[i]?=some x/\X.N[j]?=some x/\X.env.scope.names.lookup x=some .cell/\(relabel scope X.env).names.lookup x=some .cell/\cl.lookup x=X.env.cells.lookup x
def iI.of {X:Cx} {scope:Scope} {cl:List (Str×Addr)} {caps:List Str} {ix:List Nat} (gW:closureFor scope X.env=pure cl) (sub:eX (fun e:Str×Addr=>X.env.cells.lookup e.1=some e.2) cl)
  (has:eX (fun e:Str×NameKind=>(e.2=.cell\/e.2=.free)->∃ c,cl.lookup e.1=some c) (relabel scope X.env).names) (len:ix.length=caps.length)
  (at':eX (fun e:Nat×Str=>X.N[e.1]?=some e.2/\X.env.scope.names.lookup e.2=some .cell/\(relabel scope X.env).names.lookup e.2=some .cell/\cl.lookup e.2=X.env.cells.lookup e.2) (ix.zip caps)):iI X scope cl caps ix where
 gW:=gW
 sub:=fun x c h=>eX.mem sub _ (Db h)
 has:=fun y hy=>by
  rcases hy with h | h
  ·exact eX.mem has _ (Db h) (.inl rfl)
  ·exact eX.mem has _ (Db h) (.inr rfl)
 len:=len
 at':=fun i j h=>by
  have hi:=(sK.mp h).1;have hi':i < caps.length:=len ▸ hi;have hm:(j,caps[i])∈ix.zip caps:=by
   refine _Y.mpr ⟨i,?_⟩;rw [_M];exact ⟨h,mo hi'⟩
  have z:=eX.mem at' _ hm;exact ⟨caps[i],mo hi',z⟩
def l6 (n:Nat) (ix:List Nat) (wi:TI) (g:TG) (tt:TT) (te:TE):TE:=fun σ H Q=>∃ vs,fD ix σ vs/\wi σ H fun J H1=>∃ W:Nat->List V->Nat->Hp->Prop,(∃ m,W 0 [] m H1)/\∀ i ys m H,W i ys m H ->
 ys.length<=sizeLine/\((J.stop i H/\∀ l,H l=none->Q (.ref l) (upd H l (.lst ys))) \/
  (J.go i H/\ys.length < sizeLine/\∀ y H',J.kC i H y H'->∀ σ0:St,σ0.length=n->g y (σ0++vs.map some) H' fun σ1 H1=>(∃ σ2:St,σ1=σ2++vs.map some/\σ2.length=n) /\
   tt σ1 H1 fun c H2=>if c=true then te σ1 H2 fun z H3=>∃ m',m' < m/\W (i+1) (ys++[z]) m' H3 else ∃ m',m' < m/\W (i+1) ys m' H2))
section
variable {X:Cx}
def Zv {π:List (Addr×Obj)} {σ:St} {H:Hp} {s s4:Shared} {scope:Scope} {cl:List (Str×Addr)} {TN caps:List Str} {ix:List Nat} {vs:List V} {fp:List Addr} {C:Addr} {m:Str->Option Value} (I:Inv X π σ H s) (CC:iI X scope cl caps ix) (hv:fD ix σ vs) (hf:∀ b∈fp,gP X π H b) (cb:∀ b∈fp,b < s.heap.objs.size)
  (hk:scope.kind=.function) (hC:s.heap.objs.size<=C)
  (hos:s4.os=s.os) (hgen:s4.gens=s.gens) (old:∀ b o,s.heap.get? b=some o->s4.heap.get? b=some o) (eD:s4.heap.Ns C m):Inv (cq X scope cl (TN++caps) s H fp C) [] ((TN.map fun _=>none)++vs.map some) H s4:=by
 refine ⟨⟨I.ok.mod,hk,I.ok.glob,I.ok.blt,hC,fun x y c e1 e2=>I.ok.inj x y c (CC.sub x c e1) (CC.sub y c e2),fun y hy=>CC.has y hy,fun _ _ e=>(by cases e),I.ok.hd,I.ok.frames,.inl rfl,fun b hb=>⟨xL (wS (cb b hb) hC),fun x c e=>(hf b hb).2.2.2.2.1 x c (CC.sub x c e)⟩,
  fun b o e=>I.bs b o e,wE I.ok.gB I.sz,fun b o e hb=>?_,fun b hb hm=>?_,I.stack,I.wH⟩,
  hos,by rw [hgen];exact I.bare,Un.kept old,⟨m,eD,fun i y v e1 e2 _=>?_⟩,fun x c e=>?_,I.au.fresh hC,fun x c e=>I.eW x c (CC.sub x c e),fun p hp=>absurd (show p∈([]:List (Addr×Obj)) from hp) (by simp),I.au.kept old,?_⟩
 ·rcases (hf b hb).2.2.2.1 with z | z
  ·exact I.ok.l8 b o e z
  ·exact absurd (wS (wS (sB e) I.ok.gB) z) (GE _)
 ·rcases pi.mp (I.tu b hm) with z | z
  ·exact (hf b hb).2.1 z
  ·exact (hf b hb).2.2.1 z
 ·have e1':(TN++caps)[i]?=some y:=e1;have e2':((TN.map fun _=>(none:Option V))++vs.map some)[i]?=some (some v):=e2;by_cases hi:i < TN.length
  ·rw [FM (by simpa using hi),Da] at e2';cases h:TN[i]? <;> rw [h] at e2' <;> simp at e2'
  ·rw [Ev (by omega)] at e1';rw [Ev (by simpa using Nat.not_lt.mp hi),pp,Da] at e2';have ev:vs[i - TN.length]?=some v:=by
    cases h:vs[i - TN.length]? with
    | none=>rw [h] at e2';cases e2'
    | some a=>rw [h] at e2';cases e2';rfl
   have hlt':i - TN.length < ix.length:=by
    rw [<- hv.1];exact (sK.mp ev).1
   obtain ⟨x,c1,c2,c3,c4,c5⟩:=CC.at' _ _ (mo hlt');rw [e1'] at c1;cases c1;have hσ:=hv.2 _ _ v (mo hlt') ev;obtain ⟨m0,_,hl⟩:=I.loc;obtain ⟨u,ru,lk⟩:=hl _ y v c2 hσ (.inr (.inl c3));rcases lk with ⟨k1,_⟩ | ⟨_,c,k2,o,k3,k4⟩
   ·have:X.env.scope.names.lookup y=some .local:=k1;rw [c3] at this;cases this
   ·exact ⟨u,ru,.inr ⟨.inl c4,c,by show cl.lookup y=some c;rw [c5];exact k2,o,old _ _ k3,k4⟩⟩
 ·obtain ⟨v,o,e1,e2⟩:=I.cell x c (CC.sub x c e);exact ⟨v,o,old _ _ e1,e2⟩
 ·show ((TN.map fun _=>(none:Option V))++vs.map some).length=(TN++caps).length;rw [LE,LE,pp,pp,hv.1,CC.len]
def Bw {elt iter:Expr} {ifs:List Expr} {tg:Expr} {g:TG} {TN caps:List Str} {ix:List Nat} {cl:List (Str×Addr)} {pos:Pos} {scope:Scope} {wi:TI} {tt:St->TT} {te:TE} (hc:X.calm=true) (hi:PI X tg iter wi)
  (ht:∀ {π σ s H ex} C,Inv X π σ H s->(∀ b∈ex,gP X π H b)->nq (cq X scope cl (TN++caps) s H ex C) ifs (tt σ)) (fH:∀ s H ex C,PG (cq X scope cl (TN++caps) s H ex C) tg g) (he:∀ s H ex C,PE (cq X scope cl (TN++caps) s H ex C) elt te) (CC:iI X scope cl caps ix)
  (hk:scope.kind=.function) (fF:∀ y∈scope.names,y.2≠.cell)
  {π:List (Addr×Obj)} {s:Shared} {σ:St} {H:Hp} {Q:VK} {RR:Value->Addr->Result->Shared->Prop} (I:Inv X π σ H s) (h:l6 TN.length ix wi g (tt σ) te σ H Q)
  (hRR:∀ (a C:Addr) (s6:Shared) (H6:Hp),Inv X π σ H6 s6->(∃ m,s6.heap.Ns C m)->C3 X π H6 C->Q (.ref a) H6->RR (.ref a) C (.ok .next) s6) :
  wpAny (model X.prog X.w) X.A (eval iter X.env) (fun v s1=>wpAny (model X.prog X.w) X.A (pyIter v) (fun it s2=>wpAny (model X.prog X.w) X.A (newList []) (fun acc s3 =>
   wpAny (model X.prog X.w) X.A (newFunctionEnv scope X.env.globals cl [] X.env.qual none .none (some X.env)) (fun Ox s4 =>
    codeAny (model X.prog X.w) X.A (.compStart (.ListComp elt [⟨tg,iter,ifs,0⟩] scope pos) 0 it acc { Ox with scope:=relabel scope X.env }) (RR acc Ox.locals) s4) X.xe s3) X.xe s2) X.xe s1) X.xe s:=by
 obtain ⟨vs,hvs,h⟩:=h;refine aC (hi π s σ H _ I h) fun v s1 h1=>aC h1 fun Eu s2 h2=>?_;obtain ⟨it,fp,tn,J,H2,rfl,I2,T,kc,f2,W,⟨m0,w0⟩,turn⟩:=h2;have cb:∀ b∈fp,b < s2.heap.objs.size:=fun b hb=>let ⟨o,e,_⟩:=T.obj _ _ kc b hb;sB e
 refine _z (wpAny_newFunctionEnv fF (by intro y hy;simp at hy) (fun h1 hns1 hsb1=>?_) hk);dsimp only at hns1 hsb1 ⊢;generalize Ed:s2.heap.push { cls:=.type "list",dict:=none,data:=.seq ([]:List Value).toArray }=G at hns1 hsb1 ⊢;have hG:G.objs.size=s2.heap.objs.size+1:=by rw [<- Ed,WF]
 have xJ:s2.heap.objs.size≠G.objs.size:=by rw [hG];exact xL (Re _)
 have oO:s2.heap.objs.size<=G.objs.size:=by rw [hG];exact _2 _
 have old:∀ b o,s2.heap.get? b=some o->h1.get? b=some o:=fun b o e=>by
  exact hsb1.extBut b o (xL (wS (sB e) oO)) (pc _ (Ed ▸ pc _ e))
 have accO:h1.get? s2.heap.objs.size=some { cls:=.type "list",dict:=none,data:=.seq ([]:List Value).toArray } :=
  hsb1.extBut _ _ xJ (pc _ (Ed ▸ u8 _ rfl))
 -- kq state at kq block's entry
 have main:∀ s4:Shared,s4={ s2 with heap:=h1,toks:=s2.toks+([]:List (Str×Value)).length } ->
   codeAny (model X.prog X.w) X.A (.compLoop (.ListComp elt [⟨tg,iter,ifs,0⟩] scope pos) 0 (.ref it) (.ref s2.heap.objs.size) (compEnvC scope cl G.objs.size X.env))
    (RR (.ref s2.heap.objs.size) G.objs.size) s4:=by
  rintro s4 rfl;have I4:Inv (cq X scope cl (TN++caps) s2 H2 fp G.objs.size) [] ((TN.map fun _=>none)++vs.map some) H2 { s2 with heap:=h1,toks:=s2.toks+([]:List (Str×Value)).length } :=
   Zv I2 CC hvs f2 cb hk oO rfl rfl old hns1
  have Ey:∀ {H':Hp} {pl:List (Addr×Obj)},(∀ b∈fp,H' b=none)->(∀ p∈pl,p.1 ∉ fp)->∀ b∈fp,gP (cq X scope cl (TN++caps) s2 H2 fp G.objs.size) pl H' b:=fun hn hp b hb =>
   ⟨hn b hb,xL (wS (cb b hb) oO),I4.ok.mS b hb,.inl hb,fun x c e=>(f2 b hb).2.2.2.2.1 x c (CC.sub x c e),fun p hp' e=>hp p (by simpa [cq] using hp') (e ▸ hb)⟩
  have NT:s2.heap.objs.size ∉ fp:=fun z=>GE _ (cb _ z);refine QJ (fun n s'=>∃ (i:Nat) (ys:List V) (ao:List Value) (k:Nat) (σ':St) (H':Hp),(∃ σ0:St,σ'=σ0++vs.map some/\σ0.length=TN.length)/\Inv (cq X scope cl (TN++caps) s2 H2 fp G.objs.size) [] σ' H' s'/\tn i s'.heap/\(∀ b∈fp,H' b=none)/\H' s2.heap.objs.size=none/\Vals ys ao /\
   s'.heap.get? s2.heap.objs.size=some { cls:=.type "list",dict:=none,data:=.seq ao.toArray k }/\W i ys n H') (fun _ _ _=>trivial) ?_ m0
   ⟨0,[],[],0,_,H2,⟨_,rfl,by simp⟩,I4,T.keep _ _ _ kc (fun b _ o e=>old b o e),fun b hb=>(f2 b hb).1,I2.au.fresh (ul _),.nil,accO,w0⟩
  rintro n s5 ⟨i,ys,ao,k,σ5,H5,⟨σ0,hq5,hσ⟩,I5,rb,yl,xI,rv,ea,w5⟩;subst hq5;have Ip:Inv (cq X scope cl (TN++caps) s2 H2 fp G.objs.size) [(s2.heap.objs.size,{ cls:=.type "list",dict:=none,data:=.seq ao.toArray k })] (σ0++vs.map some) H5 s5:=I5.sI fun p hp=>by
   have e:p=(s2.heap.objs.size,{ cls:=.type "list",dict:=none,data:=.seq ao.toArray k }):=by simpa using hp
   subst e;refine ⟨ea,xI,xJ,fun z=>?_,fun v z=>by cases z⟩;exact I2.LC (ul _) (by
    have hz:s2.heap.objs.size∈bK X.stack:=z;rcases pi.mp (I2.tu _ hz) with q | q
    ·exact absurd I2.lt (by rw [<- q];exact GE _)
    ·exact q)
  have Ef:∀ p∈[((s2.heap.objs.size,{ cls:=.type "list",dict:=none,data:=.seq ao.toArray k }):Addr×Obj)],p.1 ∉ fp:=fun p hp=>by
   have e:p=(s2.heap.objs.size,{ cls:=.type "list",dict:=none,data:=.seq ao.toArray k }):=by simpa using hp
   subst e;exact NT
  obtain ⟨hyl,alt⟩:=turn i ys n H5 w5;rcases alt with ⟨stop,qn⟩ | ⟨go,hys,step⟩
  ·refine aC (T.done (cq X scope cl (TN++caps) s2 H2 fp G.objs.size) rfl rfl rfl hc i _ s5 (σ0++vs.map some) H5 (fun _ _=>False) Ip (Ey yl Ef) rb stop) fun r s6 ⟨hr,I6⟩=>?_;subst hr;have ea6:=(I6.pin (s2.heap.objs.size,{ cls:=.type "list",dict:=none,data:=.seq ao.toArray k }) (Cl _ (EQ.mpr rfl))).1;obtain ⟨m,hn6,_⟩:=I6.loc;have hC6:H5 G.objs.size=none:=I6.free;have lt2:∀ b o,s2.heap.get? b=some o->b≠s2.heap.objs.size:=fun b o e=>xL (sB e);have Iout:Inv X π σ (upd H5 s2.heap.objs.size (.lst ys)) s6:=by
    refine I2.Jz (s':=s6) (ch:=fp) I6.os ⟨fun b o e n hb hx=>?_,fun b o e n hb hx=>?_,fun b o e n hx=>?_,fun b o e hx=>?_,fun b xs e=>?_,fun b o u e=>?_,fun b ps e=>?_⟩ ?_ I6.bare fun b hb=>?_
    ·exact I6.base.keep b o e n hb hx
    ·exact I6.base.slot b o e n hb hx
    ·rw [aj (lt2 b o e)];exact I6.base.free b o e n hx
    ·exact I6.base.there b o e hx
    ·rw [aj (gd e (I2.au.fresh (ul _)))];exact I6.base.fb b xs e
    ·rw [aj (gd e (I2.au.fresh (ul _)))];exact I6.base.eM b o u e
    ·obtain ⟨more,e1⟩:=I6.base.eT b ps e;exact ⟨more,by rw [aj (gd e (I2.au.fresh (ul _)))];exact e1⟩
    ·intro b u e;by_cases hb:b=s2.heap.objs.size
     ·subst hb;rw [ay] at e;cases e;exact ⟨hyl,ao,k,rv,ea6⟩
     ·rw [aj hb] at e;exact (I6.au b u e).gX (fun c v _ q=>q) (fun c q=>by rw [aj (gd q xI)];exact q) fun c xs q=>by rw [aj (gd q xI)];exact q
    ·obtain ⟨g1,g2,g3,g4,g5,g6⟩:=f2 b hb;exact ⟨g4,g2,g5,g6⟩
   refine hRR _ _ s6 _ Iout ⟨m,hn6⟩ ⟨by rw [aj (wP xJ)];exact hC6,?_,?_,fun y c e z=>?_,fun p hp z=>?_⟩ (qn _ xI)
   ·exact Ja7 (wS I2.lt oO)
   ·exact wE I2.sz oO
   ·obtain ⟨v',q⟩:=I2.cell y c e;exact absurd (wS q.lt oO) (by rw [z];exact GE _)
   ·exact absurd (wS (sB (I2.pin p hp).1) oO) (by rw [z];exact GE _)
  ·refine aC (T.item (cq X scope cl (TN++caps) s2 H2 fp G.objs.size) rfl rfl rfl hc i _ s5 (σ0++vs.map some) H5 (fun _ _=>False) Ip (Ey yl Ef) rb go) fun r s6 ⟨u,hr,h6⟩=>?_;subst hr;refine aC h6 fun _ s7 ⟨y,H7,I7,ry,y7,D5,fr7⟩=>?_;have I7':=I7.pinned (Ey fr7 Ef) (T.obj _ _ D5);refine aC (fH _ _ _ _ _ s7 (σ0++vs.map some) H7 y u _ I7' ry (step y H7 y7 σ0 hσ)) fun _ s8 ⟨σ8,H8,I8,Nl,q8⟩=>?_;refine aC (ht _ I2 f2 _ s8 σ8 H8 _ I8 q8) fun ok s9 ⟨H9,I9,q9⟩=>?_
   -- what is pinned stays
   have M7:∀ {s':Shared} {H':Hp},Inv (cq X scope cl (TN++caps) s2 H2 fp G.objs.size) ([(s2.heap.objs.size,{ cls:=.type "list",dict:=none,data:=.seq ao.toArray k })]++rj fp s7.heap) σ8 H' s' ->
     tn (i+1) s'.heap/\(∀ b∈fp,H' b=none)/\H' s2.heap.objs.size=none/\s'.heap.get? s2.heap.objs.size=some { cls:=.type "list",dict:=none,data:=.seq ao.toArray k }:=fun {s' H'} J'=>by
    refine ⟨T.keep _ _ _ D5 fun b hb o e=>(J'.pin (b,o) (Cl _ (Cl _ (xi hb e)))).1,fun b hb=>?_,(J'.pin (s2.heap.objs.size,{ cls:=.type "list",dict:=none,data:=.seq ao.toArray k }) (Cl _ (_d _ (EQ.mpr rfl)))).2.1,(J'.pin (s2.heap.objs.size,{ cls:=.type "list",dict:=none,data:=.seq ao.toArray k }) (Cl _ (_d _ (EQ.mpr rfl)))).1⟩;obtain ⟨o,e,_⟩:=T.obj _ _ D5 b hb;exact (J'.pin (b,o) (Cl _ (Cl _ (xi hb e)))).2.1
   cases ok with
   | false =>
    obtain ⟨m',hm,w'⟩:=q9;obtain ⟨k1,k2,k3,k4⟩:=M7 I9;exact ⟨m',hm,i+1,ys,ao,k,σ8,H9,Nl,I9.sI (π':=[]) (fun _ hp=>nomatch hp),k1,k2,k3,rv,k4,w'⟩
   | true =>
    refine aC (he _ _ _ _ _ s9 σ8 H9 _ I9 q9) fun zv mZ ⟨z,oQ,Nt,rz,qA⟩=>?_;obtain ⟨m',hm,w'⟩:=qA;obtain ⟨k1,k2,k3,k4⟩:=M7 Nt;have hl:=rv.length;refine _g F.slot_list_append ⟨_,k4,rfl⟩ F.entry_list_append (F.args_list_append_2 _ _) (PySem.list_append s2.heap.objs.size ao.toArray k zv (by rw [ww];omega)) ⟨k4,?_⟩;have q:=PySem.IsL.update k4 (·.push zv);have ip:ao.toArray.push zv=(ao++[zv]).toArray:=by simp
    rw [ip] at q;have I11:Inv (cq X scope cl (TN++caps) s2 H2 fp G.objs.size) [] σ8 oQ mZ:=Nt.sI (π':=[]) (fun _ hp=>nomatch hp);refine ⟨m',hm,i+1,ys++[z],ao++[zv],_,σ8,oQ,Nl,I11.turned (t':=mZ.toks) (it:=s2.heap.objs.size) (fun b o hb e=>(GM mZ.heap _ (wP hb)).trans e) k3 xJ (.inr (ul _)) (fun x c e z=>by obtain ⟨v',q⟩:=I2.cell x c (CC.sub x c e);exact absurd q.lt (by rw [z];exact GE _)) (fun p hp=>absurd (show p∈([]:List (Addr×Obj)) from hp) (by simp)),
     T.keep _ _ _ k1 fun b hb o e=>(GM mZ.heap _ (fun z=>NT (by rw [z];exact hb))).trans e,k2,k3,rv.append (.cons rz .nil),q,w'⟩
 exact codeAny_compStart_list (main _ rfl) (T.self _ 0 _ _ _ (T.keep _ _ _ kc fun b _ o e=>old b o e) (main _ rfl))
def aab {elt iter:Expr} {ifs:List Expr} {tg:Expr} {g:TG} {TN caps:List Str} {ix:List Nat} {cl:List (Str×Addr)} {pos:Pos} {scope:Scope} {wi:TI} {tt:TT} {te:TE} (hc:X.calm=true) (hi:PI X tg iter wi)
  (ht:∀ s H ex C,nq (cq X scope cl (TN++caps) s H ex C) ifs tt) (fH:∀ s H ex C,PG (cq X scope cl (TN++caps) s H ex C) tg g) (he:∀ s H ex C,PE (cq X scope cl (TN++caps) s H ex C) elt te) (CC:iI X scope cl caps ix)
  (hk:scope.kind=.function:=by rfl) (cM:∀ y∈scope.names,y.2=.local->scope.names.lookup y.1=some .local:=by decide +kernel) (fF:∀ y∈scope.names,y.2≠.cell:=by decide +kernel)
  (hs:∀ x,foldedSetIterable iter X.env x=pure x:=by intro _;rfl):PE X (.ListComp elt [⟨tg,iter,ifs,0⟩] scope pos) (l6 TN.length ix wi g tt te):=by
 intro π s σ H Q I h;rw [eval_ListComp];refine _N (use:=none) (cl:=cl) rfl hs CC.gW hk cM ?_;refine Bw (RR:=fun acc C=>compPost (model X.prog X.w) X.A X.xe none (EP X π σ Q) acc C) (tt:=fun _=>tt) hc hi (fun C _ _=>ht _ _ _ C) fH he CC hk fF I h ?_;intro a C s6 H6 I6 hm o q;obtain ⟨m,hn⟩:=hm;exact ⟨m,hn,fun h' ku=>⟨.ref a,H6,o.go I6 ku,rfl,q⟩⟩
def RB {elt iter:Expr} {ifs:List Expr} {tg:Expr} {g:TG} {TN caps:List Str} {ix:List Nat} {cl:List (Str×Addr)} {y:Str} {i:Nat} {py pos spos:Pos} {scope:Scope} {wi:TI} {tt:TT} {te:TE} (hc:X.calm=true) (hN:X.N.Nodup) (uf:X.N[i]?=some y) (qK:X.env.scope.names.lookup y=some .local) (hi:PI X tg iter wi)
  (ht:∀ s H ex C,nq (cq X scope cl (TN++caps) s H ex C) ifs tt) (fH:∀ s H ex C,PG (cq X scope cl (TN++caps) s H ex C) tg g) (he:∀ s H ex C,PE (cq X scope cl (TN++caps) s H ex C) elt te) (CC:iI X scope cl caps ix)
  (uK:swapsWith (.ListComp elt [⟨tg,iter,ifs,0⟩] scope pos) (some (.Name y py)) spos.line X.env=pure true:=by rfl)
  (hk:scope.kind=.function:=by rfl) (cM:∀ y∈scope.names,y.2=.local->scope.names.lookup y.1=some .local:=by decide +kernel) (fF:∀ y∈scope.names,y.2≠.cell:=by decide +kernel)
  (hs:∀ x,foldedSetIterable iter X.env x=pure x:=by intro _;rfl):PS X (.Assign [.Name y py] (.ListComp elt [⟨tg,iter,ifs,0⟩] scope pos) spos) (mC (l6 TN.length ix wi g tt te) (fT i)):=by
 intro π s σ H D I h;rw [exec_Assign_Name_used _ _ _ _ uK];refine lv (_1 (lv ?_));refine lv (GT (_N (e:=.ListComp elt [⟨tg,iter,ifs,0⟩] scope pos) (use:=some (assign (.Name y py) X.env)) (cl:=cl) (Q:=fun _ s'=>SP X π D .next s') rfl hs CC.gW hk cM
  (Bw (RR:=fun acc C=>compPost (model X.prog X.w) X.A X.xe (some (assign (.Name y py) X.env)) (fun _ s'=>SP X π D .next s') acc C) (tt:=fun _=>tt) hc hi (fun C _ _=>ht _ _ _ C) fH he CC hk fF I h ?_)) (fun _ s' hq=>sw (sw hq)) fun _ _ e=>e)
 intro a C s6 H6 I6 hm o q;obtain ⟨m,hn⟩:=hm;refine (show wpAny (model X.prog X.w) X.A (assign (.Name y py) X.env (.ref a)) _ X.xe s6 from ?_);refine wpAny_assign_Name (Fm I6 hN uf (.inl qK) (v:=.ref a) rfl (fun s' I' ku=>?_) (.inr qK));obtain ⟨b,ku,hb⟩:=ku;have nb:C≠b:=by
  rcases hb with z | z
  ·rw [z];exact o.nl
  ·exact fun e=>o.nc y b z e.symm
 exact ⟨m,hn.sameBut ku nb,fun h' hs'=>⟨_,H6,o.go I' hs',q⟩⟩
end
namespace Dv
section
variable {X:Cx}
def SV {elt iter tg:Expr} {g:TG} {ifs:List Expr} {TN caps:List Str} {ix:List Nat} {cl:List (Str×Addr)} {pos:Pos} {scope:Scope} {wi:TI} {tt:TT} {te:TE} (hc:X.calm=true) (hi:QI X tg iter wi)
  (ht:∀ s H ex C,oG (cq X scope cl (TN++caps) s H ex C) ifs tt) (fH:∀ s H ex C,QG (cq X scope cl (TN++caps) s H ex C) tg g) (he:∀ s H ex C,QE (cq X scope cl (TN++caps) s H ex C) elt te) (CC:iI X scope cl caps ix)
  (hk:scope.kind=.function:=by rfl) (cM:∀ y∈scope.names,y.2=.local->scope.names.lookup y.1=some .local:=by decide +kernel) (fF:∀ y∈scope.names,y.2≠.cell:=by decide +kernel)
  (hs:∀ x,foldedSetIterable iter X.env x=pure x:=by intro _;rfl):QE X (.ListComp elt [⟨tg,iter,ifs,0⟩] scope pos) (l6 TN.length ix wi g tt te):=⟨aab hc hi.h (fun s H ex C=>(ht s H ex C).h) (fun s H ex C=>(fH s H ex C).h) (fun s H ex C=>(he s H ex C).h) CC hk cM fF hs⟩
def xA (i:Nat) {elt iter tg:Expr} {g:TG} {ifs:List Expr} {TN caps:List Str} {ix:List Nat} {cl:List (Str×Addr)} {y:Str} {py pos spos:Pos} {scope:Scope} {wi:TI} {tt:TT} {te:TE} (hc:X.calm=true) (hN:X.N.Nodup) (hi:QI X tg iter wi)
  (ht:∀ s H ex C,oG (cq X scope cl (TN++caps) s H ex C) ifs tt) (fH:∀ s H ex C,QG (cq X scope cl (TN++caps) s H ex C) tg g) (he:∀ s H ex C,QE (cq X scope cl (TN++caps) s H ex C) elt te) (CC:iI X scope cl caps ix) (uf:X.N[i]?=some y:=by rfl) (qK:X.env.scope.names.lookup y=some .local:=by rfl)
  (uK:swapsWith (.ListComp elt [⟨tg,iter,ifs,0⟩] scope pos) (some (.Name y py)) spos.line X.env=pure true:=by rfl)
  (hk:scope.kind=.function:=by rfl) (cM:∀ y∈scope.names,y.2=.local->scope.names.lookup y.1=some .local:=by decide +kernel) (fF:∀ y∈scope.names,y.2≠.cell:=by decide +kernel)
  (hs:∀ x,foldedSetIterable iter X.env x=pure x:=by intro _;rfl):QS X (.Assign [.Name y py] (.ListComp elt [⟨tg,iter,ifs,0⟩] scope pos) spos) (mC (l6 TN.length ix wi g tt te) (fT i)):=⟨RB hc hN uf qK hi.h (fun s H ex C=>(ht s H ex C).h) (fun s H ex C=>(fH s H ex C).h) (fun s H ex C=>(he s H ex C).h) CC uK hk cM fF hs⟩
end
end Dv
section
variable {X:Cx}
end
def xF {σ:St} (h:σ.length=1):∃ a,σ=[a]:=by
 match σ,h with
 | [a],_=>exact ⟨a,rfl⟩
def lB {f:Str} {v u:V}:∀ {fs:List (Str×V)},fs.lookup f=some u->(aA f v fs).length=fs.length
 | (g,x)::r,h=>by
  rw [show aA f v ((g,x)::r)=(if g=f then (g,v)::r else (g,x)::aA f v r) from rfl];by_cases e:g=f
  ·rw [AT e];rfl
  ·rw [zn e];have hb:(f == g)=false:=Fa.mpr (wP e);have h':r.lookup f=some u:=by simpa [List.lookup,hb] using h
   rw [FS,lB h'];rfl
def C9 (r:V->List V->Hp->VK->Prop) (to:TE):TE:=fun σ H Q=>to σ H fun x H1=>match x with
 | .ref l=>(match H1 l with
  | some (.lst _)=>r (.ref l) [] H1 Q
  | _=>False)
 | _=>False
section
variable {X:Cx} {name:Str} {id:String} {r:V->List V->Hp->VK->Prop} {o:Expr} {to:TE} {apos bj:Pos}
def Rq (slot:Slot "list" name id) (cm:typeOf (.builtin id)=pure (.type "method_descriptor")) (hm:eG X id r) (ho:PE X o to)
  (ja:attributeBase o name X.env (eval o X.env)=eval o X.env:=by rfl) (jb:(apos.endLine == bj.line)=true:=by rfl):PE X (.Call (.Attribute o name apos) [] [] bj) (C9 r to):=by
 intro π s σ H Q I h;refine wpAny_Call_method0_late ja jb (aC (ho π s σ H _ I h) fun v s1 ⟨x,H1,I1,r1,q1⟩=>?_);dsimp only at q1;split at q1
 ·rename_i l;split at q1
  ·rename_i zs el;obtain ⟨h1,h2⟩:=zt (T := "list") I1 r1 (.inl ⟨rfl,zs,aH.of el⟩);exact ⟨"list",id,PySem.F.plainAttrs_list,slot,cm,h1,h2,UF rfl (PySem.evalArgs_none (hm π s1 σ H1 (.ref l) [] v [] Q I1 r1 .nil q1))⟩
  ·exact q1.elim
 ·exact q1.elim
def Dv.Gu (slot:Slot "list" name id) (cm:typeOf (.builtin id)=pure (.type "method_descriptor")) (hm:eG X id r) (ho:QE X o to)
  (ja:attributeBase o name X.env (eval o X.env)=eval o X.env:=by rfl) (jb:(apos.endLine == bj.line)=true:=by rfl):QE X (.Call (.Attribute o name apos) [] [] bj) (C9 r to):=⟨Rq slot cm hm ho.h ja jb⟩
end
def ag.gL {H H1:Hp} {l:Addr} {o:HO} (s:ag H H1) (hl:H l=none):ag H (L2.upd H1 l o):=fun b u e=>by
 rw [aj (fun z=>by rw [z,hl] at e;cases e)];exact s b u e
def lC.m {P:Program} {w:World} {K:ν} {mg:Str->Option Value} {base:Heap} {k:Nat} {s1:Shared} {B:Addr->Prop} {f:Addr} {wish:bE} (D:lC P w K mg base k s1 B f wish) :
  lC P w K mg base k s1 B f (fun H Q E=>∃ (Q0:VK) (E0:XK),wish H Q0 E0/\(∀ v H',Q0 v H'->Q v H')/\∀ C od H',E0 C od H'->E C od H') :=
 fun A outer s H Q E hr e0 hk ⟨Q0,E0,hw,hq,he⟩=>Uf (D A outer s H Q0 E0 hr e0 hk hw) fun r s' z=>by
  cases r with
  | error e =>
   obtain ⟨ea,C,od,H',e1,F,z⟩:=z;exact ⟨ea,C,od,H',e1,F,he _ _ _ z⟩
  | ok fl =>
   cases fl with
   | ret u =>
    obtain ⟨v,H',z1,z2,z3,z4,z5,z6⟩:=z;exact ⟨v,H',z1,z2,z3,z4,z5,hq _ _ z6⟩
   | next=>exact z
   | brk=>exact z
   | cont=>exact z
def jL.vH {P:Addr} {q:Str} {c:Addr} {H H1:Hp} (L:jL P q c H H1):∀ b o,b≠P->H b=some o->H1 b=some o:=fun b o hb e=>by
 by_cases hc:b=c
 ·rcases L.old with h | h
  ·rw [hc,h] at e;cases e
  ·rw [h];exact e
 ·rw [L.rest b hb hc];exact e
section
variable {X:Cx}
def RC:List V->Hp->VK->Prop:=fun xs H Q=>match xs with
 | [.bl b]=>Q (.int (if b then 1 else 0)) H
 | _=>False
def GI:aZ X (binaryOp .Pow) (qH Kz fun i j=>i ^ j.toNat):=SM.imp fun _ _ _ _ h=>BB h
end
def zc (K:ν):R2:=fun x y H Q=>match y with
 | .ref p=>∃ xs,(aH K H p xs\/bT K H p xs)/\cU x=true/\xs.all cU=true/\Q (.bl (!dX x xs)) H
 | _=>False
def Mh {X:Cx} {K:ν} (h:X.K=K):aZ X (compareOp .NotIn) (zc K):=h ▸ acN.imp fun x y H Q z=>by
 unfold zc at z;split at z
 ·obtain ⟨xs,z1,z2,z3,z4⟩:=z;exact ⟨_,xs,rfl,z1,z2,z3,z4⟩
 ·exact z.elim
structure FT (K:ν) (mg:Str->Option Value) (x y:Str) (st:Stmt) (ps:List Str) where
 f:Addr
 d:FuncData
 F:eK K x y st f d
 m:mg x=some (.ref f)
 b:Binds K d ps []
structure MT (K:ν) (C:Addr) (x y:Str) (st:Stmt) (ps:List Str) where
 f:Addr
 d:FuncData
 F:eK K x y st f d
 h:Meth K C x f
 b:Binds K d ps []
def FA (K:ν) (x y:Str) (st:Stmt):Prop:=∃ (f:Addr) (oc:Value) (od:Option Addr) (kV dc pm:Value) (an:Option Addr) (cd ct:Value) (sl:Array (Option Value)),
 W.nsIn K mainGlobals x=some (some (.ref f))/\K.lookup f=some ⟨oc,od,.func (W.fnOf x y (fe st) (aN st) (ax st) .none kV dc pm an cd ct),sl⟩/\W.codeIn K cd y=true/\W.keepIn K (.ref f)=true
def MA (K:ν) (C:Addr) (x y:Str) (st:Stmt):Prop:=∃ (f:Addr) (oc:Value) (od:Option Addr) (kV dc pm:Value) (an:Option Addr) (cd ct:Value) (sl:Array (Option Value)),
 W.findIn K (.ref C) x=some (some (.ref f))/\K.lookup f=some ⟨oc,od,.func (W.fnOf x y (fe st) (aN st) (ax st) .none kV dc pm an cd ct),sl⟩/\W.codeIn K cd y=true/\W.keepIn K (.ref f)=true/\W.isFn K (.ref f)=true
section
variable {K:ν} {mg:Str->Option Value} {h:Heap} {C:Addr} {x y:Str} {st:Stmt} {ps:List Str}
def FA.ft (X:K.In h) (G:h.Ns mainGlobals mg) (ps:List Str) (hb:∀ (kV dc pm:Value) (an:Option Addr) (cd ct:Value) (us:List Value),us.length=ps.length->bindArgs (W.fnOf x y (fe st) (aN st) (ax st) .none kV dc pm an cd ct) ⟨us,[]⟩=pure (ps.zip us)) (a:FA K x y st):Nonempty (FT K mg x y st ps):=by
 obtain ⟨f,oc,od,kV,dc,pm,an,cd,ct,sl,n,l,c,k⟩:=a;have F:=y8 (st:=st) l c k;exact ⟨⟨f,_,F,W.mg_of X G n,F.binds hb⟩⟩
def MA.ft (ps:List Str) (hb:∀ (kV dc pm:Value) (an:Option Addr) (cd ct:Value) (us:List Value),us.length=ps.length->bindArgs (W.fnOf x y (fe st) (aN st) (ax st) .none kV dc pm an cd ct) ⟨us,[]⟩=pure (ps.zip us)) (a:MA K C x y st):Nonempty (MT K C x y st ps):=by
 obtain ⟨f,oc,od,kV,dc,pm,an,cd,ct,sl,n,l,c,k,t⟩:=a;have F:=y8 (st:=st) l c k;exact ⟨⟨f,_,F,⟨n,t,k⟩,F.binds hb⟩⟩
end
section
variable {K:ν} {mg:Str->Option Value} {h:Heap} {C:Addr} {x y:Str} {st:Stmt} {ps:List Str}
def FA.mk {f:Addr} {oc:Value} {od:Option Addr} {kV dc pm:Value} {an:Option Addr} {cd ct:Value} {sl:Array (Option Value)} (n:W.nsIn K mainGlobals x=some (some (.ref f))) (l:K.lookup f=some ⟨oc,od,.func (W.fnOf x y (fe st) (aN st) (ax st) .none kV dc pm an cd ct),sl⟩) (c:W.codeIn K cd y=true) (k:W.keepIn K (.ref f)=true):FA K x y st:=⟨_,_,_,_,_,_,_,_,_,_,n,l,c,k⟩
def MA.mk {f:Addr} {oc:Value} {od:Option Addr} {kV dc pm:Value} {an:Option Addr} {cd ct:Value} {sl:Array (Option Value)} (n:W.findIn K (.ref C) x=some (some (.ref f))) (l:K.lookup f=some ⟨oc,od,.func (W.fnOf x y (fe st) (aN st) (ax st) .none kV dc pm an cd ct),sl⟩) (c:W.codeIn K cd y=true) (k:W.keepIn K (.ref f)=true) (t:W.isFn K (.ref f)=true):MA K C x y st:=⟨_,_,_,_,_,_,_,_,_,_,n,l,c,k,t⟩
def FA.gt (X:K.In h) (G:h.Ns mainGlobals mg) (hb:∀ (kV dc pm:Value) (an:Option Addr) (cd ct:Value) (us:List Value),us.length=ps.length->bindArgs (W.fnOf x y (fe st) (aN st) (ax st) .none kV dc pm an cd ct) ⟨us,[]⟩=pure (ps.zip us)) (a:FA K x y st):Nonempty (FT K mg x y st ps):=FA.ft X G ps hb a
def MA.gt (hb:∀ (kV dc pm:Value) (an:Option Addr) (cd ct:Value) (us:List Value),us.length=ps.length->bindArgs (W.fnOf x y (fe st) (aN st) (ax st) .none kV dc pm an cd ct) ⟨us,[]⟩=pure (ps.zip us)) (a:MA K C x y st):Nonempty (MT K C x y st ps):=MA.ft ps hb a
def abf {M:MT K C "__init__" y st ps} (a:W.makesIn K C=true) (b:W.keepIn K (.ref C)=true):Mk K C M.f:=⟨a,M.h.at_,M.h.fn,b⟩
def mB {dt:Addr} {kV doc pm cdv ct:Value} {an:Option Addr} {o:Obj} {n:Nat} {ds:List Value} (j:Nat) (ld:K.lookup dt=some o) (hd:o.data=.seq ds.toArray n)
  (h:∀ (dt:Addr) (kV doc pm:Value) (an:Option Addr) (cdv ct:Value) (us:List Value),(us++ds.drop j).length=ps.length ->
   ∃ k,bindArgs (W.fnOf x y (fe st) (aN st) (ax st) (.ref dt) kV doc pm an cdv ct) ⟨us,[]⟩=seqItems? (.ref dt) >>= k/\k (some ds.toArray)=pure (ps.zip (us++ds.drop j))) :
  Binds K (W.fnOf x y (fe st) (aN st) (ax st) (.ref dt) kV doc pm an cdv ct) ps (ds.drop j):=by
 intro s us X hl;obtain ⟨k,h1,h2⟩:=h dt kV doc pm an cdv ct us hl;exact BindsTo.of_defaults rfl (X _ _ ld) hd h1 h2
end
section
variable {X:Cx} {tg:Expr}
end
section
variable {X:Cx}
def T1:List V->Hp->VK->Prop:=fun xs H Q=>match xs with
 | [.int a]=>a.natAbs.log2 < 1920/\Q (.str (Str.ofString (toString a))) H
 | _=>False
end
section
variable {X:Cx}
def aaC:V->List V->Hp->VK->Prop:=fun x vs H Q=>match x,vs with
 | .ref l,[.int 0]=>∃ y xs,H l=some (.lst (y::xs))/\Q y (upd H l (.lst xs))
 | _,_=>False
end
section
variable {X:Cx}
def all_true (n:Nat):(List.range n).all (fun _=>true)=true:=by rw [IO];exact fun _ _=>rfl
def RQ (K:ν) (neg:Bool):R2:=fun x y H Q=>match x,y with
 | .ref a,.ref b=>∃ xs ys:List V,(aH K H a xs/\aH K H b ys\/bT K H a xs/\bT K H b ys)/\xs.length=ys.length/\xs.all cU=true/\ys.all cU=true/\(∀ i (h1:i < xs.length) (h2:i < ys.length),fR xs[i] ys[i]=true)/\Q (.bl (!neg)) H
 | _,_=>False
def IT {v:V} (h:cU v=true):fR v v=true:=by
 cases v <;> first | rfl | (cases h;done) | simp [fR]
end
def UM {α:Type} (us ws:List α):List α:=if ws.length=1 then us++ws else []
section
variable {K:ν} {x qual nm:Str} {st:Stmt} {f:Addr} {fd:FuncData} {ps:List Str} {ds:List Value}
def abv {α:Type} {a b c d:α}:UM [a,b,c] [d]=[a,b,c,d]:=rfl
end
section
variable {X:Cx}
end
def nR (J:It) (n:Nat) (vs:List V) (g:TG) (tt:TT) (te:TE) (Q:VK) (H1:Hp):Prop:=∃ W:Nat->List V->Nat->Hp->Prop,(∃ m,W 0 [] m H1)/\∀ i ys m H,W i ys m H ->
 ys.length<=sizeLine/\((J.stop i H/\∀ l,H l=none->Q (.ref l) (upd H l (.lst ys))) \/
  (J.go i H/\ys.length < sizeLine/\∀ y H',J.kC i H y H'->∀ σ0:St,σ0.length=n->g y (σ0++vs.map some) H' fun σ1 H1=>(∃ σ2:St,σ1=σ2++vs.map some/\σ2.length=n) /\
   tt σ1 H1 fun c H2=>if c=true then te σ1 H2 fun z H3=>∃ m',m' < m/\W (i+1) (ys++[z]) m' H3 else ∃ m',m' < m/\W (i+1) ys m' H2))
def Jk {n:Nat} {ix:List Nat} {wi:TI} {g:TG} {tt:TT} {te:TE} {σ:St} {H:Hp} {Q:VK}:l6 n ix wi g tt te σ H Q=∃ vs,fD ix σ vs/\wi σ H fun J H1=>nR J n vs g tt te Q H1:=rfl
def UE {K:ν} {C:Addr} {y:Str} {st:Stmt} {ps:List Str} {fld:Str} {M:MT K C "__init__" y st ps} (q:vk K C=true) (sa:W.findIn K (.ref C) "__setattr__" = some (some (.builtin "object.__setattr__"))) (na:W.findIn K (.ref C) fld=some none) (ob:W.mroIn K C (.type "object")=some true)
  (be:W.mroIn K C (.type "BaseException")=some true) (self:W.mroIn K C (.ref C)=some true) (kp:W.keepIn K (.ref C)=true):kb K C M.f fld:=⟨q,M.h.at_,eq_of_beq M.h.fn,sa,na,ob,be,self,kp⟩
end L2
open PySem PySem.Spec PyProof.Rows
namespace L2
section
variable {X:Cx}
def xr (n b:Bool):Bool:=match n with | false=>b | true=>!b
def Cv (n b:Bool):(n ^^ b)=xr n b:=by cases n <;> cases b <;> rfl
def nO (neg:Bool):R2:=fun x y H Q=>match x,y with
 | .int i,.int j=>Q (.bl (xr neg (decide (i=j)))) H
 | .str i,.str j=>Q (.bl (xr neg (decide (i=j)))) H
 | .bl i,.bl j=>Q (.bl (xr neg (decide (i=j)))) H
 | _,_=>wO x y=true/\Q (.bl (xr neg (decide (x=y)))) H
def GC (neg:Bool):qG neg=nO neg:=by
 funext x y H Q;unfold qG nO;simp only [Cv] <;> rfl
def gK:aZ X (compareOp .Eq) (nO false):=GC false ▸ W7
def fk:aZ X (compareOp .NotEq) (nO true):=GC true ▸ acG
def tS (neg:Bool):R2:=fun x y H Q=>match x,y with
 | .ref a,.ref b=>∃ ts us:List Str,H a=some (.lst (ts.map V.str))/\H b=some (.lst (us.map V.str))/\Q (.bl (xr neg (decide (ts=us)))) H
 | _,_=>False
def Mf (neg:Bool):pA neg=tS neg:=by
 funext x y H Q;unfold pA tS;simp only [Cv] <;> rfl
def zx (hu:X.A.units < cLine):aZ X (compareOp .Eq) (tS false):=Mf false ▸ Vy hu
def JY (hu:X.A.units < cLine):aZ X (compareOp .NotEq) (tS true):=Mf true ▸ X0 hu
def tM (K:ν) (neg:Bool):R2:=fun x y H Q=>match x,y with
 | .ref a,.ref b=>∃ xs ys:List V,aH K H a xs/\aH K H b ys/\((ys=[]/\Q (.bl (xr neg xs.isEmpty)) H)\/(xs=[]/\Q (.bl (xr neg ys.isEmpty)) H))
 | _,_=>False
def Kr {K:ν} (neg:Bool):pB K neg=tM K neg:=by
 funext x y H Q;unfold pB tM;simp only [Cv] <;> rfl
def Hj {K:ν} (hK:X.K=K) (hu:X.A.units < cLine):aZ X (compareOp .Eq) (tM K false):=Kr (K:=K) false ▸ Uo hK hu
def PJ {K:ν} (hK:X.K=K) (hu:X.A.units < cLine):aZ X (compareOp .NotEq) (tM K true):=Kr (K:=K) true ▸ Qz hK hu
end
end L2
namespace L2
open PySem PySem.Spec PyProof.Rows
def Va {J:It} {tt:TT} {te:TE} {Q:VK} {H:Hp}:tG J tt te Q H ↔ nR J 1 [] (fT 0) tt te Q H:=by
 constructor
 ·rintro ⟨W,w0,h⟩;refine ⟨W,w0,fun i ys m H hw=>⟨(h i ys m H hw).1,(h i ys m H hw).2.imp_right fun z=>⟨z.1,z.2.1,fun y H' hy σ0 hσ=>?_⟩⟩⟩;obtain ⟨a,rfl⟩:=xF hσ;exact ⟨⟨[some y],rfl,rfl⟩,z.2.2 y H' hy⟩
 ·rintro ⟨W,w0,h⟩;exact ⟨W,w0,fun i ys m H hw=>⟨(h i ys m H hw).1,(h i ys m H hw).2.imp_right fun z=>⟨z.1,z.2.1,fun y H' hy=>(z.2.2 y H' hy [none] rfl).2⟩⟩⟩
def Fe {wi:TI} {tt:TT} {te:TE} {σ:St} {H:Hp} {Q:VK} (h:wV wi tt te σ H Q):l6 1 [] wi (fT 0) tt te σ H Q:=by
 rw [Ku] at h;rw [Jk];have e:(fun (J:It) H1=>tG J tt te Q H1)=fun J H1=>nR J 1 [] (fT 0) tt te Q H1:=by funext J H1;exact propext Va
 rw [e] at h;exact ⟨[],⟨rfl,by simp⟩,h⟩
section
variable {X:Cx}
def Dv.AG {elt iter tg:Expr} {ifs:List Expr} {x:Str} {cl:List (Str×Addr)} {pos:Pos} {scope:Scope} {wi:TI} {tt:TT} {te:TE} (hc:X.calm=true) (hi:QI X tg iter wi)
  (ht:∀ s H ex C,oG (cq X scope cl ([x]++[]) s H ex C) ifs tt) (fH:∀ s H ex C,QG (cq X scope cl ([x]++[]) s H ex C) tg (fT 0)) (he:∀ s H ex C,QE (cq X scope cl ([x]++[]) s H ex C) elt te) (CC:iI X scope cl [] [])
  (hk:scope.kind=.function:=by rfl) (cM:∀ y∈scope.names,y.2=.local->scope.names.lookup y.1=some .local:=by decide +kernel) (fF:∀ y∈scope.names,y.2≠.cell:=by decide +kernel)
  (hs:∀ x,foldedSetIterable iter X.env x=pure x:=by intro _;rfl):QE X (.ListComp elt [⟨tg,iter,ifs,0⟩] scope pos) (wV wi tt te) :=
 ⟨fun π s σ H Q I h=>(Dv.SV hc hi ht fH he CC hk cM fF hs).h π s σ H Q I (Fe h)⟩
def Dv.HQ (i:Nat) {elt iter tg:Expr} {ifs:List Expr} {x:Str} {cl:List (Str×Addr)} {y:Str} {py pos spos:Pos} {scope:Scope} {wi:TI} {tt:TT} {te:TE} (hc:X.calm=true) (hN:X.N.Nodup) (hi:QI X tg iter wi)
  (ht:∀ s H ex C,oG (cq X scope cl ([x]++[]) s H ex C) ifs tt) (fH:∀ s H ex C,QG (cq X scope cl ([x]++[]) s H ex C) tg (fT 0)) (he:∀ s H ex C,QE (cq X scope cl ([x]++[]) s H ex C) elt te) (CC:iI X scope cl [] []) (uf:X.N[i]?=some y:=by rfl) (qK:X.env.scope.names.lookup y=some .local:=by rfl)
  (uK:swapsWith (.ListComp elt [⟨tg,iter,ifs,0⟩] scope pos) (some (.Name y py)) spos.line X.env=pure true:=by rfl)
  (hk:scope.kind=.function:=by rfl) (cM:∀ y∈scope.names,y.2=.local->scope.names.lookup y.1=some .local:=by decide +kernel) (fF:∀ y∈scope.names,y.2≠.cell:=by decide +kernel)
  (hs:∀ x,foldedSetIterable iter X.env x=pure x:=by intro _;rfl):QS X (.Assign [.Name y py] (.ListComp elt [⟨tg,iter,ifs,0⟩] scope pos) spos) (mC (wV wi tt te) (fT i)) :=
 ⟨fun π s σ H D I h=>(Dv.xA i hc hN hi ht fH he CC uf qK uK hk cM fF hs).h π s σ H D I (Fe h)⟩
end
end L2
namespace L2
def JN {α:Type} {C:List α->Prop} (h:C []):∀ us:List α,us.length=0->C us
 | [],_=>h
def nM {α:Type} {C:List α->Prop} {n:Nat} (h:∀ a us,us.length=n->C (a::us)):∀ us:List α,us.length=n+1->C us
 | a::us,e=>h a us (Nat.succ.inj e)
def Kh {α:Type} {C:List α->Prop} (h:∀ a,C [a]):∀ us:List α,us.length=1->C us:=nM fun a=>JN (C:=fun us=>C (a::us)) (h a)
def He {α:Type} {C:List α->Prop} (h:∀ a b,C [a,b]):∀ us:List α,us.length=2->C us:=nM fun a=>Kh (C:=fun us=>C (a::us)) (h a)
def wq {α:Type} {C:List α->Prop} (h:∀ a b c,C [a,b,c]):∀ us:List α,us.length=3->C us:=nM fun a=>He (C:=fun us=>C (a::us)) (h a)
def rQ {α:Type} {C:List α->Prop} (h:∀ a b c d,C [a,b,c,d]):∀ us:List α,us.length=4->C us:=nM fun a=>wq (C:=fun us=>C (a::us)) (h a)
def wD {α:Type} {C:List α->Prop} (h:∀ a b c d e,C [a,b,c,d,e]):∀ us:List α,us.length=5->C us:=nM fun a=>rQ (C:=fun us=>C (a::us)) (h a)
def Al {α:Type} {C:List α->Prop} (h:∀ a b c d e f,C [a,b,c,d,e,f]):∀ us:List α,us.length=6->C us:=nM fun a=>wD (C:=fun us=>C (a::us)) (h a)
def U5 {α:Type} {C:List α->Prop} (h:∀ a b c d e f g,C [a,b,c,d,e,f,g]):∀ us:List α,us.length=7->C us:=nM fun a=>Al (C:=fun us=>C (a::us)) (h a)
end L2
namespace L2
open PySem PySem.Spec PyProof.Rows
section
open PySem.AutoSeq1 (wpAny_loadPart')
open PySem.MeetsSeq PySem.SeqAt
end
section
variable {X:Cx}
def Yh (K:ν):V->List V->Hp->VK->Prop:=fun x vs H Q=>match x,vs with
 | .ref l,[.int k]=>∃ ns:List Int,aH K H l (ns.map V.int)/\k∈ns/\Q (.int (ns.idxOf k:Nat)) H
 | _,_=>False
def adi (K:ν):V->List V->Hp->VK->Prop:=fun x vs H Q=>match x,vs with
 | .ref l,[.int k]=>∃ ns:List Int,bT K H l (ns.map V.int)/\k∈ns/\Q (.int (ns.idxOf k:Nat)) H
 | _,_=>False
def SS (K:ν):List V->Hp->VK->Prop:=fun xs H Q=>match xs with
 | [.ref p]=>∃ (ns:List Int) (m:Int),aH K H p (ns.map V.int)/\m∈ns/\(∀ k∈ns,m<=k)/\Q (.int m) H
 | _=>False
end
end L2
namespace HT
open PySem PySem.Spec PyProof.Rows
section
variable {prog:Program} {w:World} {A:Around} {E:Value->Shared->Prop} {s:Shared}
end
end HT
namespace L2
open PySem PySem.Spec PyProof.Rows
section
variable {X:Cx}
def Uj (K:ν):R2:=fun x y H Q=>match x,y with
 | .ref a,.ref b=>∃ xs ys,bT K H a xs/\bT K H b ys/\xs.length+ys.length<=sizeLine/\((xs=[]/\Q (.ref b) H)\/(xs≠[]/\ys≠[]/\∀ p,H p=none->Q (.ref p) (upd H p (.tup (xs++ys)))))
 | _,_=>False
def adI (K:ν):R2:=fun x y H Q=>match x,y with
 | .ref a,.ref b=>∃ xs,bT K H a xs/\bT K H b []/\Q (.bl xs.isEmpty) H
 | _,_=>False
def aaU (K:ν):V->Option Int->Option Int->Hp->VK->Prop:=fun x lo hi H Q=>match x with
 | .ref a=>∃ xs,bT K H a xs/\(HT.dF xs.length 0 lo=0/\HT.dF xs.length xs.length hi=xs.length->Q (.ref a) H)/\(∀ p,H p=none->Q (.ref p) (upd H p (.tup (jz xs lo hi))))
 | _=>False
def aaL (r:V->List V->Hp->VK->Prop) (to:TE) (t:TA):TE:=fun σ H Q=>to σ H fun x H1=>match x with
 | .ref l=>(match H1 l with
  | some (.tup _)=>t σ H1 fun xs H2=>r (.ref l) xs H2 Q
  | _=>False)
 | _=>False
section
variable {o e:Expr} {es:List Expr} {name:Str} {id:String} {r:V->List V->Hp->VK->Prop} {to:TE} {t:TA} {apos bj:Pos}
end
end
def bc.m {j k:Nat} {A:Around} (r:bc k A) (h:j<=k:=by decide):bc j A:=r.mono h
def fI {C d x:Addr} {f:Str} {fs gs:List (Str×V)} {v:V} {H:Hp} {Q:V->Prop} (h:H x=some (.ins C d fs)) (s:dB fs gs) (e:List.lookup f gs=some v) (q:Q v):FI C f (.ref x) H Q:=⟨x,_,_,_,rfl,h,(s f).trans e,q⟩
def mI {C d x:Addr} {f:Str} {fs gs:List (Str×V)} {H:Hp} {q:Prop} (h:H x=some (.ins C d fs)) (s:dB fs gs) (r:q) (e:List.lookup f gs=none:=by rfl):MI C f (.ref x) H q:=⟨x,_,_,rfl,h,(s f).trans e,r⟩
@[elab_as_elim] theorem eV {H:Hp} {p:Addr} {o:HO} {C:Hp->Prop} (h:H p=none) (k:∀ H1,ag H H1->H1 p=some o->C H1):C (upd H p o):=k _ (ag.upd h) ay
section
variable {prog:Program} {w:World} {A:Around} {E:Value->Shared->Prop} {s:Shared}
def abA {d:Addr} {es:Array DictEntry} {ep:Nat} (lo:(d == sysModules)=false):W.KdlSrc prog w "dict" d d es.size (fun i v=>∃ e,es[i]?=some e/\v=e.key) (fun h=>iC h d es ep) where
 type:=fun _ x=>x.typeIs
 there:=fun _ x=>let ⟨_,e,_⟩:=x;⟨sB e,sB e⟩
 keep:=fun _ _ x k=>x.at' (k d (.inl rfl))
 notList:=by decide
 notTuple:=by decide
 hint:=fun _ _ _ _ x q=>W.kdl_hint_dict x.typeIs q
 iter:=fun _ _ hh x=>⟨_,_,fun _ _ q=>Bv lo x q,BE hh _ d (xL (let ⟨_,e,_⟩:=x;sB e)) es ep,⟨⟨_,u8 _ rfl,rfl,rfl⟩,x.at' fun _ e=>pc _ e⟩⟩
def sort_1 {a:Addr} {v:Value} {n:Nat} {P:Fin->Shared->Prop} (ho:s.heap.get? a=some (seqObj "list" [v].toArray n)) (h:P (.done (.ret .none)) { s with heap:=sortedHeap s.heap a [v] #[v] }) :
  wpAny (model prog w) A (Builtin.«list.sort» ⟨[.ref a],[]⟩) P E s:=by
 rw [list_sort_plain];have ha:=sB ho;refine lv (listItems_at ho rfl (lv (listUpdate_at ho rfl ?_)));obtain ⟨e1,h1⟩:∃ e1,(s.heap.update a (Obj.mapSeq fun _=>#[])).get? a=some (seqObj "list" #[] e1):=⟨_,get?_update_seq ho _⟩;refine lv (seqEpoch_at h1 rfl (lv (wpAny_newTuple (lv (Jaj (Id ?_))))));have h6:(((s.heap.update a (Obj.mapSeq fun _=>#[])).push (seqObj "tuple" [v].toArray 0)).push (seqObj "list" #[] 0)).get? a=some (seqObj "list" #[] e1) :=
  pc _ (pc _ h1)
 show wpAny (model prog w) A _ P E { s with heap:=((s.heap.update a (Obj.mapSeq fun _=>#[])).push (seqObj "tuple" [v].toArray 0)).push (seqObj "list" #[] 0) };dsimp only;have h2:([v]:List Value).toArray.size < 2:=by simp
 rw [AT h2,AT h2];refine lv (sw ?_);rw [StateT.run_pure];refine lv (sw ?_);dsimp only;refine lv (seqEpoch_at h6 rfl (lv (listUpdate_at h6 rfl ?_ (hsz2:=by rw [Array.size_map];show (pairsOf [v]).size<=_;rw [pairsOf_size,_n];exact _0 (Do _)))));simp only [bne_self_eq_false,FB,Ty];have hx:(arrOf (SortSt.mk' general' (#[v].zip #[v]) #[] 7 none)).map (·.2)=#[v]:=by
  show (#[v].zip #[v]).map (·.2)=#[v];simp
 rw [hx];exact sw h
end
section
variable {X:Cx}
def ZF {π:List (Addr×Obj)} {σ:St} {H:Hp} {s:Shared} {Q:VK} {p:Addr} {k:List Key} {v:V} (hc:X.calm=true) (I:Inv X π σ H s) (hd:H p=some (.dT [(k,v)])) (q:∀ y l,H y=some (.tup (k.map kV))->H l=none->Q (.ref l) (upd H l (.lst [.ref y]))) :
  wpAny (model X.prog X.w) X.A (call (.builtin "sorted") [.ref p]) (EP X π σ Q) X.xe s:=by
 obtain ⟨hz,hS,xs,hp,o,es,ep,ho,hex,gI,kf,lP⟩:=id (I.au p _ hd);cases hp with
 | @cons _ y _ _ hh t =>
 cases t;have hsz:es.size=1:=by rw [<- On,kf];rfl
 have uJ:iC s.heap p es ep:=⟨o,ho,hex,gI⟩;refine _L kind_sorted plain_sorted entry_sorted (args_sorted1 _) ?_;unfold Builtin.«sorted»;refine lv (m:=checkCount "sorted" 1 1 _) (sw ?_);refine lv (Ja4 (A:=X.A.in1) (abA hS) (I.ok.hd hc) uJ (by rw [hsz,_n];decide) fun h' tk acc hk' fE=>?_);obtain ⟨u,hu⟩:∃ u,acc=#[u]:=by
  have e:=fE.1;rw [hsz] at e;obtain ⟨l⟩:=acc
  match l,e with
  | [u],_=>exact ⟨u,rfl⟩
 subst hu;obtain ⟨e,he,rfl⟩:=fE.2 0 u rfl;rw [<- Os,kf] at he;cases he;refine lv (Jaj ?_ (by rw [_n];exact _0 (Do _)));have ie:(h'.push (seqObj "list" ([Value.ref y.2.1]:List Value).toArray 0)).get? h'.objs.size=some (seqObj "list" ([Value.ref y.2.1]:List Value).toArray 0):=u8 _ rfl;refine lv (Id (_J slot_list_sort ⟨_,ie,rfl⟩ entry_list_sort (sort_1 ie ⟨_,rfl,?_⟩) (args_list_sort _)));refine sw ⟨_,rfl,?_⟩;obtain ⟨e,he⟩:=sortedHeap_at (out:=#[Value.ref y.2.1]) ie;have I1:Inv X π σ H { s with heap:=h',toks:=tk }:=I.kept (t':=tk) hk';refine ⟨.ref h'.objs.size,_,I1.laid (t':=tk) (fun b o z=>?_) (ul _) (show bQ X.prog X.w _ _ _ (.lst [.ref y.2.1]) from ⟨by rw [_n];exact _0 (Do _),[Value.ref y.2.1],e,.cons rfl .nil,he⟩),rfl,q _ _ hh.2.1 (I1.au.fresh (ul _))⟩;have hb:b < h'.objs.size:=sB z;exact (sortedHeap_old (xL hb) (show b < (h'.push _).objs.size by rw [WF];exact _V hb)).trans (pc _ z)
def SW:List V->Hp->VK->Prop:=fun xs H Q=>∃ p kvs,xs=[.ref p]/\H p=some (.dT kvs)/\((kvs=[]/\∀ l,H l=none->Q (.ref l) (upd H l (.lst [])))\/∃ k v,kvs=[(k,v)]/\∀ y l,H y=some (.tup (k.map kV))->H l=none->Q (.ref l) (upd H l (.lst [.ref y])))
def FZ (hc:X.calm=true):dz X (.builtin "sorted") SW:=by
 intro π s σ H xs us Q I r h;obtain ⟨p,kvs,rfl,hd,h⟩:=h;obtain ⟨u,rfl,rx⟩:=vals1 r;cases rx;rcases h with ⟨rfl,q⟩ | ⟨k,v,rfl,q⟩
 ·exact KG hc I hd q
 ·exact ZF hc I hd q
end
def DE (K:ν) (H:Hp):Nat->V->V->Prop
 | 0,x,y=>cU x=true/\cU y=true/\fR x y=true
 | n+1,x,y=>(cU x=true/\cU y=true/\fR x y=true)\/∃ a b xs ys,x=.ref a/\y=.ref b/\(aH K H a xs/\aH K H b ys\/bT K H a xs/\bT K H b ys)/\xs.length=ys.length/\∀ i (h1:i < xs.length) (h2:i < ys.length),DE K H n xs[i] ys[i]
section
variable {X:Cx}
def F9 {xs:List V} {i1:List Value} (r1:Vals xs i1) (j:Nat) (g1:j < i1.toArray.size):∃ (j1:j < xs.length),RelV xs[j] i1.toArray[j]:=by
 have j1:j < xs.length:=by rw [r1.length];simpa using g1
 obtain ⟨u1,e1,ru1⟩:=r1.get (mo j1);have w1:i1.toArray[j]=u1:=by
  have:=(sK.mp e1).2
  simpa using this
 exact ⟨j1,by rw [w1];exact ru1⟩
def J4 {π:List (Addr×Obj)} {σ:St} {H:Hp} {s:Shared} (I:Inv X π σ H s) {n:Nat} (ih:∀ {A:Around} {x y:V} {v u:Value},DE X.K H n x y->RelV x v->RelV y u->A.units+n < cLine->SeqAt.EqAt A s v u true)
  {A:Around} {a b:Addr} {xs ys:List V} (gr:aH X.K H a xs/\aH X.K H b ys\/bT X.K H a xs/\bT X.K H b ys) (hl:xs.length=ys.length) (he:∀ i (h1:i < xs.length) (h2:i < ys.length),DE X.K H n xs[i] ys[i]) (hu:A.units+(n+1) < cLine):SeqAt.RcAt A s (.ref a) (.ref b) true:=by
 have el:∀ {i1 i2:List Value},Vals xs i1->Vals ys i2->∀ (j:Nat) (g1:j < i1.toArray.size) (g2:j < i2.toArray.size),SeqAt.EqAt A.in1 s i1.toArray[j] i2.toArray[j] true:=fun r1 r2 j g1 g2=>by
  obtain ⟨j1,u1⟩:=F9 r1 j g1;obtain ⟨j2,u2⟩:=F9 r2 j g2;exact ih (he j j1 j2) u1 u2 (show A.units+1+n < cLine by omega)
 rcases gr with ⟨ha,hb⟩ | ⟨ha,hb⟩
 ·obtain ⟨i1,r1,p1,_⟩:=I.list ha;obtain ⟨i2,r2,p2,_⟩:=I.list hb;have hsz:i1.toArray.size=i2.toArray.size:=by rw [ww,ww,<- r1.length,<- r2.length,hl]
  have k:=SeqAt.RcAt.lists (A:=A) (s:=s) (e:=fun _=>true) p1.isList p2.isList hsz (by omega) (el r1 r2);rw [all_true] at k;exact k
 ·obtain ⟨i1,r1,p1,_⟩:=I.tuple ha;obtain ⟨i2,r2,p2,_⟩:=I.tuple hb;have hsz:i1.toArray.size=i2.toArray.size:=by rw [ww,ww,<- r1.length,<- r2.length,hl]
  have k:=SeqAt.RcAt.tuples (A:=A) (s:=s) (e:=fun _=>true) p1 p2 (by omega) (el r1 r2);rw [all_true,hsz,beq_self_eq_true,Bool.and_self] at k;exact k
def KC {π:List (Addr×Obj)} {σ:St} {H:Hp} {s:Shared} (I:Inv X π σ H s):∀ (n:Nat) {A:Around} {x y:V} {v u:Value},DE X.K H n x y->RelV x v->RelV y u->A.units+n < cLine->SeqAt.EqAt A s v u true
 | 0,A,x,y,v,u,h,rx,ry,hu=>by
  have:=Ag (A:=A) (s:=s) rx ry h.1 h.2.1;rw [h.2.2] at this;exact this
 | n+1,A,x,y,v,u,h,rx,ry,hu=>by
  rcases h with h | ⟨a,b,xs,ys,rfl,rfl,gr,hl,he⟩
  ·have:=Ag (A:=A) (s:=s) rx ry h.1 h.2.1;rw [h.2.2] at this;exact this
  ·cases rx;cases ry;by_cases e:a=b
   ·subst e;exact SeqAt.EqAt.same _
   ·exact SeqAt.EqAt.of_refs e (J4 I (KC I n) gr hl he hu)
def Ce (K:ν) (n:Nat):R2:=fun x y H Q=>match x,y with
 | .ref a,.ref b=>∃ xs ys:List V,(aH K H a xs/\aH K H b ys\/bT K H a xs/\bT K H b ys)/\xs.length=ys.length/\(∀ i (h1:i < xs.length) (h2:i < ys.length),DE K H n xs[i] ys[i])/\Q (.bl true) H
 | _,_=>False
def WV {K:ν} (n:Nat) (hK:X.K=K) (hu:X.A.units+(n+1) < cLine):aZ X (compareOp .Eq) (Ce K n):=by
 subst hK;intro π s σ H x y v u Q I rx ry h;unfold Ce at h;split at h
 ·obtain ⟨xs,ys,gr,hl,he,q⟩:=h;cases rx;cases ry;exact J4 I (KC I n) gr hl he hu _ _ _ _ ⟨.bl _,H,I,rfl,q⟩
 ·exact h.elim
end
def bc.Qr {k:Nat} {A:Around} (r:bc k A):A.units+(4+1) < cLine:=by have:=r.un;omega
def OT:List V->Hp->VK->Prop:=fun xs H Q=>match xs with
 | [.int a,.int b]=>Q (.int (if b < a then b else a)) H
 | _=>False
def FJ:∀ es:List Ent,(dP es).length=3 * es.length
 | []=>rfl
 | e::r=>by show (dP r).length+1+1+1=3 * (r.length+1);rw [FJ r];omega
def Fg {P:Addr} {es:List Ent} {q:Str}:ji P es≠iA P q:=fun e=>by
 have e:=HO.ext.inj e
 let o:Obj:={ cls:=.none,data:=.fields #[.none,.str q 0] }
 let h:Heap:=Heap.push ⟨Array.replicate P o,{}⟩ o
 have hg:h.get? P=some o:=by
  have:=u8 (⟨Array.replicate P o,{}⟩:Heap) (o:=o) rfl;rw [show (⟨Array.replicate P o,{}⟩:Heap).objs.size=P from Array.size_replicate] at this;exact this
 have h1:h.CodeRec (.ref P) q:=⟨P,o,_,0,rfl,hg,rfl,rfl⟩;have h2:h.get? P=some (W.tabObj (dP es).toArray):=(congrFun e h).mpr h1;rw [hg] at h2;have h3:=PP Obj.data (Fk h2);have h4:#[Value.none,.str q 0]=(dP es).toArray:=by injection h3
 have h5:=PP Array.size h4;rw [ww,ww,FJ] at h5;have h6:(2:Nat)=3 * es.length:=h5;omega
section
variable {K:ν} {x qual nm nm2:Str} {st:Stmt} {f:Addr} {fd:FuncData} {ps:List Str} {ds:List Value}
end
section
variable {X:Cx}
end
section
variable {X:Cx} {tg:Expr} {π:List (Addr×Obj)} {σ:St} {H:Hp} {s:Shared}
end
section
variable {X:Cx} {es:List Expr} {kk:Nat} {qP apos bj:Pos} {o:Expr} {to:TE}
end
section
variable {X:Cx} {e st:Expr} {te:TE} {tk:TO} {p2 pos:Pos}
end
section
variable {X:Cx}
def ZD (K:ν) (n:Nat):R2:=fun x y H Q=>((x=.aw/\y=.aw)\/∃ a b xs ys,x=.ref a/\y=.ref b/\(aH K H a xs/\aH K H b ys\/bT K H a xs/\bT K H b ys)/\xs.length=ys.length/\(∀ i (h1:i < xs.length) (h2:i < ys.length),DE K H n xs[i] ys[i]))/\Q (.bl false) H
end
section
variable {prog:Program} {w:World} {A:Around} {E:Value->Shared->Prop} {s:Shared}
end
section
variable {X:Cx}
end
structure Lm where
 params:Arguments
 body:Expr
 scope:Scope
 bY:List (Str×Addr)
def et (f:Addr) (q:Str) (l:Lm) (c:Addr):HO:=.ext fun h=>∃ pm ct,h.get? f=some (W.kla_obj "<lambda>" q l.params l.body l.scope l.bY pm c ct)
def qu (H:Hp) (f:Addr):Prop:=∃ φ,H f=some (.ext φ)/\∀ h:Heap,φ h->∃ cls dict fd sl,h.get? f=some ⟨cls,dict,.func fd,sl⟩
def funAt {H:Hp} {f:Addr} {q:Str} {l:Lm} {c:Addr} (h:H f=some (et f q l c)):qu H f:=⟨_,h,fun _ ⟨_,_,e⟩=>⟨_,_,_,_,e⟩⟩
def kG (P:Addr) (q:Str) (l:Lm):TE:=fun _ H Q=>∃ es,da H P q es/\∀ f c H1,jL P q c H H1->H f=none->H1 f=none->Q (.ref f) (upd H1 f (et f q l c))
def Xq {X:Cx} {P:Addr} {q:Str} {params:Arguments} {body:Expr} {scope:Scope} {bY:List (Str×Addr)} {gb:Pos} (L:yI X P params scope bY q):PE X (.Lambda params body scope gb) (kG P q ⟨params,body,scope,bY⟩):=by
 intro π s σ H Q I h;obtain ⟨es,T,h⟩:=h;refine Pu I L T fun f c ct pm s1 H1 I1 St iM dC bh m8 kp=>?_;exact ⟨.ref f,_,I1.rA (a:=f) (o:=et f q ⟨params,body,scope,bY⟩ c) iM (ST (wE I.sz dC)) bh (fun x c₁ e z=>by
  obtain ⟨v,o,ho,_⟩:=I.cell x c₁ e;exact mO (sB ho) dC z.symm) (fun p hp z=>mO (sB (I.pin p hp).1) dC z.symm) ⟨⟨pm,ct,m8⟩,⟨_,m8⟩,fun h1 h2 ⟨pm',ct',z⟩ k=>⟨pm',ct',k _ z⟩⟩,rfl,h f c H1 St (I.au.fresh dC) iM⟩
def abZ (f c:Addr) (q:Str) (l:Lm) (W:bE):bE:=fun H Q E=>H f=some (et f q l c)/\H c=some (iA c q)/\W H Q E
def BX (X:Cx):Addr->Prop:=fun b=>∃ z,X.env.cells.lookup z=some b
def HD (X:Cx) (k:Nat) (B:Addr->Prop) (M:St->Addr->bE->Prop):Prop:=∀ (π:List (Addr×Obj)) (s:Shared) (σ:St) (H:Hp) (f:Addr) (wish:bE),Inv X π σ H s->M σ f wish ->
 lC X.prog X.w X.K X.mg X.base k s B f wish/\v9 X.stack H s B/\∀ H Q E,wish H Q E->qu H f
structure Cw (X:Cx) (k:Nat) (q:Str) (l:Lm) (ix:List Nat) (W:List V->bE) (N':List Str):Prop where
 S:oA N' l.scope l.bY
 C:qb X N' ix l.bY
 bind:∀ pm cd ct,bindArgs (PySem.W.kla_fn "<lambda>" q l.params l.body l.scope l.bY pm cd ct) ⟨[],[]⟩=pure []
 body:∀ (f:Addr) (cdv:Value) (vs:List V) (A:Around) (outer:List Env) (s:Shared) (H:Hp) (Q:VK) (E:XK),bc k (A.deeper (PySem.W.envX q l.scope s.heap.objs.size f cdv l.bY))->W vs H Q E ->
   ∃ t,PE (kD X.prog X.w X.K X.mg X.base N' q l.scope f cdv l.bY A outer s H E) l.body t/\t (vs.map some) H Q
def CY (q:Str) (T:Lm->List Nat->(List V->bE)->Prop):St->Addr->bE->Prop:=fun σ f wish=>∃ l c ix W vs,T l ix W/\fD ix σ vs/\wish=abZ f c q l (W vs)
def UD {X:Cx} {k:Nat} {q:Str} {T:Lm->List Nat->(List V->bE)->Prop} (iM:X.fn=fun _=>true) (hT:∀ l ix W,T l ix W->∃ N',Cw X k q l ix W N'):HD X (k+1) (BX X) (CY q T):=by
 rintro π s σ H f wish I ⟨l,c,ix,W,vs,t,hc,rfl⟩;obtain ⟨N',ok⟩:=hT _ _ _ t;have nfs:∀ b,X.s₀.heap.objs.size<=b->b≠X.env.locals->b ∉ bK X.stack:=fun b hb hl z=>by
  rcases pi.mp (I.tu b z) with e | z
  ·exact hl e
  ·obtain ⟨_,o,ho,_⟩:=I.ok.eU.mem z;exact absurd (wS (sB ho) hb) (GE _)
 refine ⟨HA (N:=N') (vs:=vs) (cdv:=.ref c) ok.S (fun s' H' Q E au _ hw=>?_) (fun H Q E z=>⟨c,rfl,z.2.1⟩) (fun z c' e=>⟨z,ok.C.gW z c' e⟩) (by rw [hc.1,ok.C.len]) (fun z c' e=>I.cell z c' (ok.C.gW z c' e)) (fun i z v h1 h2=>?_) (fun _ _=>ok.bind _ _ _)
  (fun A outer s' H' Q' E' r z=>ok.body f (.ref c) vs A outer s' H' Q' E' r z.2.2),fun b ⟨z,e⟩=>?_,fun H Q E z=>funAt z.1⟩
 ·obtain ⟨⟨pm,ct,e⟩,_⟩:=au f _ hw.1;exact ⟨_,pm,ct,e,rfl⟩
 ·have hi:i < ix.length:=by
   have:=(sK.mp h1).1;rw [ok.C.len];exact this
  obtain ⟨z',e1,e2,e3⟩:=ok.C.at' i _ (mo hi);rw [h1] at e1;cases e1;have e4:=hc.2 i _ v (mo hi) h2;obtain ⟨m,hn,hl⟩:=I.loc;obtain ⟨u,r,l'⟩:=hl _ z v e2 e4 (.inr (.inl e3));rcases l' with ⟨hk',_⟩ | ⟨_,c',e5,e6⟩
  ·have:X.env.scope.names.lookup z=some .local:=hk';rw [e3] at this;cases this
  ·exact ⟨c',u,by rw [ok.C.zp z (KM h1)];exact e5,r,e6⟩
 ·obtain ⟨v,o,ho,_⟩:=I.cell z b e;exact ⟨⟨o,ho⟩,I.eW z b e,nfs b (I.ok.jn z b (by rw [iM]) e) (I.jH z b e)⟩
def aal {X:Cx} {k:Nat} {M:St->Addr->bE->Prop} (h:HD X k (BX X) M) {π:List (Addr×Obj)} {σ:St} {s:Shared} {H:Hp} {ex:List Addr} {scope:Scope} {cl:List (Str×Addr)} {N:List Str} (C:Addr) (I:Inv X π σ H s) (f2:∀ b∈ex,gP X π H b) :
  HD (cq X scope cl N s H ex C) k (BX X) (fun _=>M σ):=by
 intro π' s' σ' H' f wish J m;obtain ⟨D,Hd,Fn⟩:=h _ _ _ _ _ _ I m;have nx:∀ b,BX X b->b ∉ ex:=fun b ⟨z,e⟩ hb=>(f2 b hb).2.2.2.2.1 z b e rfl;have kp:∀ b o,BX X b->s.heap.get? b=some o->s'.heap.get? b=some o:=fun b o hb e=>J.base.keep b o e (Hd b hb).2.1 (Hd b hb).2.2 (nx b hb);refine ⟨fun A outer s2 H2 Q E hr e0 hk hw=>D A outer s2 H2 Q E hr e0 (fun b o hb e=>hk b o hb (kp b o hb e)) hw,fun b hb=>?_,Fn⟩;obtain ⟨⟨o,e⟩,n,nf⟩:=Hd b hb;exact ⟨⟨o,kp b o hb e⟩,J.base.free b o e n (nx b hb),nf⟩
def zX (P:Program) (w:World) (K:ν) (mg:Str->Option Value) (base:Heap) (k:Nat) (je:bE->bE):xm:=fun outer s vs H Q E =>
 ∃ f B wish,vs=[.ref f]/\lC P w K mg base k s B f wish/\v9 outer H s B/\(∀ H Q E,wish H Q E->qu H f)/\je wish H Q E
def sj (ta:TE) (M:St->Addr->bE->Prop) (je:bE->bE) (R:St->XK):TE:=fun σ H Q=>ta σ H fun x H1=>∃ f wish,x=.ref f/\M σ f wish/\je wish H1 Q (R σ)
def Vf {X:Cx} {B:Addr->Prop} {M:St->Addr->bE->Prop} {je:bE->bE} {R:St->XK} {e:Expr} {ta:TE} {p pos:Pos} {x y:Str} {g:Addr} {fd:FuncData} {k k':Nat} (hM:HD X k B M)
  (F:sr X.prog X.w X.K X.mg X.base (aR X.prog X.w) k' g fd [y] (zX X.prog X.w X.K X.mg X.base k je)) (hr:bc k' X.A) (hg:Gl X x) (hm:X.mg x=some (.ref g)) (hk:W.keepIn X.K (.ref g)=true) (hb:Binds X.K fd [y] []) (hx:hJ X R) (he:PE X e ta)
  (hs:starEach [e] X.env=[(false,eval e X.env)]:=by rfl) (bM:(x == ("__debug__":Str))=false:=by decide):PE X (.Call (.Name x p) [e] [] pos) (sj ta M je R):=by
 intro π s σ H Q I h;refine Go (kW I hg hm ?_ bM);refine SL (h₀:=X.base) (he:=hs) I.ok.mod.gS hk ?_;rw [hs];show wpAny _ _ (spliced ((false,eval e X.env)::backTo pos [])) _ _ s;refine Ps (aC (he π s σ H _ I h) fun u s1 ⟨v,H1,I1,r,f,wish,hv,m,dm⟩=>?_);subst hv;cases (show u=Value.ref f from r);refine Tk ⟨I1.cj,?_⟩;obtain ⟨D,Hd,Fn⟩:=hM _ _ _ _ _ _ I1 m;have hl:([.ref f]:List Value).length=[y].length:=rfl;refine _f (Uf (F.run X.A X.stack s1 H1 ⟨[.ref f],[]⟩ [.ref f] [.ref f] Q (R σ) hr I1.qk (hb s1 [.ref f] I1.cj hl) (.cons rfl .nil) ⟨f,_,_,rfl,D,Hd,Fn,dm⟩) fun r s' hq=>?_);cases r with
 | error e=>exact hx.pass π σ H1 s1 e s' I1 hq
 | ok fl =>
  cases fl with
  | ret u=>exact I1.after hq
  | next=>exact False.elim hq
  | brk=>exact False.elim hq
  | cont=>exact False.elim hq
def zd (i:Nat) (f:Addr) (wish:bE) (R:St->XK):TE:=fun σ H Q=>σ[i]?=some (some (.ref f))/\wish H Q (R σ)
def Wq {X:Cx} {i k:Nat} {x:Str} {p pos:Pos} {B:Addr->Prop} {f:Addr} {wish:bE} {R:St->XK} (hN:X.N[i]?=some x) (hv:mH X.env.scope x)
  (D:lC X.prog X.w X.K X.mg X.base k X.s₀ B f wish) (hB:v9 X.outer X.H₀ X.s₀ B) (hf:∀ H Q E,wish H Q E->qu H f) (hex:X.ex=[]) (hr:bc k X.A) (hx:hJ X R)
  (hd:(x == ("__debug__":Str))=false:=by decide) (aV:(x == ("__classdict__":Str))=false:=by decide):PE X (.Call (.Name x p) [] [] pos) (zd i f wish R):=by
 intro π s σ H Q I h;obtain ⟨hσ,hw⟩:=h;refine Go (aC (Ar hN hv hd aV π s σ H (fun v H1=>v=.ref f/\wish H1 Q (R σ)) I ⟨_,hσ,rfl,hw⟩) fun u s1 ⟨v,H1,I1,r,e,N8⟩=>?_);subst e;cases (show u=Value.ref f from r);have kp:∀ b o,B b->X.s₀.heap.get? b=some o->s1.heap.get? b=some o/\H1 b=none:=fun b o hb e =>
  ⟨I1.base.keep b o e (hB b hb).2.1 (hB b hb).2.2 (by rw [hex];simp),I1.base.free b o e (hB b hb).2.1 (by rw [hex];simp)⟩
 obtain ⟨φ,hφ,m8⟩:=hf _ _ _ N8;obtain ⟨cls,dict,fd,sl,m8⟩:=m8 _ (I1.au _ _ hφ).1;refine W.callWith_of (P:=fun h=>h.get? f=some ⟨cls,dict,.func fd,sl⟩) rfl (fun h e=>⟨.frame,.inl rfl,(_I (part:=none) e).andThen .now⟩) (PyProof.Rows.evalArgs_nil3 ⟨m8,?_⟩);refine _f (Uf (D X.A X.stack s1 H1 Q (R σ) hr I1.qk kp N8) fun r s' hq=>?_);cases r with
 | error e=>exact hx.pass π σ H1 s1 e s' I1 hq
 | ok fl =>
  cases fl with
  | ret u=>exact I1.after hq
  | next=>exact False.elim hq
  | brk=>exact False.elim hq
  | cont=>exact False.elim hq
def Bm (n:Nat) (ix:List Nat) (wi:TI) (g:TG) (tt:St->TT) (te:TE):TE:=fun σ H Q=>l6 n ix wi g (tt σ) te σ H Q
def To {X:Cx} {elt iter:Expr} {ifs:List Expr} {tg:Expr} {g:TG} {TN caps:List Str} {ix:List Nat} {cl:List (Str×Addr)} {pos:Pos} {scope:Scope} {wi:TI} {tt:St->TT} {te:TE} (hc:X.calm=true) (hi:PI X tg iter wi)
  (ht:∀ {π σ s H ex} C,Inv X π σ H s->(∀ b∈ex,gP X π H b)->nq (cq X scope cl (TN++caps) s H ex C) ifs (tt σ)) (fH:∀ s H ex C,PG (cq X scope cl (TN++caps) s H ex C) tg g) (he:∀ s H ex C,PE (cq X scope cl (TN++caps) s H ex C) elt te) (CC:iI X scope cl caps ix)
  (hk:scope.kind=.function:=by rfl) (cM:∀ y∈scope.names,y.2=.local->scope.names.lookup y.1=some .local:=by decide +kernel) (fF:∀ y∈scope.names,y.2≠.cell:=by decide +kernel)
  (hs:∀ x,foldedSetIterable iter X.env x=pure x:=by intro _;rfl):PE X (.ListComp elt [⟨tg,iter,ifs,0⟩] scope pos) (Bm TN.length ix wi g tt te):=by
 intro π s σ H Q I h;rw [eval_ListComp];refine _N (use:=none) (cl:=cl) rfl hs CC.gW hk cM ?_;refine Bw (RR:=fun acc C=>compPost (model X.prog X.w) X.A X.xe none (EP X π σ Q) acc C) hc hi ht fH he CC hk fF I h ?_;intro a C s6 H6 I6 hm o q;obtain ⟨m,hn⟩:=hm;exact ⟨m,hn,fun h' ku=>⟨.ref a,H6,o.go I6 ku,rfl,q⟩⟩
namespace Dv
section
variable {X:Cx}
def iS {B:Addr->Prop} {M:St->Addr->bE->Prop} {je:bE->bE} {R:St->XK} {e:Expr} {ta:TE} {p pos:Pos} {x y:Str} {g:Addr} {fd:FuncData} {k k':Nat} (hM:HD X k B M)
  (F:sr X.prog X.w X.K X.mg X.base (aR X.prog X.w) k' g fd [y] (zX X.prog X.w X.K X.mg X.base k je)) (hr:bc k' X.A) (hm:X.mg x=some (.ref g)) (hk:W.keepIn X.K (.ref g)=true) (hb:Binds X.K fd [y] []) (hx:hJ X R) (he:QE X e ta) (hg:Gl X x:=by rfl)
  (hs:starEach [e] X.env=[(false,eval e X.env)]:=by rfl) (bM:(x == ("__debug__":Str))=false:=by decide):QE X (.Call (.Name x p) [e] [] pos) (sj ta M je R):=⟨Vf hM F hr hg hm hk hb hx he.h hs bM⟩
def YK (i:Nat) {k:Nat} {x:Str} {p pos:Pos} {B:Addr->Prop} {f:Addr} {wish:bE} {R:St->XK} (D:lC X.prog X.w X.K X.mg X.base k X.s₀ B f wish) (hB:v9 X.outer X.H₀ X.s₀ B) (hf:∀ H Q E,wish H Q E->qu H f) (hr:bc k X.A) (hx:hJ X R)
  (hex:X.ex=[]:=by rfl) (hN:X.N[i]?=some x:=by rfl) (hv:mH X.env.scope x:=by first | exact Or.inl rfl | exact Or.inr (Or.inl rfl) | exact Or.inr (Or.inr rfl))
  (hd:(x == ("__debug__":Str))=false:=by decide) (aV:(x == ("__classdict__":Str))=false:=by decide):QE X (.Call (.Name x p) [] [] pos) (zd i f wish R):=⟨Wq hN hv D hB hf hex hr hx hd aV⟩
def Sg {elt iter tg:Expr} {g:TG} {ifs:List Expr} {TN caps:List Str} {ix:List Nat} {cl:List (Str×Addr)} {pos:Pos} {scope:Scope} {wi:TI} {tt:St->TT} {te:TE} (hc:X.calm=true) (hi:QI X tg iter wi)
  (ht:∀ {π σ s H ex} C,Inv X π σ H s->(∀ b∈ex,gP X π H b)->oG (cq X scope cl (TN++caps) s H ex C) ifs (tt σ)) (fH:∀ s H ex C,QG (cq X scope cl (TN++caps) s H ex C) tg g) (he:∀ s H ex C,QE (cq X scope cl (TN++caps) s H ex C) elt te) (CC:iI X scope cl caps ix)
  (hk:scope.kind=.function:=by rfl) (cM:∀ y∈scope.names,y.2=.local->scope.names.lookup y.1=some .local:=by decide +kernel) (fF:∀ y∈scope.names,y.2≠.cell:=by decide +kernel)
  (hs:∀ x,foldedSetIterable iter X.env x=pure x:=by intro _;rfl):QE X (.ListComp elt [⟨tg,iter,ifs,0⟩] scope pos) (Bm TN.length ix wi g tt te):=⟨To hc hi.h (fun C I f2=>(ht C I f2).h) (fun s H ex C=>(fH s H ex C).h) (fun s H ex C=>(he s H ex C).h) CC hk cM fF hs⟩
end
end Dv
def SY:List V->Hp->VK->Prop:=fun xs H Q=>∃ p kvs,∃ ns:List Int,xs=[.ref p]/\H p=some (.dK kvs)/\kvs.map (·.1)=ns.map Sum.inl/\ns.length < 64/\ns.Pairwise (·<=·)/\∀ l,H l=none->Q (.ref l) (upd H l (.lst (ns.map V.int)))
def PL (t:TE):TE:=fun σ H Q=>∃ p kvs,H p=some (.dK kvs)/\t σ H fun v H'=>∃ o,H' p=some (.dI o (.dK kvs))/\Q v (upd H' p (.dK kvs))
def PD:R2:=fun x y H Q=>match x,y with
 | .ref a,.ref b=>∃ kvs,H a=some (.dK kvs)/\H b=some (.dK [])/\Q (.bl (!kvs.isEmpty)) H
 | _,_=>False
def P1:List V->Hp->VK->Prop:=fun xs H Q=>∃ p kvs,xs=[.ref p]/\H p=some (.dK kvs)/\Q (.int kvs.length) H
def Dv.dh {X:Cx} {P:Addr} {q:Str} {e:Expr} {gb:Pos} {l:Lm} (L:yI X P l.params l.scope l.bY q) (he:e=.Lambda l.params l.body l.scope gb:=by rfl):QE X e (kG P q l):=by
 subst he;exact ⟨Xq L⟩
def Sq (d:Addr) (o:Obj) (u:HO) (ts:List Key):It :=
 ⟨fun i H=>H d=some (.dI o u)/\i < ts.length,fun i H x H'=>H'=H/\∃ t,ts[i]?=some t/\x=kV t,fun i H=>H d=some (.dI o u)/\ts.length<=i⟩
section
variable {X:Cx} {tg:Expr} {π:List (Addr×Obj)} {σ:St} {H:Hp} {s:Shared}
def YY (tl:TE):TI:=fun σ H R=>tl σ H fun x H1=>∃ d kvs,x=.ref d/\Rd H1 d (.dK kvs)/\∀ o,R (Sq d o (.dK kvs) (kvs.map (·.1))) (upd H1 d (.dI o (.dK kvs)))
end
def om (c:Addr) (v:V):HO:=.ext fun h=>∃ u,RelV v u/\h.IsCell c (some u)
def adT {P:Program} {w:World} {H:Hp} {h:Heap} {c:Addr} {v:V} {u:Value} (r:RelV v u) (e:h.IsCell c (some u)):bQ P w H h c (om c v) :=
 ⟨⟨u,r,e⟩,let ⟨o,e1,_⟩:=e;⟨o,e1⟩,fun h1 h2 ⟨u,r,o,e1,e2⟩ k=>⟨u,r,o,k _ e1,e2⟩⟩
def hide (D:List Addr) (H:Hp):Hp:=fun b=>if b∈D then none else H b
def cH (D:List Addr) (H H':Hp):Hp:=fun b=>if b∈D then H b else H' b
section
variable {P:Program} {w:World} {K:ν} {mg:Str->Option Value} {base:Heap} {A:Around} {outer:List Env} {s s':Shared} {H H':Hp} {D:List Addr}
def rM {b:Addr} (h:H b=none):hide D H b=none:=by unfold hide;split <;> simp [h]
def jB {b:Addr} (h:b ∉ D):hide D H b=H b:=zn h
def uV {b:Addr} (h:b∈D):hide D H b=none:=AT h
def jZ {b:Addr} (h:b ∉ D):cH D H H' b=H' b:=zn h
def JV {b:Addr} (h:b∈D):cH D H H' b=H b:=AT h
def tP {b:Addr} {o:HO} (hD:∀ b∈D,∃ φ,H b=some (.ext φ)) (no:∀ φ,o≠.ext φ) (e:H b=some o):b ∉ D:=fun z=>by
 obtain ⟨φ,h⟩:=hD b z;rw [h] at e;cases e;exact no _ rfl
def bD.hide (au:bD P w H s.heap) (hD:∀ b∈D,∃ φ,H b=some (.ext φ)):bD P w (L2.hide D H) s.heap:=fun a o e=>by
 have ha:a ∉ D:=fun z=>by rw [uV z] at e;cases e
 rw [jB ha] at e;exact (au a o e).gX (fun _ _ _ q=>q) (fun c q=>by rw [jB (tP hD (by nofun) q)];exact q) fun c xs q=>by rw [jB (tP hD (by nofun) q)];exact q
def hU.hide (e:hU P w K mg base A outer s H) (hD:∀ b∈D,∃ φ,H b=some (.ext φ)):hU P w K mg base A outer s (L2.hide D H) :=
 ⟨e.frames,e.mod,fun b o h=>⟨(e.bs b o h).1,rM (e.bs b o h).2⟩,e.gB,e.eU,fun b hb=>rM (e.g8 b hb),bD.hide e.au hD,e.bare⟩
def Un.cH {fs:List Addr} {h h':Heap} (u:Un fs [] (L2.hide D H) H' h h') (hD:∀ b∈D,∃ φ,H b=some (.ext φ)):Un fs [] H (L2.cH D H H') h h' where
 keep:=fun b o q n=>u.keep b o q (rM n)
 slot:=fun b o q n=>u.slot b o q (rM n)
 free:=fun b o q n hx=>by
  have:b ∉ D:=fun z=>by obtain ⟨φ,e⟩:=hD b z;rw [n] at e;cases e
  rw [jZ this];exact u.free b o q (rM n) hx
 there:=u.there
 fb:=fun b xs q=>by
  have hb:=tP hD (by nofun) q;rw [jZ hb];exact u.fb b xs (by rw [jB hb];exact q)
 eM:=fun b o v q=>by
  have hb:=tP hD (by nofun) q;rw [jZ hb];exact u.eM b o v (by rw [jB hb];exact q)
 eT:=fun b ps q=>by
  have hb:=tP hD (by nofun) q;rw [jZ hb];exact u.eT b ps (by rw [jB hb];exact q)
def bD.cH {fs:List Addr} (u:Un fs [] (L2.hide D H) H' s.heap s'.heap) (qO:bD P w H s.heap) (au:bD P w H' s'.heap) (hD:∀ b∈D,∃ φ,H b=some (.ext φ)) (hf:∀ b∈D,b ∉ fs):bD P w (L2.cH D H H') s'.heap:=fun a o e=>by
 by_cases ha:a∈D
 ·rw [JV ha] at e;obtain ⟨φ,h⟩:=hD a ha;rw [h] at e;cases e;obtain ⟨h1,⟨o,ho⟩,h3⟩:=qO a _ h;have k:=u.keep a o ho (uV ha) (hf a ha) (by simp);exact ⟨h3 _ _ h1 fun o' e'=>by rw [ho] at e';cases e';exact k,⟨o,k⟩,h3⟩
 ·rw [jZ ha] at e;have off:∀ {c:Addr} {v:HO},H' c=some v->c ∉ D:=fun {c v} q z=>by
   obtain ⟨φ,h⟩:=hD c z;obtain ⟨_,⟨o,ho⟩,_⟩:=qO c _ h;have:=u.free c o ho (uV z) (by simp);rw [q] at this;cases this
  exact (au a o e).gX (fun _ _ _ q=>q) (fun c q=>by rw [jZ (off q)];exact q) fun c xs q=>by rw [jZ (off q)];exact q
def CR.cH {Q Q':VK} {E E':XK} {r:Result} (h:CR (aR P w) outer P w (L2.hide D H) s Q' E' r s') (qO:bD P w H s.heap) (hD:∀ b∈D,∃ φ,H b=some (.ext φ)) (hf:∀ b∈D,b ∉ bK outer) (hq:∀ v H',Q' v H'->Q v (L2.cH D H H')) (he:∀ C od H',E' C od H'->E C od (L2.cH D H H')) :
  CR (aR P w) outer P w H s Q E r s':=by
 cases r with
 | ok fl =>
  cases fl with
  | ret u =>
   obtain ⟨v,H',os,bare,un,au,rv,q⟩:=h;exact ⟨v,_,os,bare,Un.cH un hD,bD.cH un qO au hD hf,rv,hq v H' q⟩
  | next=>exact False.elim h
  | brk=>exact False.elim h
  | cont=>exact False.elim h
 | error e =>
  obtain ⟨ea,C,od,H',rfl,F,q⟩:=h;have ex:∀ b∈D,∃ o,s.heap.get? b=some o:=fun b hb=>by
   obtain ⟨φ,h⟩:=hD b hb;exact (qO b _ h).2.1
  have EX:ea ∉ D:=fun z=>by
   obtain ⟨o,ho⟩:=ex ea z;rw [F.new] at ho;cases ho
  refine ⟨ea,C,od,_,rfl,⟨F.os,F.bare,Un.cH F.un hD,bD.cH F.un qO F.au hD hf,by rw [jZ EX];exact F.free,F.new,F.hd,?_⟩,he _ _ _ q⟩;obtain ⟨B,a0,fl,cv⟩:=F.Bh;refine ⟨B,a0,fl,fun b o e hb z=>cv b o e hb ?_⟩;by_cases hbD:b∈D
  ·exact .inl (ex b hbD)
  ·rw [jZ hbD] at z;exact z
end
structure wb (P:Program) (w:World) (K:ν) (mg:Str->Option Value) (base:Heap) (k:Nat) (q:Str) (l:Lm) (W:List V->bE) (N':List Str):Prop where
 S:oA N' l.scope l.bY
 all:∀ x c,l.bY.lookup x=some c->x∈N'
 bind:∀ pm cd ct,bindArgs (PySem.W.kla_fn "<lambda>" q l.params l.body l.scope l.bY pm cd ct) ⟨[],[]⟩=pure []
 body:∀ (f:Addr) (cdv:Value) (vs:List V) (A:Around) (outer:List Env) (s:Shared) (H:Hp) (Q:VK) (E:XK),bc k (A.deeper (PySem.W.envX q l.scope s.heap.objs.size f cdv l.bY))->W vs H Q E ->
   ∃ t,PE (kD P w K mg base N' q l.scope f cdv l.bY A outer s H E) l.body t/\t (vs.map some) H Q
structure wG (q:Str) (l:Lm) (c:Addr) (N':List Str) (vs:List V) (H:Hp) (f:Addr):Prop where
 hf:H f=some (et f q l c)
 hc:H c=some (iA c q)
 len:vs.length=N'.length
 on:∀ (i:Nat) (x:Str),N'[i]?=some x->∃ ci v,l.bY.lookup x=some ci/\vs[i]?=some v/\H ci=some (om ci v)
def fU (l:Lm):List Addr:=l.bY.filterMap fun p=>l.bY.lookup p.1
def uZ {l:Lm} {b:Addr}:b∈fU l ↔ ∃ x,l.bY.lookup x=some b:=by
 unfold fU;rw [_q];constructor
 ·rintro ⟨p,_,e⟩;exact ⟨p.1,e⟩
 ·rintro ⟨x,e⟩;exact ⟨(x,b),Db e,e⟩
def FX (f c:Addr) (q:Str) (l:Lm) (N':List Str) (vs:List V) (W:List V->bE):bE:=fun H Q E=>wG q l c N' vs H f/\W vs (hide (fU l) H) (fun v H'=>Q v (cH (fU l) H H')) (fun C od H'=>E C od (cH (fU l) H H'))
def aa4 {P:Program} {w:World} {K:ν} {mg:Str->Option Value} {base:Heap} {k:Nat} {s1:Shared} {f c:Addr} {q:Str} {l:Lm} {N':List Str} {vs:List V} {W:List V->bE} (O:wb P w K mg base k q l W N') :
  lC P w K mg base (k+1) s1 (fun _=>False) f (FX f c q l N' vs W):=by
 intro A outer s H Q E hr e0 _ hw;obtain ⟨⟨hf,hc,hl,on⟩,hW⟩:=hw;have row:∀ x ci,l.bY.lookup x=some ci->∃ i v,N'[i]?=some x/\vs[i]?=some v/\H ci=some (om ci v):=fun x ci e=>by
  obtain ⟨i,hi⟩:=_G (O.all x ci e);obtain ⟨ci',v,e1,e2,e3⟩:=on i x hi;rw [e] at e1;cases e1;exact ⟨i,v,hi,e2,e3⟩
 have hD:∀ b∈fU l,∃ φ,H b=some (.ext φ):=fun b hb=>by
  obtain ⟨x,e⟩:=uZ.mp hb;obtain ⟨i,v,_,_,e3⟩:=row x b e;exact ⟨_,e3⟩
 have cellAt:∀ b∈fU l,∃ o v,s.heap.get? b=some o/\o.data=.cell v:=fun b hb=>by
  obtain ⟨x,e⟩:=uZ.mp hb;obtain ⟨i,v,_,_,e3⟩:=row x b e;obtain ⟨⟨u,_,o,h1,h2⟩,_⟩:=e0.au b _ e3;exact ⟨o,_,h1,h2⟩
 have nf:f ∉ fU l:=fun z=>by
  obtain ⟨o,v,h1,h2⟩:=cellAt f z;obtain ⟨⟨pm,ct,e⟩,_⟩:=e0.au f _ hf;rw [h1] at e;cases e;cases h2
 have nc:c ∉ fU l:=fun z=>by
  obtain ⟨o,v,h1,h2⟩:=cellAt c z;obtain ⟨⟨c',o',vs',t,e1,e2,e3,_⟩,_⟩:=e0.au c _ hc;cases e1;rw [h1] at e2;cases e2;rw [h2] at e3;cases e3
 have D:=HA (P:=P) (w:=w) (K:=K) (mg:=mg) (base:=base) (k:=k) (s1:=s) (B:=(·∈fU l)) (f:=f) (wish:=fun H' Q' E'=>H' f=some (et f q l c)/\H' c=some (iA c q)/\W vs H' Q' E') (N:=N') (vs:=vs) (name := "<lambda>") (qual:=q) (params:=l.params) (body:=l.body) (scope:=l.scope) (cl:=l.bY) (cdv:=.ref c) O.S
  (fun s' H' Q' E' au _ h=>by obtain ⟨⟨pm,ct,e⟩,_⟩:=au f _ h.1;exact ⟨_,pm,ct,e,rfl⟩) (fun H' Q' E' h=>⟨c,rfl,h.2.1⟩) (fun x ci e=>uZ.mpr ⟨x,e⟩) hl
  (fun x ci e=>by
   obtain ⟨i,v,_,_,e3⟩:=row x ci e;obtain ⟨⟨u,_,h⟩,_⟩:=e0.au ci _ e3;exact ⟨_,h⟩)
  (fun i x v h1 h2=>by
   obtain ⟨ci,v',e1,e2,e3⟩:=on i x h1;rw [h2] at e2;cases e2;obtain ⟨⟨u,r,h⟩,_⟩:=e0.au ci _ e3;exact ⟨ci,u,e1,r,h⟩) (fun _ _=>O.bind _ _ _) (fun A outer s H Q E r h=>O.body f (.ref c) vs A outer s H Q E r h.2.2)
 refine Uf (D A outer s (hide (fU l) H) _ _ hr (hU.hide e0 hD) (fun b o hb e=>⟨e,uV hb⟩) ⟨by rw [jB nf];exact hf,by rw [jB nc];exact hc,hW⟩) fun r s' h=>?_;exact CR.cH h e0.au hD (fun b hb z=>by
  obtain ⟨φ,h⟩:=hD b hb;rw [e0.g8 b z] at h;cases h) (fun v H' q=>q) fun C od H' q=>q
def Ze (q:Str) (T:Lm->List Str->(List V->bE)->Prop):St->Addr->bE->Prop:=fun _ f wish=>∃ l c N' vs W,T l N' W/\wish=FX f c q l N' vs W
def RW {X:Cx} {k:Nat} {q:Str} {T:Lm->List Str->(List V->bE)->Prop} (hT:∀ l N' W,T l N' W->wb X.prog X.w X.K X.mg X.base k q l W N'):HD X (k+1) (fun _=>False) (Ze q T):=by
 rintro π s σ H f wish I ⟨l,c,N',vs,W,t,rfl⟩;exact ⟨aa4 (hT _ _ _ t),fun b hb=>hb.elim,fun H Q E z=>funAt z.1.hf⟩
def Ve (X:Cx) (π:List (Addr×Obj)) (R:St->VK) (f:Flow) (s':Shared):Prop :=
 match f with
 | .ret u=>∃ v σ' H',Inv X π σ' H' s'/\RelV v u/\R σ' v H'
 | _=>False
abbrev TR:=(St->VK)->St->Hp->Prop
structure QR (X:Cx) (st:List Stmt) (t:TR):Prop where
 h:∀ (π:List (Addr×Obj)) (s:Shared) (σ:St) (H:Hp) (R:St->VK),Inv X π σ H s->t R σ H->wpAny (model X.prog X.w) X.A (execs st X.env) (Ve X π R) X.xe s
def Hf (te:TE):TR:=fun R σ H=>te σ H (R σ)
def BO (t:TS) (u:TR):TR:=fun R σ H=>∃ P:St->Hp->Prop,t { nx:=P,rt:=fun _ _=>False } σ H/\∀ σ' H',P σ' H'->u R σ' H'
def Dv.Sh {X:Cx} {e:Expr} {te:TE} {pos:Pos} (he:QE X e te):QR X [.Return (some e) pos] (Hf te):=by
 refine ⟨fun π s σ H R I h=>_Z (wpAny_Return_some (aC (he.h π s σ H _ I h) fun v s1 ⟨x,H1,I1,r1,q1⟩=>?_))⟩;exact ⟨x,σ,H1,I1,r1,q1⟩
def Dv.lA {X:Cx} {st:Stmt} {rest:List Stmt} {t:TS} {u:TR} (h1:QS X st t) (h2:QR X rest u):QR X (st::rest) (BO t u):=by
 refine ⟨fun π s σ H R I h=>?_⟩;obtain ⟨P,ht,hu⟩:=h;refine _Z (aC (h1.h π s σ H { nx:=P,rt:=fun _ _=>False } I ht) fun f s1 q=>?_);cases f with
 | next =>
  obtain ⟨σ',H',I',q⟩:=q;exact h2.h π s1 σ' H' R I' (hu σ' H' q)
 | ret v=>obtain ⟨_,_,_,_,_,q⟩:=q;exact q.elim
 | brk=>obtain ⟨_,_,_,q⟩:=q;exact q.elim
 | cont=>obtain ⟨_,_,_,q⟩:=q;exact q.elim
structure rl (X:Cx) (σ:St) (H H'':Hp):Prop where
 off:∀ b,(∀ x,X.env.cells.lookup x≠some b)->H'' b=H b
 on:∀ (i:Nat) (x:Str) (v:V) (c:Addr),X.N[i]?=some x->σ[i]?=some (some v)->X.env.scope.names.lookup x=some .cell->X.env.cells.lookup x=some c->H'' c=some (om c v)
 new:∀ x c,X.env.cells.lookup x=some c->H c=none
 has:∀ x,X.env.scope.names.lookup x=some .cell->∃ c,X.env.cells.lookup x=some c
def XY {X:Cx} {π:List (Addr×Obj)} {σ:St} {H:Hp} {s:Shared} (I:Inv X π σ H s) (nd:X.N.Nodup) (iM:X.fn=fun _=>true) (hex:X.ex=[]):∃ H'',rl X σ H H''/\Un X.fs [] X.H₀ H'' X.s₀.heap s.heap/\bD X.prog X.w H'' s.heap:=by
 let C:Addr->V->Prop:=fun b v=>∃ (i:Nat) (x:Str),X.N[i]?=some x/\σ[i]?=some (some v)/\X.env.scope.names.lookup x=some .cell/\X.env.cells.lookup x=some b
 have uq:∀ b v v',C b v->C b v'->v=v':=fun b v v' ⟨i,x,h1,h2,_,h4⟩ ⟨i',x',h1',h2',_,h4'⟩=>by
  obtain rfl:=I.ok.inj x x' b h4 h4';obtain ⟨hi,e⟩:=sK.mp h1;obtain ⟨hi',e'⟩:=sK.mp h1';have:i=i':=(List.getElem_inj nd).mp (e.trans e'.symm);subst this;rw [h2] at h2';cases h2';rfl
 have fr:∀ x c,X.env.cells.lookup x=some c->H c=none:=I.eW
 classical
 let H'':Hp:=fun b=>if h:∃ v,C b v then some (om b h.choose) else H b
 have NL:∀ b v,C b v->H'' b=some (om b v):=fun b v h=>by
  have h':∃ v,C b v:=⟨v,h⟩;show (if h:∃ v,C b v then some (om b h.choose) else H b)=_;rw [dif_pos h',uq b _ v h'.choose_spec h]
 have xX:∀ b,(¬ ∃ v,C b v)->H'' b=H b:=fun b h=>dif_neg h;have cs:∀ b v,C b v->H b=none:=fun b v ⟨i,x,_,_,_,h4⟩=>fr x b h4;have keep:∀ b o,H b=some o->H'' b=some o:=fun b o e=>by
  rw [xX b fun ⟨v,h⟩=>by rw [cs b v h] at e;cases e];exact e
 refine ⟨H'',⟨fun b hb=>xX b fun ⟨v,i,x,_,_,_,h4⟩=>hb x h4,fun i x v c h1 h2 h3 h4=>NL c v ⟨i,x,h1,h2,h3,h4⟩,fr,fun x h=>I.ok.has x (.inl h)⟩,⟨fun b o q n hb hx=>I.base.keep b o q n hb (by rw [hex];simp),fun b o q n hb hx=>I.base.slot b o q n hb (by rw [hex];simp),fun b o q n hx=>?_,fun b o q hx=>I.base.there b o q (by rw [hex];simp),fun b xs q=>keep _ _ (I.base.fb b xs q),fun b o u q=>keep _ _ (I.base.eM b o u q),fun b ps q=>let ⟨m,e⟩:=I.base.eT b ps q;⟨m,keep _ _ e⟩⟩,fun a o e=>?_⟩
 ·rw [xX b fun ⟨v,i,x,_,_,_,h4⟩=>by
   have:=I.ok.jn x b (by rw [iM]) h4;exact absurd (wS (sB q) this) (GE _)]
  exact I.base.free b o q n (by rw [hex];simp)
 ·by_cases ha:∃ v,C a v
  ·obtain ⟨v,hv⟩:=ha;rw [NL a v hv] at e;cases e;obtain ⟨i,x,h1,h2,h3,h4⟩:=hv;obtain ⟨m,hn,hl⟩:=I.loc;obtain ⟨u,r,l⟩:=hl i x v h1 h2 (.inr (.inl h3));rcases l with ⟨hk',_⟩ | ⟨_,c',e5,e6⟩
   ·have:X.env.scope.names.lookup x=some .local:=hk';rw [h3] at this;cases this
   ·rw [h4] at e5;cases e5;exact adT r e6
  ·rw [xX a ha] at e;exact (I.au a o e).gX (fun _ _ _ q=>q) (fun c q=>keep _ _ q) fun c xs q=>keep _ _ q
def eK.Ut {P:Program} {w:World} {K:ν} {mg:Str->Option Value} {base:Heap} {CX:dj} {x qual:Str} {st:Stmt} {f:Addr} {fd:FuncData} {N ps:List Str} {k:Nat} {sp:Sp} (F:eK K x qual st f fd) (S:aF N ps (ax st)) (len:∀ vs H Q E,sp vs H Q E->vs.length=ps.length)
  (hb:∀ (cdv:Value) (A:Around) (outer:List Env) (s:Shared) (H:Hp) (vs:List V) (Q:VK) (E:XK),fd.code=cdv->bc k (A.deeper (envOfC qual (ax st) s.heap.objs.size f cdv))->sp vs H Q E ->
   ∃ t,QR (c7 CX P w K mg base N qual (ax st) f cdv A outer s H E) (aN st) t/\t (fun σ' v H'=>∀ H'',rl (c7 CX P w K mg base N qual (ax st) f cdv A outer s H E) σ' H' H''->Q v H'') (start N vs) H):aq P w K mg base CX (k+1) f fd ps sp:=by
 obtain ⟨oc,od,kV,doc,pm,an,cdv,ct,dq,rfl,lk,aV⟩:=F.ex;refine ⟨len,fun A outer s H args us vs Q E hr e0 hb' r dm=>?_⟩;have hl:=len _ _ _ _ dm;have KX:K.In s.heap:=e0.mod.gS.keeps fun b o e=>(e0.bs b o e).1;have lim:s.heap.NoLimit:=e0.mod.nolimit.keeps fun b o e=>(e0.bs b o e).1;have uO:∀ y∈ps.zip us,(ax st).names.lookup y.1=some .local\/((ax st).names.lookup y.1=some .cell/\((cellsFrom (s.heap.objs.size+1) (ax st).names []).lookup y.1).isSome=true):=fun ⟨n,v⟩ hy=>by
  rcases S.par n (_Q hy).1 with q | q
  ·exact .inl q
  ·exact .inr ⟨q,_s _ _ _ (.inl q)⟩
 refine _X hr.depth (KX _ _ lk) rfl S.co S.gen rfl (Jac KX aV) (hb' _ _ _ _ ?_);refine _A S.kind uO fun env he s1 x=>?_;subst he;refine ⟨lim.keeps x.toInCall.keep,codeAny_func ?_⟩;obtain ⟨t,ht,hq⟩:=hb cdv A outer s H vs Q E rfl (hr.deeper _) dm;have I:Inv (c7 CX P w K mg base N qual (ax st) f cdv A outer s H E) [] (start N vs) H s1:=yU S hr.hd e0 hl r x;refine GT (ht.h [] s1 (start N vs) H _ I hq) (fun fl s' hs=>?_) fun e s' hs=>hs;cases fl with
 | ret u =>
  obtain ⟨v,σ',H',J,rv,q⟩:=hs;obtain ⟨H'',ec,un,au⟩:=XY J S.nd rfl rfl;exact ⟨v,H'',J.os,J.bare,un,au,rv,q H'' ec⟩
 | next=>exact False.elim hs
 | brk=>exact False.elim hs
 | cont=>exact False.elim hs
def Dv.aaA {X:Cx} {o e f:Expr} {apos bj:Pos} {td ty tx:TE} (hu:X.A.units+1 < cLine) (ho:QE X o td) (he:QE X e ty) (hf:QE X f tx) (m:M2 X o "get" apos e f bj:=by exact ⟨rfl,rfl,rfl,rfl⟩):QE X (.Call (.Attribute o "get" apos) [e,f] [] bj) (AM td ty tx):=⟨Rg hu ho.h he.h hf.h m⟩
def rl.same {X:Cx} {σ:St} {H H'':Hp} (e:rl X σ H H''):∀ b o,H b=some o->H'' b=some o:=fun b o h=>by
 rw [e.off b fun x z=>by rw [e.new x b z] at h;cases h];exact h
def abF {X:Cx} {N':List Str} {ix:List Nat} {q:Str} {l:Lm} {σ:St} {vs:List V} {H H'':Hp} {f c:Addr} (C:qb X N' ix l.bY) (hC:fD ix σ vs) (ec:rl X σ H H'') (hf:H f=some (et f q l c)) (hc:H c=some (iA c q)):wG q l c N' vs H'' f:=by
 refine ⟨ec.same _ _ hf,ec.same _ _ hc,by rw [hC.1,C.len],fun i x h=>?_⟩;have hi:i < ix.length:=by
  have:=(sK.mp h).1;rw [C.len];exact this
 obtain ⟨z,e1,e2,e3⟩:=C.at' i _ (mo hi);rw [h] at e1;cases e1;obtain ⟨ci,e4⟩:=ec.has x e3;have hv:i < vs.length:=by rw [hC.1];exact hi
 have e5:=hC.2 i _ _ (mo hi) (mo hv);exact ⟨ci,vs[i],by rw [C.zp x (KM h)];exact e4,mo hv,ec.on _ _ _ _ e2 e5 e3 e4⟩
def VU {l:Lm} {c:Addr} {q:Str} {N':List Str} {vs:List V} {H:Hp} {f:Addr} (h:wG q l c N' vs H f) (all:∀ x c,l.bY.lookup x=some c->x∈N'):∀ b o,(∀ φ,o≠.ext φ)->H b=some o->hide (fU l) H b=some o:=fun b o no e=>by
 rw [jB fun z=>by
  obtain ⟨x,hx⟩:=uZ.mp z;obtain ⟨i,hi⟩:=_G (all x b hx);obtain ⟨ci,v,e1,_,e3⟩:=h.on i x hi;rw [hx] at e1;cases e1;rw [e3] at e;cases e;exact no _ rfl]
 exact e
def acf {D:List Addr} {H H':Hp} (s:∀ b o,hide D H b=some o->H' b=some o):∀ b o,H b=some o->cH D H H' b=some o:=fun b o e=>by
 by_cases h:b∈D
 ·rw [JV h];exact e
 ·rw [jZ h];exact s b o (by rw [jB h];exact e)
def Yc {X:Cx} {b:List Stmt} {t:TR} {R:St->VK} {σ:St} {H:Hp} (h:QR X b t) (q:t R σ H):∃ t,QR X b t/\t R σ H:=⟨t,h,q⟩
def II {t:TS} {u:TR} {R:St->VK} {σ:St} {H:Hp} (h:t { nx:=u R,rt:=fun _ _=>False } σ H):BO t u R σ H:=⟨u R,h,fun _ _ z=>z⟩
end L2
set_option maxHeartbeats 0
namespace L2.bL
open PySem PySem.Spec PyProof.Rows
local macro_rules | `(tactic| walk_at "s")=>`(tactic| exact ⟨rfl,rfl,rfl,by decide +kernel,rfl,by decide +kernel,by decide +kernel⟩)
abbrev e_ (N:List Str) (s:Stmt):Prop:=aF N N (ax s)
abbrev _root_.L2.FT.k {K:ν} {mg:Str->Option Value} {a b:Str} {st:Stmt} {ps:List Str} (t:FT K mg a b st ps) (P:Program) (w:World) (base:Heap) (n:Nat) (q:Sp):Prop:=aq P w K mg base aP n t.f t.d ps q
abbrev _root_.L2.MT.k {K:ν} {C:Addr} {a b:Str} {st:Stmt} {ps:List Str} (t:MT K C a b st ps) (P:Program) (w:World) (mg:Str->Option Value) (base:Heap) (n:Nat) (q:Sp):Prop:=aq P w K mg base aP n t.f t.d ps q
def top (i:Nat):Stmt:=PySem.Challenge.pw_leadnames_k48_at_each_door.main.body.getD i (.Pass ⟨0,0,0,0⟩)
abbrev Jh:=top 15
abbrev IU:=top 16
abbrev FU:=top 17
abbrev Ba:=top 18
abbrev Fu:=top 29
abbrev L9:=top 30
abbrev Mm:=top 31
abbrev LY:=top 32
abbrev J5:=top 33
abbrev Mu:=top 34
abbrev ze:=top 35
abbrev Lr:=top 36
abbrev JG:=top 37
abbrev J7:=top 38
abbrev vh:=top 39
abbrev Dd:=top 53
abbrev VW:=top 54
abbrev zE:=top 55
abbrev Cj:=top 56
abbrev sG:=top 57
abbrev yK:=top 60
abbrev xb:=top 61
abbrev wk:=top 62
abbrev C2:=top 63
abbrev Ai:=top 64
abbrev zM:=top 66
abbrev yJ:=top 67
abbrev C5:=top 68
abbrev Be:=top 69
abbrev De:=top 70
abbrev z9:=top 71
abbrev DG:=top 74
abbrev B1:=top 75
abbrev nZ:=top 76
abbrev ng:=top 77
abbrev vj:=top 78
abbrev yC:=top 79
abbrev yG:=top 80
abbrev C7:=top 81
abbrev zA:=top 82
abbrev yR:=top 83
abbrev AQ:=top 84
abbrev Jf:=top 89
abbrev HR:=top 90
abbrev FY:=top 91
abbrev JZ:=top 92
abbrev Dq:=top 93
abbrev CO:=top 94
abbrev zW:=top 95
abbrev rX:=top 96
abbrev BV:=top 97
abbrev xv:=top 98
abbrev qz:=top 99
abbrev tV:=top 100
def aax:e_ ["house","folder"] Jh:=by walk_at "s"
def zN:aF ["house","folder","base"] ["house","folder"] (ax IU):=by walk_at "s"
def Fh:aF ["house","folder","stack"] ["house","folder"] (ax FU):=by walk_at "s"
def nK:aF ["house","asker","folder","root","here","stack","place"] ["house","asker","folder"] (ax Ba):=by walk_at "s"
def aaJ:e_ ["number"] Fu:=by walk_at "s"
def PK:e_ ["text"] L9:=by walk_at "s"
def GR:e_ ["text"] Mm:=by walk_at "s"
def Kb:e_ ["text"] LY:=by walk_at "s"
def UZ:e_ ["text"] J5:=by walk_at "s"
def vb:aF ["path","parts"] ["path"] (ax Mu):=by walk_at "s"
def LR:e_ ["text"] ze:=by walk_at "s"
def Jw:e_ ["text"] Lr:=by walk_at "s"
def R0:e_ ["text"] JG:=by walk_at "s"
def Gj:e_ ["text"] J7:=by walk_at "s"
def IB:e_ ["path"] vh:=by walk_at "s"
def qI:aF ["house","asker","folder","root","names","stack","place"] ["house","asker","folder"] (ax Dd):=by walk_at "s"
def Il:aF ["house","asker","from_root","parts","last","ended"] ["house","asker","from_root","parts","last"] (ax zE):=by walk_at "s"
def IL:aF ["house","asker","path","last","read"] ["house","asker","path","last"] (ax Cj):=by walk_at "s"
def aby:e_ ["house","asker","path","last"] sG:=by walk_at "s"
def Xv:e_ ["house","asker","path","other"] yK:=by walk_at "s"
def vW:aF ["path","parts"] ["path"] (ax xb):=by walk_at "s"
def pZ:aF ["house","asker","path","asked","ended"] ["house","asker","path"] (ax wk):=by walk_at "s"
def aaP:e_ ["house","seat"] C2:=by walk_at "s"
def P4:e_ ["told"] Ai:=by walk_at "s"
def V1:e_ ["house","asker","path"] zM:=by walk_at "s"
def J1:aF ["house","asker","path","number"] ["house","asker","path"] (ax yJ):=by walk_at "s"
def Mc:aF ["house","asker","path","number"] ["house","asker","path"] (ax C5):=by walk_at "s"
def Rp:e_ ["house","asker","number","right","reason"] Be:=by walk_at "s"
def Qd:e_ ["house","asker","folder"] De:=by walk_at "s"
def aaM:e_ ["house","seat"] z9:=by walk_at "s"
def KP:aF ["house","asker","path","seat"] ["house","asker","path"] (ax DG):=by walk_at "s"
def Y4:e_ ["house","seat","number"] B1:=by walk_at "s"
def wj:aF ["house","asker","path","mine","rest","seat"] ["house","asker","path","mine","rest"] (ax nZ):=by walk_at "s"
def vF:aF ["house","asker","path","text","mine","rest","seat"] ["house","asker","path","text","mine","rest"] (ax ng):=by walk_at "s"
def v7:aF ["house","asker","path","lead","seat"] ["house","asker","path","lead"] (ax vj):=by walk_at "s"
def Zp:aF ["house","asker","path","other","number","seat"] ["house","asker","path","other"] (ax yC):=by walk_at "s"
def Gr:aF ["house","asker","path","seat","number"] ["house","asker","path"] (ax yG):=by walk_at "s"
def Up:aF ["house","asker","path","mine","rest","number"] ["house","asker","path","mine","rest"] (ax C7):=by walk_at "s"
def JJ:aF ["house","asker","path","number"] ["house","asker","path"] (ax zA):=by walk_at "s"
def ZQ:aF ["house","asker","path","text","number"] ["house","asker","path","text"] (ax yR):=by walk_at "s"
def J8:aF ["house","asker","path","number"] ["house","asker","path"] (ax AQ):=by walk_at "s"
def Wv:e_ ["_law_script","_law_k"] Jf:=by walk_at "s"
def z0:aF ["_law_cell","_law_k","_law_number"] ["_law_cell","_law_k"] (ax HR):=by walk_at "s"
def O7:e_ ["_law_cell"] FY:=by walk_at "s"
def HE:aF ["_law_source_here","_law_size","_law_found"] ["_law_source_here","_law_size"] (ax JZ):=by walk_at "s"
def Cq:aF ["_law_house","_law_found","_law_number"] ["_law_house"] (ax Dq):=by walk_at "s"
def jl:aF ["_law_ask","_law_error","e","_law_some","_law_words","_law_found"] ["_law_ask"] (ax CO):=by walk_at "s"
def rF:aF ["_law_source_here","_law_word","_law_some"] ["_law_source_here","_law_word"] (ax zW):=by walk_at "s"
def LB:aF ["_law_house","_law_way","_law_asker","_law_path","_law_other","_law_mine","_law_rest","_law_text","_law_some"] ["_law_house","_law_way","_law_asker","_law_path","_law_other","_law_mine","_law_rest","_law_text"] (ax rX):=by walk_at "s"
def VY:e_ ["_law_way","_law_word"] BV:=by walk_at "s"
def eO:aF ["_law_house","_law_source_here","_law_way","_law_words","_law_amiss","_law_asker","_law_path","_law_other","_law_mine","_law_rest","_law_text","_law_ahead","_law_found"] ["_law_house","_law_source_here"] (ax xv):=by walk_at "s"
def oF:aF ["_law_house","_law_cell","_law_asker","_law_number","_law_name","_law_right_here","_law_tree","_law_some"] ["_law_house","_law_cell"] (ax qz):=by walk_at "s"
def zm:aF ["_law_script","_law_house","_law_cell"] ["_law_script"] (ax tV):=by walk_at "s"
abbrev HY:=inClass (top 12) 0
def ZA:e_ ["self","told"] HY:=by walk_at "s"
abbrev JP:=inClass (top 13) 0
def Tp:e_ ["self","reason"] JP:=by walk_at "s"
abbrev Ju:=inClass (top 44) 0
def ZR:e_ ["self","number","kind","owner","mine","rest","text"] Ju:=by walk_at "s"
abbrev Gp:=inClass (top 44) 1
def adg:e_ ["self","asker"] Gp:=by walk_at "s"
abbrev FK:=inClass (top 45) 0
def ada:e_ ["self"] FK:=by walk_at "s"
abbrev Ki:=inClass (top 45) 1
def LP:aF ["self","kind","owner","mine","rest","text","number"] ["self","kind","owner","mine","rest","text"] (ax Ki):=by walk_at "s"
abbrev JD:=inClass (top 45) 2
def Tw:e_ ["self","owner","mine","rest"] JD:=by walk_at "s"
abbrev Jg:=inClass (top 45) 3
def YV:e_ ["self","owner","text","mine","rest"] Jg:=by walk_at "s"
abbrev GN:=inClass (top 45) 4
def Zo:e_ ["self","owner","path"] GN:=by walk_at "s"
abbrev Gn:=inClass (top 45) 5
def Ro:e_ ["self"] Gn:=by walk_at "s"
abbrev GO:=inClass (top 45) 6
def adE:e_ ["self","number"] GO:=by walk_at "s"
abbrev DA:=inClass (top 45) 7
def MB:e_ ["self","folder","name"] DA:=by walk_at "s"
abbrev yO:=inClass (top 45) 8
def Hv:e_ ["self","number"] yO:=by walk_at "s"
abbrev BD:=inClass (top 45) 9
def IH:e_ ["self","number"] BD:=by walk_at "s"
abbrev yZ:=inClass (top 45) 10
def Fo:e_ ["self","number"] yZ:=by walk_at "s"
abbrev FN:=inClass (top 45) 13
def wK:aF ["self","folder","name","number","thing","former","known"] ["self","folder","name","number"] (ax FN):=by walk_at "s"
abbrev IK:=inClass (top 45) 14
def Ka:aF ["self","folder","name","number"] ["self","folder","name"] (ax IK):=by walk_at "s"
abbrev K9:=inClass (top 49) 0
def T5:e_ ["self","number","way"] K9:=by walk_at "s"
abbrev aav:=inClass (top 50) 0
abbrev OY:=inClass (top 51) 0
abbrev Bb:=inClass (top 52) 0
def ZV:e_ ["self","house","asker","last"] Bb:=by walk_at "s"
abbrev zR:=inClass (top 52) 1
def Hm:aF ["self","from_root","parts","start"] ["self","from_root","parts"] (ax zR):=by walk_at "s"
abbrev BA:=inClass (top 52) 2
def JC:aF ["self","part"] ["self"] (ax BA):=by walk_at "s"
abbrev Jn:=inClass (top 52) 3
def BU:e_ ["self","reason"] Jn:=by walk_at "s"
abbrev AY:=inClass (top 52) 4
def abD:e_ ["self","part"] AY:=by walk_at "s"
abbrev HF:=inClass (top 52) 5
def ON:aF ["self","stack"] ["self"] (ax HF):=by walk_at "s"
abbrev BG:=inClass (top 52) 6
def Ae:aF ["self","name","number","kind"] ["self","name"] (ax BG):=by walk_at "s"
abbrev Ft:=inClass (top 52) 7
def Ub:e_ ["self","number"] Ft:=by walk_at "s"
abbrev P7:=inClass (top 52) 8
abbrev DC:=inClass (top 52) 9
def tH:aF ["self","names","folder"] ["self"] (ax DC):=by walk_at "s"
abbrev Hy:=inClass (top 59) 0
def aay:e_ ["self","folder","name"] Hy:=by walk_at "s"
abbrev Ko:=inClass (top 87) 0
def Pn:e_ ["self","owner"] Ko:=by walk_at "s"
abbrev IJ:=inClass (top 87) 1
def YW:e_ ["self","name"] IJ:=by walk_at "s"
abbrev Aw:=inClass (top 87) 4
def Ir:e_ ["self","asker"] Aw:=by walk_at "s"
abbrev B9:=inClass (top 87) 5
def Md:e_ ["self","asker"] B9:=by walk_at "s"
abbrev Bz:=inClass (top 87) 6
def FH:e_ ["self","number"] Bz:=by walk_at "s"
abbrev Az:=inClass (top 87) 7
def Mn:e_ ["self","number"] Az:=by walk_at "s"
abbrev Bk:=inClass (top 87) 8
def xy:aF ["self","number","thing"] ["self","number"] (ax Bk):=by walk_at "s"
abbrev KO:=inClass (top 87) 9
def aaV:e_ ["self"] KO:=by walk_at "s"
abbrev uR:=inClass (top 87) 10
def Gi:e_ ["self","number","name"] uR:=by walk_at "s"
abbrev Bt:=inClass (top 87) 11
def Ht:e_ ["self","number"] Bt:=by walk_at "s"
abbrev BL:=inClass (top 87) 12
def Mp:e_ ["self","number"] BL:=by walk_at "s"
abbrev Cy:=inClass (top 87) 13
def Jp:e_ ["self","number"] Cy:=by walk_at "s"
abbrev Cp:=inClass (top 87) 14
def Ll:e_ ["self","number"] Cp:=by walk_at "s"
abbrev CQ:=inClass (top 87) 15
def aas:e_ ["self","tree"] CQ:=by walk_at "s"
abbrev CP:=inClass (top 87) 16
def R4:e_ ["self","tree"] CP:=by walk_at "s"
abbrev Im:=inClass (top 87) 17
def aa7:e_ ["self","asker","number","right"] Im:=by walk_at "s"
abbrev Kl:=inClass (top 87) 23
def acH:e_ ["self","asker"] Kl:=by walk_at "s"
abbrev Cs:=inClass (top 87) 24
def ab6:e_ ["self","tree"] Cs:=by walk_at "s"
abbrev JT:=inClass (top 87) 25
def Z5:e_ ["self","number"] JT:=by walk_at "s"
abbrev GV:=inClass (top 87) 26
def aaI:e_ ["self","name"] GV:=by walk_at "s"
abbrev GP:=inClass (top 87) 27
def V5:e_ ["self","asker","folder"] GP:=by walk_at "s"
abbrev Hl:=inClass (top 87) 28
def Ti:e_ ["self","asker","folder"] Hl:=by walk_at "s"
abbrev KL:=inClass (top 87) 29
def HS:aF ["self","tree","owner","root"] ["self","tree","owner"] (ax KL):=by walk_at "s"
set_option genInjectivity false in
set_option genSizeOf false in
structure Tx (K:ν) (mg:Str->Option Value) where
 kI:FT K mg "top_of" "top_of" Jh ["house","folder"]
 pX:FT K mg "base_of" "base_of" IU ["house","folder"]
 eY:FT K mg "stack_of" "stack_of" FU ["house","folder"]
 pR:FT K mg "is_seen" "is_seen" Ba ["house","asker","folder"]
 lI:FT K mg "is_whole" "is_whole" Fu ["number"]
 fc:FT K mg "is_name" "is_name" L9 ["text"]
 iE:FT K mg "is_rights" "is_rights" Mm ["text"]
 il:FT K mg "is_text" "is_text" LY ["text"]
 kU:FT K mg "is_part" "is_part" J5 ["text"]
 bq:FT K mg "parts_of" "parts_of" Mu ["path"]
 eg:FT K mg "check_name" "check_name" ze ["text"]
 cA:FT K mg "check_rights" "check_rights" Lr ["text"]
 pU:FT K mg "check_one_right" "check_one_right" JG ["text"]
 gj:FT K mg "check_text" "check_text" J7 ["text"]
 iF:FT K mg "check_lead" "check_lead" vh ["path"]
 pY:FT K mg "names_to" "names_to" Dd ["house","asker","folder"]
 aeg:FT K mg "from_least" "from_least" VW ["leads"]
 kZ:FT K mg "walk_parts" "walk_parts" zE ["house","asker","from_root","parts","last"]
 pa:FT K mg "walk_path" "walk_path" Cj ["house","asker","path","last"]
 {Ep:Addr}
 {yo:FuncData}
 vq:qj K "walk" "walk" sG Ep yo [.bool true]
 adn:mg "walk" = some (.ref Ep)
 IC:Binds K yo ["house","asker","path","last"] []
 AS:Binds K yo ["house","asker","path","last"] [.bool true]
 pq:FT K mg "check_paths" "check_paths" yK ["house","asker","path","other"]
 iL:FT K mg "check_seat" "check_seat" xb ["path"]
 iB:FT K mg "seat_of" "seat_of" wk ["house","asker","path"]
 pW:FT K mg "thing_at" "thing_at" C2 ["house","seat"]
 ik:FT K mg "number_found" "number_found" Ai ["told"]
 kK:FT K mg "find_any" "find_any" zM ["house","asker","path"]
 qg:FT K mg "find_file" "find_file" yJ ["house","asker","path"]
 pC:FT K mg "find_folder" "find_folder" C5 ["house","asker","path"]
 qr:FT K mg "check_may" "check_may" Be ["house","asker","number","right","reason"]
 pN:FT K mg "check_kept" "check_kept" De ["house","asker","folder"]
 pd:FT K mg "check_free" "check_free" z9 ["house","seat"]
 en:FT K mg "free_seat_of" "free_seat_of" DG ["house","asker","path"]
 ej:FT K mg "seat_thing" "seat_thing" B1 ["house","seat","number"]
 {yz:Addr}
 {qW:FuncData}
 {M6:Tok}
 {DU:Tok}
 pV:qj K "make_folder" "make_folder" nZ yz qW [.str "lgw" M6,.str "" DU]
 Gs:mg "make_folder" = some (.ref yz)
 zU:Binds K qW ["house","asker","path","mine","rest"] []
 MC:Binds K qW ["house","asker","path","mine","rest"] [.str "" DU]
 zi:Binds K qW ["house","asker","path","mine","rest"] [.str "lgw" M6,.str "" DU]
 {yi:Addr}
 {qN:FuncData}
 {Nq:Tok}
 {Ew:Tok}
 pf:qj K "make_file" "make_file" ng yi qN [.str "lgw" Nq,.str "" Ew]
 Hq:mg "make_file" = some (.ref yi)
 DD:Binds K qN ["house","asker","path","text","mine","rest"] []
 Hr:Binds K qN ["house","asker","path","text","mine","rest"] [.str "" Ew]
 Aj:Binds K qN ["house","asker","path","text","mine","rest"] [.str "lgw" Nq,.str "" Ew]
 iq:FT K mg "make_lead" "make_lead" vj ["house","asker","path","lead"]
 pF:FT K mg "name_file" "name_file" yC ["house","asker","path","other"]
 pM:FT K mg "drop" "drop" yG ["house","asker","path"]
 px:FT K mg "set_rights" "set_rights" C7 ["house","asker","path","mine","rest"]
 qw:FT K mg "read" "read" zA ["house","asker","path"]
 pK:FT K mg "write" "write" yR ["house","asker","path","text"]
 qE:FT K mg "look" "look" AQ ["house","asker","path"]
 qo:FT K mg "_law_cell_at" "_law_cell_at" Jf ["_law_script","_law_k"]
 qp:FT K mg "_law_mixed" "_law_mixed" HR ["_law_cell","_law_k"]
 pT:FT K mg "_law_source" "_law_source" FY ["_law_cell"]
 cZ:FT K mg "_law_next" "_law_next" JZ ["_law_source_here","_law_size"]
 kP:FT K mg "_law_all" "_law_all" Dq ["_law_house"]
 cy:FT K mg "_law_word_of" "_law_word_of" CO ["_law_ask"]
 eh:FT K mg "_law_bad" "_law_bad" zW ["_law_source_here","_law_word"]
 {EJ:Addr}
 {xT:FuncData}
 u7:eK K "_law_deed" "_law_deed" rX EJ xT
 Vk:mg "_law_deed" = some (.ref EJ)
 y9:Binds K xT ["_law_house","_law_way","_law_asker","_law_path","_law_other","_law_mine","_law_rest","_law_text"] []
 qD:FT K mg "_law_asks" "_law_asks" BV ["_law_way","_law_word"]
 oj:FT K mg "_law_right" "_law_right" xv ["_law_house","_law_source_here"]
 {yk:Addr}
 {ym:FuncData}
 vC:eK K "_law_questions" "_law_questions" qz yk ym
 Y7:mg "_law_questions" = some (.ref yk)
 Dy:Binds K ym ["_law_house","_law_cell"] []
 {E4:Addr}
 {yv:FuncData}
 wC:eK K "law" "law" tV E4 yv
 Yp:mg "law" = some (.ref E4)
 GX:Binds K yv ["_law_script"] []
 {ET:Addr}
 aaT:mg "DOTS" = some (.ref ET)
 Bs:∀ H:Hp,bT K H ET [.str ".",.str ".."]
 {t_FILE:Tok}
 Dm:mg "FILE" = some (.str "file" t_FILE)
 {t_FIRST_TREE:Tok}
 Wy:mg "FIRST_TREE" = some (.str "main" t_FIRST_TREE)
 {t_FOLDER:Tok}
 xp:mg "FOLDER" = some (.str "folder" t_FOLDER)
 {gF:Addr}
 ad1:mg "Failed" = some (.ref gF)
 {eF:Addr}
 Jd:mg "Found" = some (.ref eF)
 {aD:Addr}
 abp:mg "House" = some (.ref aD)
 {t_LEAD:Tok}
 Vb:mg "LEAD" = some (.str "lead" t_LEAD)
 {t_LETTERS:Tok}
 Tv:mg "LETTERS" = some (.str "abcdefghijklmnopqrstuvwxyz" t_LETTERS)
 {jc:Addr}
 Vh:mg "LeadError" = some (.ref jc)
 {t_MOST_IN_LEAD:Tok}
 Hn:mg "MOST_IN_LEAD" = some (.int 120 t_MOST_IN_LEAD)
 {t_MOST_IN_NAME:Tok}
 Yn:mg "MOST_IN_NAME" = some (.int 8 t_MOST_IN_NAME)
 {t_MOST_IN_PATH:Tok}
 Ib:mg "MOST_IN_PATH" = some (.int 2000 t_MOST_IN_PATH)
 {t_MOST_IN_TEXT:Tok}
 LQ:mg "MOST_IN_TEXT" = some (.int 60 t_MOST_IN_TEXT)
 {t_MOST_LEADS:Tok}
 aed:mg "MOST_LEADS" = some (.int 40 t_MOST_LEADS)
 {bW:Addr}
 FD:mg "NoAsker" = some (.ref bW)
 {gu:Addr}
 rh:mg "NoDeed" = some (.ref gu)
 {kj:Addr}
 abN:mg "NoHold" = some (.ref kj)
 {cB:Addr}
 Kt:mg "NoName" = some (.ref cB)
 {bN:Addr}
 u0:mg "NoPath" = some (.ref bN)
 {bV:Addr}
 zL:mg "NoRights" = some (.ref bV)
 {kg:Addr}
 aaS:mg "NoRow" = some (.ref kg)
 {cw:Addr}
 HM:mg "NoText" = some (.ref cw)
 {bH:Addr}
 Mi:mg "NoThing" = some (.ref bH)
 {cD:Addr}
 Hh:mg "NoTree" = some (.ref cD)
 {gn:Addr}
 FG:mg "NoWay" = some (.ref gn)
 {yw:Addr}
 KN:mg "RIGHTS" = some (.ref yw)
 uW:∀ H:Hp,bT K H yw [.str "",.str "l",.str "g",.str "w",.str "lg",.str "lw",.str "gw",.str "lgw"]
 {ki:Addr}
 ad8:mg "Ring" = some (.ref ki)
 {Ec:Addr}
 ac9:mg "SINGLE_RIGHTS" = some (.ref Ec)
 zF:∀ H:Hp,bT K H Ec [.str "l",.str "g",.str "w"]
 {lO:Addr}
 Ha:mg "Seat" = some (.ref lO)
 {aM:Addr}
 ZX:mg "Thing" = some (.ref aM)
 {aJ:Addr}
 abn:mg "Things" = some (.ref aJ)
 U0:mg "ValueError" = none
 {bA:Addr}
 ZM:mg "Walk" = some (.ref bA)
 zj:mg "all" = none
 g_bool:mg "bool" = none
 Xs:mg "int" = none
 dA:mg "isinstance" = none
 gv:mg "len" = none
 zk:mg "list" = none
 Iv:mg "min" = none
 G1:mg "range" = none
 Lf:mg "reversed" = none
 wJ:mg "sorted" = none
 jh:mg "str" = none
 tm:MT K gn "__init__" "NoWay.__init__" HY ["self","told"]
 me:MT K gu "__init__" "NoDeed.__init__" JP ["self","reason"]
 rH:MT K aM "__init__" "Thing.__init__" Ju ["self","number","kind","owner","mine","rest","text"]
 sv:MT K aM "rights_for" "Thing.rights_for" Gp ["self","asker"]
 se:MT K aJ "__init__" "Things.__init__" FK ["self"]
 kE:MT K aJ "add_thing" "Things.add_thing" Ki ["self","kind","owner","mine","rest","text"]
 kY:MT K aJ "add_folder" "Things.add_folder" JD ["self","owner","mine","rest"]
 nT:MT K aJ "add_file" "Things.add_file" Jg ["self","owner","text","mine","rest"]
 nI:MT K aJ "add_lead" "Things.add_lead" GN ["self","owner","path"]
 rJ:MT K aJ "many" "Things.many" Gn ["self"]
 bS:MT K aJ "at" "Things.at" GO ["self","number"]
 gD:MT K aJ "child" "Things.child" DA ["self","folder","name"]
 js:MT K aJ "names_in" "Things.names_in" yO ["self","number"]
 jK:MT K aJ "places_of" "Things.places_of" BD ["self","number"]
 jf:MT K aJ "place_of" "Things.place_of" yZ ["self","number"]
 sY:MT K aJ "put_name" "Things.put_name" FN ["self","folder","name","number"]
 ub:MT K aJ "drop_name" "Things.drop_name" IK ["self","folder","name"]
 rT:MT K eF "__init__" "Found.__init__" K9 ["self","number","way"]
 Sv:MT K gF "__init__" "Failed.__init__" aav ["self","step","reason"]
 Tt:MT K ki "__init__" "Ring.__init__" OY ["self","leads"]
 sy:MT K bA "__init__" "Walk.__init__" Bb ["self","house","asker","last"]
 tT:MT K bA "begin" "Walk.begin" zR ["self","from_root","parts"]
 uc:MT K bA "go_on" "Walk.go_on" BA ["self"]
 fq:MT K bA "fail" "Walk.fail" Jn ["self","reason"]
 rD:MT K bA "take_step" "Walk.take_step" AY ["self","part"]
 sV:MT K bA "go_up" "Walk.go_up" HF ["self"]
 sX:MT K bA "go_by" "Walk.go_by" BG ["self","name"]
 tK:MT K bA "meet_lead" "Walk.meet_lead" Ft ["self","number"]
 ad3:MT K bA "read_lead" "Walk.read_lead" P7 ["self","number"]
 sT:MT K bA "true_path" "Walk.true_path" DC ["self"]
 pL:MT K lO "__init__" "Seat.__init__" Hy ["self","folder","name"]
 sx:MT K aD "__init__" "House.__init__" Ko ["self","owner"]
 sF:MT K aD "enroll" "House.enroll" IJ ["self","name"]
 gy:MT K aD "root_of" "House.root_of" Aw ["self","asker"]
 jq:MT K aD "standing_of" "House.standing_of" B9 ["self","asker"]
 fN:MT K aD "kind_of" "House.kind_of" Bz ["self","number"]
 jm:MT K aD "owner_of" "House.owner_of" Az ["self","number"]
 jI:MT K aD "rights_of" "House.rights_of" Bk ["self","number"]
 oB:MT K aD "many" "House.many" KO ["self"]
 fS:MT K aD "child" "House.child" uR ["self","number","name"]
 jU:MT K aD "names_in" "House.names_in" Bt ["self","number"]
 jF:MT K aD "text_of" "House.text_of" BL ["self","number"]
 iH:MT K aD "place_of" "House.place_of" Cy ["self","number"]
 jP:MT K aD "places_of" "House.places_of" Cp ["self","number"]
 nh:MT K aD "tree_root" "House.tree_root" CQ ["self","tree"]
 tL:MT K aD "covered_by" "House.covered_by" CP ["self","tree"]
 gU:MT K aD "may" "House.may" Im ["self","asker","number","right"]
 cJ:MT K aD "check_asker" "House.check_asker" Kl ["self","asker"]
 sM:MT K aD "check_tree" "House.check_tree" Cs ["self","tree"]
 rV:MT K aD "check_thing" "House.check_thing" JT ["self","number"]
 nW:MT K aD "add_asker" "House.add_asker" GV ["self","name"]
 sO:MT K aD "put_root" "House.put_root" GP ["self","asker","folder"]
 tN:MT K aD "put_standing" "House.put_standing" Hl ["self","asker","folder"]
 su:MT K aD "add_tree" "House.add_tree" KL ["self","tree","owner"]
 aek:c8 K gF
 adV:Mk K gF Sv.f
 vf:c8 K eF
 R5:Mk K eF rT.f
 aE:c8 K aD
 Yu:Mk K aD sx.f
 aec:c8 K ki
 aeb:Mk K ki Tt.f
 nX:c8 K lO
 IA:Mk K lO pL.f
 cC:c8 K aM
 UO:Mk K aM rH.f
 bx:c8 K aJ
 XO:Mk K aJ se.f
 aU:c8 K bA
 abB:Mk K bA sy.f
 adW:bC K gF "reason"
 ad5:bC K gF "step"
 JL:bC K eF "number"
 Vg:bC K eF "way"
 wA:bC K aD "changes"
 AO:bC K aD "first_root"
 xC:bC K aD "folder_under"
 Qo:bC K aD "holds"
 XM:bC K aD "holds_given"
 Ax:bC K aD "root_over"
 pw:bC K aD "roots"
 CB:bC K aD "standings"
 cP:bC K aD "things"
 vV:bC K aD "tree_roots"
 aee:bC K ki "leads"
 xl:bC K lO "folder"
 CZ:bC K lO "name"
 xD:bC K aM "kind"
 wu:bC K aM "mine"
 pj:bC K aM "names"
 W9:bC K aM "number"
 vd:bC K aM "owner"
 oq:bC K aM "places"
 vy:bC K aM "rest"
 y3:bC K aM "text"
 Bu:bC K aJ "changes"
 pb:bC K aJ "made"
 Km:bC K bA "asked"
 tD:bC K bA "asker"
 g7:bC K bA "here"
 iT:bC K bA "house"
 KU:bC K bA "last"
 adu:bC K bA "leads_read"
 rB:bC K bA "left"
 Iw:bC K bA "looked_up"
 wI:bC K bA "place"
 Fw:bC K bA "reading"
 Dj:bC K bA "root"
 Mg:bC K bA "step"
 nu:bC K bA "told"
 rO:kb K gu me.f "reason"
 wY:W.typeIn K (.ref gu)=some (.type "type")
 Io:kb K gn tm.f "told"
 Td:W.typeIn K (.ref gn)=some (.type "type")
 {m6:Addr}
 lD:xT.code=.ref m6
 {oT:Addr}
 fB:ym.code=.ref oT
 aak:W.excIn K bW [.type "ValueError",.type "Exception",.type "BaseException",.type "object"] "ValueError.__new__" = true
 W4:W.excIn K cB [.type "ValueError",.type "Exception",.type "BaseException",.type "object"] "ValueError.__new__" = true
 BC:W.excIn K bN [.type "ValueError",.type "Exception",.type "BaseException",.type "object"] "ValueError.__new__" = true
 FC:W.excIn K bV [.type "ValueError",.type "Exception",.type "BaseException",.type "object"] "ValueError.__new__" = true
 XN:W.excIn K cw [.type "ValueError",.type "Exception",.type "BaseException",.type "object"] "ValueError.__new__" = true
 Xe:W.excIn K bH [.type "ValueError",.type "Exception",.type "BaseException",.type "object"] "ValueError.__new__" = true
 Sx:W.excIn K cD [.type "ValueError",.type "Exception",.type "BaseException",.type "object"] "ValueError.__new__" = true
 TU:W.instIn K (.ref jc) (.type "tuple")=some false
 PQ:W.mroIn K jc (.type "BaseException")=some true
 UJ:W.findIn K (.ref bW) "__class__" = some (some (.builtin "object.__class__"))
 Zc:W.specialIn K (.builtin "object.__class__") "__get__" = some (some (.builtin "getset_descriptor.__get__"))
 ach:W.takesIn K (.builtin "object.__class__")=some true
 S4:W.mroIn K bW (.type "object")=some true
 Yi:W.findIn K (.ref bW) "__getattribute__" = some (some (.builtin "BaseException.__getattribute__"))
 P8:W.findIn K (.ref bW) "__getattr__" = some none
 adH:W.mroIn K bW (.type "BaseException")=some true
 ZP:W.findIn K (.ref bN) "__class__" = some (some (.builtin "object.__class__"))
 Tg:W.specialIn K (.builtin "object.__class__") "__get__" = some (some (.builtin "getset_descriptor.__get__"))
 QY:W.takesIn K (.builtin "object.__class__")=some true
 abJ:W.mroIn K bN (.type "object")=some true
 RT:W.findIn K (.ref bN) "__getattribute__" = some (some (.builtin "BaseException.__getattribute__"))
 YM:W.findIn K (.ref bN) "__getattr__" = some none
 YX:W.mroIn K bN (.type "BaseException")=some true
 RI:W.findIn K (.ref cB) "__class__" = some (some (.builtin "object.__class__"))
 Qp:W.specialIn K (.builtin "object.__class__") "__get__" = some (some (.builtin "getset_descriptor.__get__"))
 PX:W.takesIn K (.builtin "object.__class__")=some true
 XB:W.mroIn K cB (.type "object")=some true
 YF:W.findIn K (.ref cB) "__getattribute__" = some (some (.builtin "BaseException.__getattribute__"))
 Qh:W.findIn K (.ref cB) "__getattr__" = some none
 acs:W.mroIn K cB (.type "BaseException")=some true
 Ul:W.findIn K (.ref bV) "__class__" = some (some (.builtin "object.__class__"))
 aai:W.specialIn K (.builtin "object.__class__") "__get__" = some (some (.builtin "getset_descriptor.__get__"))
 U8:W.takesIn K (.builtin "object.__class__")=some true
 Zq:W.mroIn K bV (.type "object")=some true
 aaz:W.findIn K (.ref bV) "__getattribute__" = some (some (.builtin "BaseException.__getattribute__"))
 Z4:W.findIn K (.ref bV) "__getattr__" = some none
 Q9:W.mroIn K bV (.type "BaseException")=some true
 abg:W.findIn K (.ref cw) "__class__" = some (some (.builtin "object.__class__"))
 adN:W.specialIn K (.builtin "object.__class__") "__get__" = some (some (.builtin "getset_descriptor.__get__"))
 Wa:W.takesIn K (.builtin "object.__class__")=some true
 Sw:W.mroIn K cw (.type "object")=some true
 YC:W.findIn K (.ref cw) "__getattribute__" = some (some (.builtin "BaseException.__getattribute__"))
 Tu:W.findIn K (.ref cw) "__getattr__" = some none
 WB:W.mroIn K cw (.type "BaseException")=some true
 Sr:W.findIn K (.ref cD) "__class__" = some (some (.builtin "object.__class__"))
 acd:W.specialIn K (.builtin "object.__class__") "__get__" = some (some (.builtin "getset_descriptor.__get__"))
 Vv:W.takesIn K (.builtin "object.__class__")=some true
 adJ:W.mroIn K cD (.type "object")=some true
 Z8:W.findIn K (.ref cD) "__getattribute__" = some (some (.builtin "BaseException.__getattribute__"))
 abm:W.findIn K (.ref cD) "__getattr__" = some none
 Rh:W.mroIn K cD (.type "BaseException")=some true
 Sa:W.findIn K (.ref bH) "__class__" = some (some (.builtin "object.__class__"))
 PR:W.specialIn K (.builtin "object.__class__") "__get__" = some (some (.builtin "getset_descriptor.__get__"))
 Wf:W.takesIn K (.builtin "object.__class__")=some true
 XT:W.mroIn K bH (.type "object")=some true
 U1:W.findIn K (.ref bH) "__getattribute__" = some (some (.builtin "BaseException.__getattribute__"))
 Xh:W.findIn K (.ref bH) "__getattr__" = some none
 acC:W.mroIn K bH (.type "BaseException")=some true
 q1:W.findIn K (.ref eF) "__class__" = some (some (.builtin "object.__class__"))
 q2:W.specialIn K (.builtin "object.__class__") "__get__" = some (some (.builtin "getset_descriptor.__get__"))
 q3:W.takesIn K (.builtin "object.__class__")=some true
 q4:W.mroIn K eF (.type "object")=some true
 q5:W.kitOne K (.ref eF) (.ref eF)=some true
 q6:W.findIn K (.ref gF) "__class__" = some (some (.builtin "object.__class__"))
 q7:W.mroIn K gF (.type "object")=some true
 q8:W.kitOne K (.ref gF) (.ref eF)=some false
 q9:W.kitOne K (.ref eF) (.ref gF)=some false
 q12:W.kitOne K (.ref gF) (.ref gF)=some true
 q15:W.findIn K (.ref ki) "__class__" = some (some (.builtin "object.__class__"))
 q16:W.mroIn K ki (.type "object")=some true
 q17:W.kitOne K (.ref ki) (.ref eF)=some false
 q18:W.kitOne K (.ref ki) (.ref gF)=some false
 TM:W.subIn K (.ref bW) (.ref jc)=some true
 Vu:W.kitOne K (.ref bW) (.type "ValueError")=some true
 XU:W.kitOne K (.ref bW) (.ref bW)=some true
 SO:W.kitOne K (.ref bW) (.ref bN)=some false
 acV:W.kitOne K (.ref bW) (.ref cB)=some false
 Ye:W.kitOne K (.ref bW) (.ref bV)=some false
 aan:W.kitOne K (.ref bW) (.ref cw)=some false
 Yr:W.kitOne K (.ref bW) (.ref cD)=some false
 Q5:W.kitOne K (.ref bW) (.ref bH)=some false
 YE:W.kitOne K (.ref bW) (.ref kj)=some false
 Yy:W.kitOne K (.ref bW) (.ref kg)=some false
 Um:W.kitOne K (.ref bW) (.ref gn)=some false
 UY:W.kitOne K (.ref bW) (.ref gu)=some false
 T3:W.subIn K (.ref bN) (.ref jc)=some true
 XA:W.kitOne K (.ref bN) (.type "ValueError")=some true
 adD:W.kitOne K (.ref bN) (.ref bW)=some false
 QK:W.kitOne K (.ref bN) (.ref bN)=some true
 Yx:W.kitOne K (.ref bN) (.ref cB)=some false
 VJ:W.kitOne K (.ref bN) (.ref bV)=some false
 Xf:W.kitOne K (.ref bN) (.ref cw)=some false
 Sn:W.kitOne K (.ref bN) (.ref cD)=some false
 XQ:W.kitOne K (.ref bN) (.ref bH)=some false
 WU:W.kitOne K (.ref bN) (.ref kj)=some false
 Uv:W.kitOne K (.ref bN) (.ref kg)=some false
 XI:W.kitOne K (.ref bN) (.ref gn)=some false
 ab2:W.kitOne K (.ref bN) (.ref gu)=some false
 ZO:W.subIn K (.ref cB) (.ref jc)=some true
 Xw:W.kitOne K (.ref cB) (.type "ValueError")=some true
 adF:W.kitOne K (.ref cB) (.ref bW)=some false
 Ph:W.kitOne K (.ref cB) (.ref bN)=some false
 acP:W.kitOne K (.ref cB) (.ref cB)=some true
 aaQ:W.kitOne K (.ref cB) (.ref bV)=some false
 UH:W.kitOne K (.ref cB) (.ref cw)=some false
 UB:W.kitOne K (.ref cB) (.ref cD)=some false
 W2:W.kitOne K (.ref cB) (.ref bH)=some false
 V9:W.kitOne K (.ref cB) (.ref kj)=some false
 TJ:W.kitOne K (.ref cB) (.ref kg)=some false
 R3:W.kitOne K (.ref cB) (.ref gn)=some false
 Zd:W.kitOne K (.ref cB) (.ref gu)=some false
 S8:W.subIn K (.ref bV) (.ref jc)=some true
 ab9:W.kitOne K (.ref bV) (.type "ValueError")=some true
 T4:W.kitOne K (.ref bV) (.ref bW)=some false
 abw:W.kitOne K (.ref bV) (.ref bN)=some false
 OV:W.kitOne K (.ref bV) (.ref cB)=some false
 T7:W.kitOne K (.ref bV) (.ref bV)=some true
 acD:W.kitOne K (.ref bV) (.ref cw)=some false
 aat:W.kitOne K (.ref bV) (.ref cD)=some false
 Rx:W.kitOne K (.ref bV) (.ref bH)=some false
 Te:W.kitOne K (.ref bV) (.ref kj)=some false
 abX:W.kitOne K (.ref bV) (.ref kg)=some false
 VX:W.kitOne K (.ref bV) (.ref gn)=some false
 WT:W.kitOne K (.ref bV) (.ref gu)=some false
 WO:W.subIn K (.ref cw) (.ref jc)=some true
 Ra:W.kitOne K (.ref cw) (.type "ValueError")=some true
 ZI:W.kitOne K (.ref cw) (.ref bW)=some false
 TK:W.kitOne K (.ref cw) (.ref bN)=some false
 ab7:W.kitOne K (.ref cw) (.ref cB)=some false
 XF:W.kitOne K (.ref cw) (.ref bV)=some false
 aam:W.kitOne K (.ref cw) (.ref cw)=some true
 Ri:W.kitOne K (.ref cw) (.ref cD)=some false
 Xx:W.kitOne K (.ref cw) (.ref bH)=some false
 Zj:W.kitOne K (.ref cw) (.ref kj)=some false
 Pp:W.kitOne K (.ref cw) (.ref kg)=some false
 Qs:W.kitOne K (.ref cw) (.ref gn)=some false
 Zf:W.kitOne K (.ref cw) (.ref gu)=some false
 aaD:W.subIn K (.ref cD) (.ref jc)=some true
 Xg:W.kitOne K (.ref cD) (.type "ValueError")=some true
 Qw:W.kitOne K (.ref cD) (.ref bW)=some false
 VB:W.kitOne K (.ref cD) (.ref bN)=some false
 Xz:W.kitOne K (.ref cD) (.ref cB)=some false
 Ww:W.kitOne K (.ref cD) (.ref bV)=some false
 Vs:W.kitOne K (.ref cD) (.ref cw)=some false
 acF:W.kitOne K (.ref cD) (.ref cD)=some true
 ac6:W.kitOne K (.ref cD) (.ref bH)=some false
 Qq:W.kitOne K (.ref cD) (.ref kj)=some false
 UU:W.kitOne K (.ref cD) (.ref kg)=some false
 YB:W.kitOne K (.ref cD) (.ref gn)=some false
 QM:W.kitOne K (.ref cD) (.ref gu)=some false
 ac8:W.subIn K (.ref bH) (.ref jc)=some true
 R7:W.kitOne K (.ref bH) (.type "ValueError")=some true
 Y5:W.kitOne K (.ref bH) (.ref bW)=some false
 W3:W.kitOne K (.ref bH) (.ref bN)=some false
 WN:W.kitOne K (.ref bH) (.ref cB)=some false
 O0:W.kitOne K (.ref bH) (.ref bV)=some false
 XJ:W.kitOne K (.ref bH) (.ref cw)=some false
 Xc:W.kitOne K (.ref bH) (.ref cD)=some false
 Yk:W.kitOne K (.ref bH) (.ref bH)=some true
 acu:W.kitOne K (.ref bH) (.ref kj)=some false
 VC:W.kitOne K (.ref bH) (.ref kg)=some false
 WE:W.kitOne K (.ref bH) (.ref gn)=some false
 Sl:W.kitOne K (.ref bH) (.ref gu)=some false
def qf:List Nat:=List.range' 97 26
def isNm (l:List Nat):Bool:=decide (1<=l.length) && decide (l.length<=8) && l.all (qf.contains ·)
def fO:V->Bool
 | .str z=>isNm z.cps.toList
 | _=>false
def Bq:V->Prop
 | .str z=>z.length<=1000
 | _=>True
def stI {t:TS} {D:Ends} {H:Hp} {σ:L2.St} (τ:L2.St) (h:t D τ H) (e:σ=τ:=by rfl):t D σ H:=e ▸ h
inductive X1 {α0:Type} (R:α0->Prop):Prop | mk:∀ x0,R x0->X1 R
inductive X2 {α0 α1:Type} (R:α0->α1->Prop):Prop | mk:∀ x0 x1,R x0 x1->X2 R
inductive X3 {α0 α1 α2:Type} (R:α0->α1->α2->Prop):Prop | mk:∀ x0 x1 x2,R x0 x1 x2->X3 R
inductive X4 {α0 α1 α2 α3:Type} (R:α0->α1->α2->α3->Prop):Prop | mk:∀ x0 x1 x2 x3,R x0 x1 x2 x3->X4 R
inductive X5 {α0 α1 α2 α3 α4:Type} (R:α0->α1->α2->α3->α4->Prop):Prop | mk:∀ x0 x1 x2 x3 x4,R x0 x1 x2 x3 x4->X5 R
inductive X6 {α0 α1 α2 α3 α4 α5:Type} (R:α0->α1->α2->α3->α4->α5->Prop):Prop | mk:∀ x0 x1 x2 x3 x4 x5,R x0 x1 x2 x3 x4 x5->X6 R
inductive X7 {α0 α1 α2 α3 α4 α5 α6:Type} (R:α0->α1->α2->α3->α4->α5->α6->Prop):Prop | mk:∀ x0 x1 x2 x3 x4 x5 x6,R x0 x1 x2 x3 x4 x5 x6->X7 R
inductive X8 {α0 α1 α2 α3 α4 α5 α6 α7:Type} (R:α0->α1->α2->α3->α4->α5->α6->α7->Prop):Prop | mk:∀ x0 x1 x2 x3 x4 x5 x6 x7,R x0 x1 x2 x3 x4 x5 x6 x7->X8 R
inductive X9 {α0 α1 α2 α3 α4 α5 α6 α7 α8:Type} (R:α0->α1->α2->α3->α4->α5->α6->α7->α8->Prop):Prop | mk:∀ x0 x1 x2 x3 x4 x5 x6 x7 x8,R x0 x1 x2 x3 x4 x5 x6 x7 x8->X9 R
inductive Jy {α0 α1 α2 α3 α4 α5 α6 α7 α8 α9:Type} (R:α0->α1->α2->α3->α4->α5->α6->α7->α8->α9->Prop):Prop | mk:∀ x0 x1 x2 x3 x4 x5 x6 x7 x8 x9,R x0 x1 x2 x3 x4 x5 x6 x7 x8 x9->Jy R
inductive Jq {α0 α1 α2 α3 α4 α5 α6 α7 α8 α9 α10:Type} (R:α0->α1->α2->α3->α4->α5->α6->α7->α8->α9->α10->Prop):Prop | mk:∀ x0 x1 x2 x3 x4 x5 x6 x7 x8 x9 x10,R x0 x1 x2 x3 x4 x5 x6 x7 x8 x9 x10->Jq R
inductive A2 (p0 p1:Prop):Prop | mk:p0->p1->A2 p0 p1
inductive A3 (p0 p1 p2:Prop):Prop | mk:p0->p1->p2->A3 p0 p1 p2
inductive A4 (p0 p1 p2 p3:Prop):Prop | mk:p0->p1->p2->p3->A4 p0 p1 p2 p3
inductive A5 (p0 p1 p2 p3 p4:Prop):Prop | mk:p0->p1->p2->p3->p4->A5 p0 p1 p2 p3 p4
inductive A6 (p0 p1 p2 p3 p4 p5:Prop):Prop | mk:p0->p1->p2->p3->p4->p5->A6 p0 p1 p2 p3 p4 p5
inductive A7 (p0 p1 p2 p3 p4 p5 p6:Prop):Prop | mk:p0->p1->p2->p3->p4->p5->p6->A7 p0 p1 p2 p3 p4 p5 p6
inductive A8 (p0 p1 p2 p3 p4 p5 p6 p7:Prop):Prop | mk:p0->p1->p2->p3->p4->p5->p6->p7->A8 p0 p1 p2 p3 p4 p5 p6 p7
inductive A9 (p0 p1 p2 p3 p4 p5 p6 p7 p8:Prop):Prop | mk:p0->p1->p2->p3->p4->p5->p6->p7->p8->A9 p0 p1 p2 p3 p4 p5 p6 p7 p8
inductive ZT (p0 p1 p2 p3 p4 p5 p6 p7 p8 p9:Prop):Prop | mk:p0->p1->p2->p3->p4->p5->p6->p7->p8->p9->ZT p0 p1 p2 p3 p4 p5 p6 p7 p8 p9
inductive F8 (p0 p1 p2 p3 p4 p5 p6 p7 p8 p9 p10 p11:Prop):Prop | mk:p0->p1->p2->p3->p4->p5->p6->p7->p8->p9->p10->p11->F8 p0 p1 p2 p3 p4 p5 p6 p7 p8 p9 p10 p11
inductive Cd (p0 p1 p2 p3 p4 p5 p6 p7 p8 p9 p10 p11 p12:Prop):Prop | mk:p0->p1->p2->p3->p4->p5->p6->p7->p8->p9->p10->p11->p12->Cd p0 p1 p2 p3 p4 p5 p6 p7 p8 p9 p10 p11 p12
inductive KI (p0 p1 p2 p3 p4 p5 p6 p7 p8 p9 p10 p11 p12 p13:Prop):Prop | mk:p0->p1->p2->p3->p4->p5->p6->p7->p8->p9->p10->p11->p12->p13->KI p0 p1 p2 p3 p4 p5 p6 p7 p8 p9 p10 p11 p12 p13
def a1 (f:V->Hp->VK->XK->Prop):Sp:=fun vs H Q E=>match vs with
 | [x1]=>f x1 H Q E
 | _=>False
def a1.o {f:V->Hp->VK->XK->Prop} {vs:List V} {H:Hp} {Q:VK} {E:XK} (h:a1 f vs H Q E):∃ x1,vs=[x1]/\f x1 H Q E:=by
 unfold a1 at h;split at h
 ·exact ⟨_,rfl,h⟩
 ·exact h.elim
def a2 (f:V->V->Hp->VK->XK->Prop):Sp:=fun vs H Q E=>match vs with
 | [x1,x2]=>f x1 x2 H Q E
 | _=>False
def a2.o {f:V->V->Hp->VK->XK->Prop} {vs:List V} {H:Hp} {Q:VK} {E:XK} (h:a2 f vs H Q E):∃ x1 x2,vs=[x1,x2]/\f x1 x2 H Q E:=by
 unfold a2 at h;split at h
 ·exact ⟨_,_,rfl,h⟩
 ·exact h.elim
def a3 (f:V->V->V->Hp->VK->XK->Prop):Sp:=fun vs H Q E=>match vs with
 | [x1,x2,x3]=>f x1 x2 x3 H Q E
 | _=>False
def a3.o {f:V->V->V->Hp->VK->XK->Prop} {vs:List V} {H:Hp} {Q:VK} {E:XK} (h:a3 f vs H Q E):∃ x1 x2 x3,vs=[x1,x2,x3]/\f x1 x2 x3 H Q E:=by
 unfold a3 at h;split at h
 ·exact ⟨_,_,_,rfl,h⟩
 ·exact h.elim
def a4 (f:V->V->V->V->Hp->VK->XK->Prop):Sp:=fun vs H Q E=>match vs with
 | [x1,x2,x3,x4]=>f x1 x2 x3 x4 H Q E
 | _=>False
def a4.o {f:V->V->V->V->Hp->VK->XK->Prop} {vs:List V} {H:Hp} {Q:VK} {E:XK} (h:a4 f vs H Q E):∃ x1 x2 x3 x4,vs=[x1,x2,x3,x4]/\f x1 x2 x3 x4 H Q E:=by
 unfold a4 at h;split at h
 ·exact ⟨_,_,_,_,rfl,h⟩
 ·exact h.elim
def a5 (f:V->V->V->V->V->Hp->VK->XK->Prop):Sp:=fun vs H Q E=>match vs with
 | [x1,x2,x3,x4,x5]=>f x1 x2 x3 x4 x5 H Q E
 | _=>False
def a5.o {f:V->V->V->V->V->Hp->VK->XK->Prop} {vs:List V} {H:Hp} {Q:VK} {E:XK} (h:a5 f vs H Q E):∃ x1 x2 x3 x4 x5,vs=[x1,x2,x3,x4,x5]/\f x1 x2 x3 x4 x5 H Q E:=by
 unfold a5 at h;split at h
 ·exact ⟨_,_,_,_,_,rfl,h⟩
 ·exact h.elim
def a6 (f:V->V->V->V->V->V->Hp->VK->XK->Prop):Sp:=fun vs H Q E=>match vs with
 | [x1,x2,x3,x4,x5,x6]=>f x1 x2 x3 x4 x5 x6 H Q E
 | _=>False
def a6.o {f:V->V->V->V->V->V->Hp->VK->XK->Prop} {vs:List V} {H:Hp} {Q:VK} {E:XK} (h:a6 f vs H Q E):∃ x1 x2 x3 x4 x5 x6,vs=[x1,x2,x3,x4,x5,x6]/\f x1 x2 x3 x4 x5 x6 H Q E:=by
 unfold a6 at h;split at h
 ·exact ⟨_,_,_,_,_,_,rfl,h⟩
 ·exact h.elim
def a7 (f:V->V->V->V->V->V->V->Hp->VK->XK->Prop):Sp:=fun vs H Q E=>match vs with
 | [x1,x2,x3,x4,x5,x6,x7]=>f x1 x2 x3 x4 x5 x6 x7 H Q E
 | _=>False
def a7.o {f:V->V->V->V->V->V->V->Hp->VK->XK->Prop} {vs:List V} {H:Hp} {Q:VK} {E:XK} (h:a7 f vs H Q E):∃ x1 x2 x3 x4 x5 x6 x7,vs=[x1,x2,x3,x4,x5,x6,x7]/\f x1 x2 x3 x4 x5 x6 x7 H Q E:=by
 unfold a7 at h;split at h
 ·exact ⟨_,_,_,_,_,_,_,rfl,h⟩
 ·exact h.elim
def vR (v:V) (k:Addr->Prop):Prop:=match v with
 | .ref x=>k x
 | _=>False
def vR.o {v:V} {k:Addr->Prop} (h:vR v k):∃ x,v=.ref x/\k x:=by
 unfold vR at h;split at h
 ·exact ⟨_,rfl,h⟩
 ·exact h.elim
def vS (v:V) (k:Str->Prop):Prop:=match v with
 | .str x=>k x
 | _=>False
def vS.o {v:V} {k:Str->Prop} (h:vS v k):∃ x,v=.str x/\k x:=by
 unfold vS at h;split at h
 ·exact ⟨_,rfl,h⟩
 ·exact h.elim
def vI (v:V) (k:Int->Prop):Prop:=match v with
 | .int x=>k x
 | _=>False
def vI.o {v:V} {k:Int->Prop} (h:vI v k):∃ x,v=.int x/\k x:=by
 unfold vI at h;split at h
 ·exact ⟨_,rfl,h⟩
 ·exact h.elim
def vB (v:V) (k:Bool->Prop):Prop:=match v with
 | .bl x=>k x
 | _=>False
def vB.o {v:V} {k:Bool->Prop} (h:vB v k):∃ x,v=.bl x/\k x:=by
 unfold vB at h;split at h
 ·exact ⟨_,rfl,h⟩
 ·exact h.elim
def LG (f:Int->Hp->VK->XK->Prop):Sp:=a1 fun q1 H Q E=>vI q1 fun x1=>f x1 H Q E
@[elab_as_elim] theorem K5 {f:Int->Hp->VK->XK->Prop} {vs:List V} {H:Hp} {Q:VK} {E:XK} {G:List V->Prop} (h:LG f vs H Q E) (k:∀ x1,f x1 H Q E->G [.int x1]):G vs:=by
 obtain ⟨_,rfl,h⟩:=a1.o h;obtain ⟨x1,rfl,h⟩:=vI.o h;exact k x1 h
def IW (f:Int->Int->Hp->VK->XK->Prop):Sp:=a2 fun q1 q2 H Q E=>vI q1 fun x1=>vI q2 fun x2=>f x1 x2 H Q E
@[elab_as_elim] theorem KH {f:Int->Int->Hp->VK->XK->Prop} {vs:List V} {H:Hp} {Q:VK} {E:XK} {G:List V->Prop} (h:IW f vs H Q E) (k:∀ x1 x2,f x1 x2 H Q E->G [.int x1,.int x2]):G vs:=by
 obtain ⟨_,_,rfl,h⟩:=a2.o h;obtain ⟨x1,rfl,h⟩:=vI.o h;obtain ⟨x2,rfl,h⟩:=vI.o h;exact k x1 x2 h
def mw (f:Addr->Hp->VK->XK->Prop):Sp:=a1 fun q1 H Q E=>vR q1 fun x1=>f x1 H Q E
@[elab_as_elim] theorem fX {f:Addr->Hp->VK->XK->Prop} {vs:List V} {H:Hp} {Q:VK} {E:XK} {G:List V->Prop} (h:mw f vs H Q E) (k:∀ x1,f x1 H Q E->G [.ref x1]):G vs:=by
 obtain ⟨_,rfl,h⟩:=a1.o h;obtain ⟨x1,rfl,h⟩:=vR.o h;exact k x1 h
def LV (f:Addr->Bool->Addr->Hp->VK->XK->Prop):Sp:=a3 fun q1 q2 q3 H Q E=>vR q1 fun x1=>vB q2 fun x2=>vR q3 fun x3=>f x1 x2 x3 H Q E
@[elab_as_elim] theorem Ky {f:Addr->Bool->Addr->Hp->VK->XK->Prop} {vs:List V} {H:Hp} {Q:VK} {E:XK} {G:List V->Prop} (h:LV f vs H Q E) (k:∀ x1 x2 x3,f x1 x2 x3 H Q E->G [.ref x1,.bl x2,.ref x3]):G vs:=by
 obtain ⟨_,_,_,rfl,h⟩:=a3.o h;obtain ⟨x1,rfl,h⟩:=vR.o h;obtain ⟨x2,rfl,h⟩:=vB.o h;obtain ⟨x3,rfl,h⟩:=vR.o h;exact k x1 x2 x3 h
def og (f:Addr->Int->Hp->VK->XK->Prop):Sp:=a2 fun q1 q2 H Q E=>vR q1 fun x1=>vI q2 fun x2=>f x1 x2 H Q E
@[elab_as_elim] theorem cL {f:Addr->Int->Hp->VK->XK->Prop} {vs:List V} {H:Hp} {Q:VK} {E:XK} {G:List V->Prop} (h:og f vs H Q E) (k:∀ x1 x2,f x1 x2 H Q E->G [.ref x1,.int x2]):G vs:=by
 obtain ⟨_,_,rfl,h⟩:=a2.o h;obtain ⟨x1,rfl,h⟩:=vR.o h;obtain ⟨x2,rfl,h⟩:=vI.o h;exact k x1 x2 h
def wx (f:Addr->Int->Str->Hp->VK->XK->Prop):Sp:=a3 fun q1 q2 q3 H Q E=>vR q1 fun x1=>vI q2 fun x2=>vS q3 fun x3=>f x1 x2 x3 H Q E
@[elab_as_elim] theorem pQ {f:Addr->Int->Str->Hp->VK->XK->Prop} {vs:List V} {H:Hp} {Q:VK} {E:XK} {G:List V->Prop} (h:wx f vs H Q E) (k:∀ x1 x2 x3,f x1 x2 x3 H Q E->G [.ref x1,.int x2,.str x3]):G vs:=by
 obtain ⟨_,_,_,rfl,h⟩:=a3.o h;obtain ⟨x1,rfl,h⟩:=vR.o h;obtain ⟨x2,rfl,h⟩:=vI.o h;obtain ⟨x3,rfl,h⟩:=vS.o h;exact k x1 x2 x3 h
def HG (f:Addr->Int->Str->Int->Hp->VK->XK->Prop):Sp:=a4 fun q1 q2 q3 q4 H Q E=>vR q1 fun x1=>vI q2 fun x2=>vS q3 fun x3=>vI q4 fun x4=>f x1 x2 x3 x4 H Q E
@[elab_as_elim] theorem IF {f:Addr->Int->Str->Int->Hp->VK->XK->Prop} {vs:List V} {H:Hp} {Q:VK} {E:XK} {G:List V->Prop} (h:HG f vs H Q E) (k:∀ x1 x2 x3 x4,f x1 x2 x3 x4 H Q E->G [.ref x1,.int x2,.str x3,.int x4]):G vs:=by
 obtain ⟨_,_,_,_,rfl,h⟩:=a4.o h;obtain ⟨x1,rfl,h⟩:=vR.o h;obtain ⟨x2,rfl,h⟩:=vI.o h;obtain ⟨x3,rfl,h⟩:=vS.o h;obtain ⟨x4,rfl,h⟩:=vI.o h;exact k x1 x2 x3 x4 h
def AH (f:Addr->Addr->Hp->VK->XK->Prop):Sp:=a2 fun q1 q2 H Q E=>vR q1 fun x1=>vR q2 fun x2=>f x1 x2 H Q E
@[elab_as_elim] theorem uU {f:Addr->Addr->Hp->VK->XK->Prop} {vs:List V} {H:Hp} {Q:VK} {E:XK} {G:List V->Prop} (h:AH f vs H Q E) (k:∀ x1 x2,f x1 x2 H Q E->G [.ref x1,.ref x2]):G vs:=by
 obtain ⟨_,_,rfl,h⟩:=a2.o h;obtain ⟨x1,rfl,h⟩:=vR.o h;obtain ⟨x2,rfl,h⟩:=vR.o h;exact k x1 x2 h
def K0 (f:Addr->Addr->Int->Hp->VK->XK->Prop):Sp:=a3 fun q1 q2 q3 H Q E=>vR q1 fun x1=>vR q2 fun x2=>vI q3 fun x3=>f x1 x2 x3 H Q E
@[elab_as_elim] theorem Jx {f:Addr->Addr->Int->Hp->VK->XK->Prop} {vs:List V} {H:Hp} {Q:VK} {E:XK} {G:List V->Prop} (h:K0 f vs H Q E) (k:∀ x1 x2 x3,f x1 x2 x3 H Q E->G [.ref x1,.ref x2,.int x3]):G vs:=by
 obtain ⟨_,_,_,rfl,h⟩:=a3.o h;obtain ⟨x1,rfl,h⟩:=vR.o h;obtain ⟨x2,rfl,h⟩:=vR.o h;obtain ⟨x3,rfl,h⟩:=vI.o h;exact k x1 x2 x3 h
def Mo (f:Addr->Addr->Str->Bool->Hp->VK->XK->Prop):Sp:=a4 fun q1 q2 q3 q4 H Q E=>vR q1 fun x1=>vR q2 fun x2=>vS q3 fun x3=>vB q4 fun x4=>f x1 x2 x3 x4 H Q E
@[elab_as_elim] theorem K3 {f:Addr->Addr->Str->Bool->Hp->VK->XK->Prop} {vs:List V} {H:Hp} {Q:VK} {E:XK} {G:List V->Prop} (h:Mo f vs H Q E) (k:∀ x1 x2 x3 x4,f x1 x2 x3 x4 H Q E->G [.ref x1,.ref x2,.str x3,.bl x4]):G vs:=by
 obtain ⟨_,_,_,_,rfl,h⟩:=a4.o h;obtain ⟨x1,rfl,h⟩:=vR.o h;obtain ⟨x2,rfl,h⟩:=vR.o h;obtain ⟨x3,rfl,h⟩:=vS.o h;obtain ⟨x4,rfl,h⟩:=vB.o h;exact k x1 x2 x3 x4 h
def mh (f:Addr->Str->Hp->VK->XK->Prop):Sp:=a2 fun q1 q2 H Q E=>vR q1 fun x1=>vS q2 fun x2=>f x1 x2 H Q E
@[elab_as_elim] theorem gz {f:Addr->Str->Hp->VK->XK->Prop} {vs:List V} {H:Hp} {Q:VK} {E:XK} {G:List V->Prop} (h:mh f vs H Q E) (k:∀ x1 x2,f x1 x2 H Q E->G [.ref x1,.str x2]):G vs:=by
 obtain ⟨_,_,rfl,h⟩:=a2.o h;obtain ⟨x1,rfl,h⟩:=vR.o h;obtain ⟨x2,rfl,h⟩:=vS.o h;exact k x1 x2 h
def KW (f:Addr->Str->Bool->Addr->Bool->Hp->VK->XK->Prop):Sp:=a5 fun q1 q2 q3 q4 q5 H Q E=>vR q1 fun x1=>vS q2 fun x2=>vB q3 fun x3=>vR q4 fun x4=>vB q5 fun x5=>f x1 x2 x3 x4 x5 H Q E
@[elab_as_elim] theorem Gy {f:Addr->Str->Bool->Addr->Bool->Hp->VK->XK->Prop} {vs:List V} {H:Hp} {Q:VK} {E:XK} {G:List V->Prop} (h:KW f vs H Q E) (k:∀ x1 x2 x3 x4 x5,f x1 x2 x3 x4 x5 H Q E->G [.ref x1,.str x2,.bl x3,.ref x4,.bl x5]):G vs:=by
 obtain ⟨_,_,_,_,_,rfl,h⟩:=a5.o h;obtain ⟨x1,rfl,h⟩:=vR.o h;obtain ⟨x2,rfl,h⟩:=vS.o h;obtain ⟨x3,rfl,h⟩:=vB.o h;obtain ⟨x4,rfl,h⟩:=vR.o h;obtain ⟨x5,rfl,h⟩:=vB.o h;exact k x1 x2 x3 x4 x5 h
def tY (f:Addr->Str->Int->Hp->VK->XK->Prop):Sp:=a3 fun q1 q2 q3 H Q E=>vR q1 fun x1=>vS q2 fun x2=>vI q3 fun x3=>f x1 x2 x3 H Q E
@[elab_as_elim] theorem jk {f:Addr->Str->Int->Hp->VK->XK->Prop} {vs:List V} {H:Hp} {Q:VK} {E:XK} {G:List V->Prop} (h:tY f vs H Q E) (k:∀ x1 x2 x3,f x1 x2 x3 H Q E->G [.ref x1,.str x2,.int x3]):G vs:=by
 obtain ⟨_,_,_,rfl,h⟩:=a3.o h;obtain ⟨x1,rfl,h⟩:=vR.o h;obtain ⟨x2,rfl,h⟩:=vS.o h;obtain ⟨x3,rfl,h⟩:=vI.o h;exact k x1 x2 x3 h
def Hc (f:Addr->Str->Int->Str->Str->Hp->VK->XK->Prop):Sp:=a5 fun q1 q2 q3 q4 q5 H Q E=>vR q1 fun x1=>vS q2 fun x2=>vI q3 fun x3=>vS q4 fun x4=>vS q5 fun x5=>f x1 x2 x3 x4 x5 H Q E
@[elab_as_elim] theorem LJ {f:Addr->Str->Int->Str->Str->Hp->VK->XK->Prop} {vs:List V} {H:Hp} {Q:VK} {E:XK} {G:List V->Prop} (h:Hc f vs H Q E) (k:∀ x1 x2 x3 x4 x5,f x1 x2 x3 x4 x5 H Q E->G [.ref x1,.str x2,.int x3,.str x4,.str x5]):G vs:=by
 obtain ⟨_,_,_,_,_,rfl,h⟩:=a5.o h;obtain ⟨x1,rfl,h⟩:=vR.o h;obtain ⟨x2,rfl,h⟩:=vS.o h;obtain ⟨x3,rfl,h⟩:=vI.o h;obtain ⟨x4,rfl,h⟩:=vS.o h;obtain ⟨x5,rfl,h⟩:=vS.o h;exact k x1 x2 x3 x4 x5 h
def wL (f:Addr->Str->Str->Hp->VK->XK->Prop):Sp:=a3 fun q1 q2 q3 H Q E=>vR q1 fun x1=>vS q2 fun x2=>vS q3 fun x3=>f x1 x2 x3 H Q E
@[elab_as_elim] theorem pz {f:Addr->Str->Str->Hp->VK->XK->Prop} {vs:List V} {H:Hp} {Q:VK} {E:XK} {G:List V->Prop} (h:wL f vs H Q E) (k:∀ x1 x2 x3,f x1 x2 x3 H Q E->G [.ref x1,.str x2,.str x3]):G vs:=by
 obtain ⟨_,_,_,rfl,h⟩:=a3.o h;obtain ⟨x1,rfl,h⟩:=vR.o h;obtain ⟨x2,rfl,h⟩:=vS.o h;obtain ⟨x3,rfl,h⟩:=vS.o h;exact k x1 x2 x3 h
def Fj (f:Addr->Str->Str->Str->Hp->VK->XK->Prop):Sp:=a4 fun q1 q2 q3 q4 H Q E=>vR q1 fun x1=>vS q2 fun x2=>vS q3 fun x3=>vS q4 fun x4=>f x1 x2 x3 x4 H Q E
@[elab_as_elim] theorem Kg {f:Addr->Str->Str->Str->Hp->VK->XK->Prop} {vs:List V} {H:Hp} {Q:VK} {E:XK} {G:List V->Prop} (h:Fj f vs H Q E) (k:∀ x1 x2 x3 x4,f x1 x2 x3 x4 H Q E->G [.ref x1,.str x2,.str x3,.str x4]):G vs:=by
 obtain ⟨_,_,_,_,rfl,h⟩:=a4.o h;obtain ⟨x1,rfl,h⟩:=vR.o h;obtain ⟨x2,rfl,h⟩:=vS.o h;obtain ⟨x3,rfl,h⟩:=vS.o h;obtain ⟨x4,rfl,h⟩:=vS.o h;exact k x1 x2 x3 x4 h
def Me (f:Addr->Str->Str->Str->Str->Hp->VK->XK->Prop):Sp:=a5 fun q1 q2 q3 q4 q5 H Q E=>vR q1 fun x1=>vS q2 fun x2=>vS q3 fun x3=>vS q4 fun x4=>vS q5 fun x5=>f x1 x2 x3 x4 x5 H Q E
@[elab_as_elim] theorem IQ {f:Addr->Str->Str->Str->Str->Hp->VK->XK->Prop} {vs:List V} {H:Hp} {Q:VK} {E:XK} {G:List V->Prop} (h:Me f vs H Q E) (k:∀ x1 x2 x3 x4 x5,f x1 x2 x3 x4 x5 H Q E->G [.ref x1,.str x2,.str x3,.str x4,.str x5]):G vs:=by
 obtain ⟨_,_,_,_,_,rfl,h⟩:=a5.o h;obtain ⟨x1,rfl,h⟩:=vR.o h;obtain ⟨x2,rfl,h⟩:=vS.o h;obtain ⟨x3,rfl,h⟩:=vS.o h;obtain ⟨x4,rfl,h⟩:=vS.o h;obtain ⟨x5,rfl,h⟩:=vS.o h;exact k x1 x2 x3 x4 x5 h
def HI (f:Addr->Str->Str->Str->Str->Str->Hp->VK->XK->Prop):Sp:=a6 fun q1 q2 q3 q4 q5 q6 H Q E=>vR q1 fun x1=>vS q2 fun x2=>vS q3 fun x3=>vS q4 fun x4=>vS q5 fun x5=>vS q6 fun x6=>f x1 x2 x3 x4 x5 x6 H Q E
@[elab_as_elim] theorem GH {f:Addr->Str->Str->Str->Str->Str->Hp->VK->XK->Prop} {vs:List V} {H:Hp} {Q:VK} {E:XK} {G:List V->Prop} (h:HI f vs H Q E) (k:∀ x1 x2 x3 x4 x5 x6,f x1 x2 x3 x4 x5 x6 H Q E->G [.ref x1,.str x2,.str x3,.str x4,.str x5,.str x6]):G vs:=by
 obtain ⟨_,_,_,_,_,_,rfl,h⟩:=a6.o h;obtain ⟨x1,rfl,h⟩:=vR.o h;obtain ⟨x2,rfl,h⟩:=vS.o h;obtain ⟨x3,rfl,h⟩:=vS.o h;obtain ⟨x4,rfl,h⟩:=vS.o h;obtain ⟨x5,rfl,h⟩:=vS.o h;obtain ⟨x6,rfl,h⟩:=vS.o h;exact k x1 x2 x3 x4 x5 x6 h
def AL (f:Addr->V->Hp->VK->XK->Prop):Sp:=a2 fun q1 x2 H Q E=>vR q1 fun x1=>f x1 x2 H Q E
@[elab_as_elim] theorem u9 {f:Addr->V->Hp->VK->XK->Prop} {vs:List V} {H:Hp} {Q:VK} {E:XK} {G:List V->Prop} (h:AL f vs H Q E) (k:∀ x1 x2,f x1 x2 H Q E->G [.ref x1,x2]):G vs:=by
 obtain ⟨_,x2,rfl,h⟩:=a2.o h;obtain ⟨x1,rfl,h⟩:=vR.o h;exact k x1 x2 h
def AE (f:Addr->V->V->Hp->VK->XK->Prop):Sp:=a3 fun q1 x2 x3 H Q E=>vR q1 fun x1=>f x1 x2 x3 H Q E
@[elab_as_elim] theorem pe {f:Addr->V->V->Hp->VK->XK->Prop} {vs:List V} {H:Hp} {Q:VK} {E:XK} {G:List V->Prop} (h:AE f vs H Q E) (k:∀ x1 x2 x3,f x1 x2 x3 H Q E->G [.ref x1,x2,x3]):G vs:=by
 obtain ⟨_,x2,x3,rfl,h⟩:=a3.o h;obtain ⟨x1,rfl,h⟩:=vR.o h;exact k x1 x2 x3 h
def zC (f:Addr->V->V->V->Hp->VK->XK->Prop):Sp:=a4 fun q1 x2 x3 x4 H Q E=>vR q1 fun x1=>f x1 x2 x3 x4 H Q E
@[elab_as_elim] theorem vc {f:Addr->V->V->V->Hp->VK->XK->Prop} {vs:List V} {H:Hp} {Q:VK} {E:XK} {G:List V->Prop} (h:zC f vs H Q E) (k:∀ x1 x2 x3 x4,f x1 x2 x3 x4 H Q E->G [.ref x1,x2,x3,x4]):G vs:=by
 obtain ⟨_,x2,x3,x4,rfl,h⟩:=a4.o h;obtain ⟨x1,rfl,h⟩:=vR.o h;exact k x1 x2 x3 x4 h
def Gq (f:Addr->V->V->V->V->Hp->VK->XK->Prop):Sp:=a5 fun q1 x2 x3 x4 x5 H Q E=>vR q1 fun x1=>f x1 x2 x3 x4 x5 H Q E
@[elab_as_elim] theorem KJ {f:Addr->V->V->V->V->Hp->VK->XK->Prop} {vs:List V} {H:Hp} {Q:VK} {E:XK} {G:List V->Prop} (h:Gq f vs H Q E) (k:∀ x1 x2 x3 x4 x5,f x1 x2 x3 x4 x5 H Q E->G [.ref x1,x2,x3,x4,x5]):G vs:=by
 obtain ⟨_,x2,x3,x4,x5,rfl,h⟩:=a5.o h;obtain ⟨x1,rfl,h⟩:=vR.o h;exact k x1 x2 x3 x4 x5 h
def HN (f:Addr->V->V->V->V->V->Hp->VK->XK->Prop):Sp:=a6 fun q1 x2 x3 x4 x5 x6 H Q E=>vR q1 fun x1=>f x1 x2 x3 x4 x5 x6 H Q E
@[elab_as_elim] theorem Kx {f:Addr->V->V->V->V->V->Hp->VK->XK->Prop} {vs:List V} {H:Hp} {Q:VK} {E:XK} {G:List V->Prop} (h:HN f vs H Q E) (k:∀ x1 x2 x3 x4 x5 x6,f x1 x2 x3 x4 x5 x6 H Q E->G [.ref x1,x2,x3,x4,x5,x6]):G vs:=by
 obtain ⟨_,x2,x3,x4,x5,x6,rfl,h⟩:=a6.o h;obtain ⟨x1,rfl,h⟩:=vR.o h;exact k x1 x2 x3 x4 x5 x6 h
def GL (f:Addr->V->V->V->V->V->V->Hp->VK->XK->Prop):Sp:=a7 fun q1 x2 x3 x4 x5 x6 x7 H Q E=>vR q1 fun x1=>f x1 x2 x3 x4 x5 x6 x7 H Q E
@[elab_as_elim] theorem Fz {f:Addr->V->V->V->V->V->V->Hp->VK->XK->Prop} {vs:List V} {H:Hp} {Q:VK} {E:XK} {G:List V->Prop} (h:GL f vs H Q E) (k:∀ x1 x2 x3 x4 x5 x6 x7,f x1 x2 x3 x4 x5 x6 x7 H Q E->G [.ref x1,x2,x3,x4,x5,x6,x7]):G vs:=by
 obtain ⟨_,x2,x3,x4,x5,x6,x7,rfl,h⟩:=a7.o h;obtain ⟨x1,rfl,h⟩:=vR.o h;exact k x1 x2 x3 x4 x5 x6 x7 h
def lF (f:Str->Hp->VK->XK->Prop):Sp:=a1 fun q1 H Q E=>vS q1 fun x1=>f x1 H Q E
@[elab_as_elim] theorem fZ {f:Str->Hp->VK->XK->Prop} {vs:List V} {H:Hp} {Q:VK} {E:XK} {G:List V->Prop} (h:lF f vs H Q E) (k:∀ x1,f x1 H Q E->G [.str x1]):G vs:=by
 obtain ⟨_,rfl,h⟩:=a1.o h;obtain ⟨x1,rfl,h⟩:=vS.o h;exact k x1 h
def my (f:V->Hp->VK->XK->Prop):Sp:=a1 fun x1 H Q E=>f x1 H Q E
@[elab_as_elim] theorem gC {f:V->Hp->VK->XK->Prop} {vs:List V} {H:Hp} {Q:VK} {E:XK} {G:List V->Prop} (h:my f vs H Q E) (k:∀ x1,f x1 H Q E->G [x1]):G vs:=by
 obtain ⟨x1,rfl,h⟩:=a1.o h;exact k x1 h
def TF (K:ν):Sp:=my fun x H Q _=>A3 (∃ T,clsName H x=some T) (Bq x) (∀ H',ag H H'->Q (.bl (fO x)) H')
def KZ {nm:List Nat} (h:isNm nm=true):1<=nm.length/\nm.length<=8/\nm.all (qf.contains ·)=true:=by
 unfold isNm at h;simp only [Ch,LT] at h;exact ⟨h.1.1,h.1.2,h.2⟩
def Qy:Str.ofString "abcdefghijklmnopqrstuvwxyz" = Tx.S qf:=by decide +kernel
def ef (l:List Nat):Bool:=decide (l=[46]) || decide (l=[46,46]) || isNm l
def Ay {l:List Nat} (h:ef l=true):47 ∉ l/\l≠[]/\l.length<=8:=by
 unfold ef at h;simp only [Bool.or_eq_true,LT] at h;rcases h with (rfl | rfl) | h
 ·exact ⟨by decide,by decide,by decide⟩
 ·exact ⟨by decide,by decide,by decide⟩
 ·obtain ⟨h1,h2,h3⟩:=KZ h;refine ⟨fun m=>?_,fun e=>by rw [e] at h1;simp at h1,h2⟩;have:=IO.mp h3 47 m;exact absurd this (by decide +kernel)
abbrev PV (ps:List (List Nat)):List V:=(ps.map Tx.S).map V.str
def told (ps:List (List Nat)) (t:List Nat):List (List Nat):=if ps≠[]/\t.getLast?=some 47 then ps++[[46]] else ps
def mK (t:List Nat):Bool:=decide (t.head?=some 47)
def YT (K:ν):Sp:=lF fun z H Q _=>X1 fun (w:List Nat)=>A3 (z=Tx.S w) (w.length<=1000) (∀ H',ag H H'->Q (.bl (ef w)) H')
def aar (K:ν):Sp:=lF fun z H Q _=>X1 fun (t:List Nat)=>A5 (z=Tx.S t) (1<=t.length) (t.length<=2000) ((Tx.words 47 t).all ef=true) (∀ (H':Hp) (l p:Addr),ag H H'->H l=none->H' l=some (.lst (PV (told (Tx.words 47 t) t)))->H' p=some (.tup [.bl (mK t),.ref l])->Q (.ref p) H')
structure Pth (ps:List (List Nat)) (t:List Nat):Prop where
 words:Tx.words 47 t=ps
 one:1<=t.length
 most:t.length<=150
def rS (n kd ow mi re tx nm pl:V):List (Str×V):=[("number",n),("kind",kd),("owner",ow),("mine",mi),("rest",re),("text",tx),("names",nm),("places",pl)]
def rg (ml:Addr) (c:Int):List (Str×V):=[("made",.ref ml),("changes",.int c)]
structure Th where
 kd:Str
 ow:Str
 mi:Str
 re:Str
 tx:Str
 bU:List (Str×Nat)
 df:List (Nat×Str)
structure Hs where
 ts:List Th
 ro:List (Str×Nat)
 st:List (Str×Nat)
 tr:List (Str×Nat)
 ov:List (Nat×Nat)
 un:List (Nat×Nat)
structure Ta where
 th:Addr
 dH:Addr
 nm:Addr
 pl:Addr
structure Ad where
 a:Addr
 dx:Addr
 t:Addr
 dt:Addr
 ml:Addr
 ro:Addr
 st:Addr
 tr:Addr
 ov:Addr
 un:Addr
 ho:Addr
def rP (c:Int) (A:Ad):List (Str×V):=[("things",.ref A.t),("changes",.int c),("roots",.ref A.ro),("standings",.ref A.st),("tree_roots",.ref A.tr),("root_over",.ref A.ov),("folder_under",.ref A.un),("holds",.ref A.ho),("holds_given",.int 0),("first_root",.int 0)]
def Y2 {f:Str} {c c':Int} {A:Ad} (h:f ≠ "changes"):(rP c A).lookup f=(rP c' A).lookup f:=by
 unfold rP;simp only [List.lookup];have:(f == ("changes":Str))=false:=Fa.mpr h;rw [this]
def sD (l:List (Str×Nat)):List (Key×V):=l.map fun e=>(.inr e.1,.int e.2)
def nD (l:List (Nat×Nat)):List (Key×V):=l.map fun e=>(.inl (e.1:Int),.int e.2)
def pD (l:List (Nat×Str)):List (List Key×V):=l.map fun e=>([.inl (e.1:Int),.inr e.2],.bl true)
structure jg (CT:Addr) (H:Hp) (a:Ta) (i:Nat) (t:Th):Prop where
 o:∃ fs,H a.th=some (.ins CT a.dH fs)/\fs.length<=40/\dB fs (rS (.int i) (.str t.kd) (.str t.ow) (.str t.mi) (.str t.re) (.str t.tx) (.ref a.nm) (.ref a.pl))
 nm:H a.nm=some (.dK (sD t.bU))
 pl:H a.pl=some (.dT (pD t.df))
def Ad.w (A:Ad):List Addr:=[A.a,A.t,A.ml,A.ro,A.st,A.tr,A.ov,A.un]
def Ta.l (a:Ta):List Addr:=[a.th,a.nm,a.pl]
structure aI (CH CS CT:Addr) (H:Hp) (A:Ad) (L:List Ta) (M:Hs):Prop where
 h:∃ fs c,H A.a=some (.ins CH A.dx fs)/\fs.length<=40/\dB fs (rP c A)
 t:∃ fs c,H A.t=some (.ins CS A.dt fs)/\fs.length<=40/\dB fs (rg A.ml c)
 ml:H A.ml=some (.lst (L.map fun a=>.ref a.th))
 len:L.length=M.ts.length
 th:∀ i t,M.ts[i]?=some t->∃ a,L[i]?=some a/\jg CT H a i t
 ro:H A.ro=some (.dK (sD M.ro))
 st:H A.st=some (.dK (sD M.st))
 tr:H A.tr=some (.dK (sD M.tr))
 ov:H A.ov=some (.dK (nD M.ov))
 un:H A.un=some (.dK (nD M.un))
 nd:(A.w++L.flatMap Ta.l).Nodup
def Kp (W:List Addr) (H H':Hp):Prop:=∀ b o,b ∉ W->H b=some o->H' b=some o
def Kp.trans {W:List Addr} {H H1 H2:Hp} (a:Kp W H H1) (b:Kp W H1 H2):Kp W H H2:=fun c o h e=>b c o h (a c o h e)
def Kp.of {W:List Addr} {H H':Hp} (s:ag H H'):Kp W H H':=fun b o _ e=>s b o e
def gO {H:Hp} {a b:Addr} {o u:HO} (h1:H a=some o) (h2:H b=some u) (h:o≠u):a≠b:=fun e=>h (by rw [e,h2] at h1;cases h1;rfl)
def bo {H:Hp} {a b:Addr} {o:HO} (h1:H a=some o) (h2:H b=none):a≠b:=fun e=>by rw [e,h2] at h1;cases h1
def z8 {H:Hp} {x d:Addr} {o O oo:HO} (hn:H d=none) (hx:H x=some oo):upd (upd H d o) x O x=some O/\upd (upd H d o) x O d=some o/\(∀ b u,b≠x->H b=some u->upd (upd H d o) x O b=some u)/\d≠x:=by
 have n:=bo hx hn;refine ⟨ay,by rw [aj (wP n),ay],fun b u hb e=>?_,wP n⟩;rw [aj hb,aj (bo e hn)];exact e
section
variable {CH CS CT:Addr} {H H':Hp} {A:Ad} {L:List Ta} {M:Hs}
def jg.keep {W:List Addr} {a:Ta} {i:Nat} {t:Th} (h:jg CT H a i t) (k:Kp W H H') (hw:∀ b∈a.l,b ∉ W):jg CT H' a i t where
 o:=let ⟨fs,e,r⟩:=h.o;⟨fs,k _ _ (hw _ (by simp [Ta.l])) e,r⟩
 nm:=k _ _ (hw _ (by simp [Ta.l])) h.nm
 pl:=k _ _ (hw _ (by simp [Ta.l])) h.pl
def mv {i:Nat} {a:Ta} (h:L[i]?=some a) {b:Addr} (hb:b∈a.l):b∈L.flatMap Ta.l:=List.mem_flatMap.mpr ⟨a,KM h,hb⟩
def aI.keep {W:List Addr} (i:aI CH CS CT H A L M) (k:Kp W H H') (hw:∀ b∈A.w++L.flatMap Ta.l,b ∉ W):aI CH CS CT H' A L M where
 h:=let ⟨fs,c,e,r⟩:=i.h;⟨fs,c,k _ _ (hw _ (by simp [Ad.w])) e,r⟩
 t:=let ⟨fs,c,e,r⟩:=i.t;⟨fs,c,k _ _ (hw _ (by simp [Ad.w])) e,r⟩
 ml:=k _ _ (hw _ (by simp [Ad.w])) i.ml
 len:=i.len
 th:=fun j t e=>let ⟨a,e1,h⟩:=i.th j t e;⟨a,e1,h.keep k fun b hb=>hw b (Cl _ (mv e1 hb))⟩
 ro:=k _ _ (hw _ (by simp [Ad.w])) i.ro
 st:=k _ _ (hw _ (by simp [Ad.w])) i.st
 tr:=k _ _ (hw _ (by simp [Ad.w])) i.tr
 ov:=k _ _ (hw _ (by simp [Ad.w])) i.ov
 un:=k _ _ (hw _ (by simp [Ad.w])) i.un
 nd:=i.nd
def aI.same (i:aI CH CS CT H A L M) (s:ag H H'):aI CH CS CT H' A L M:=i.keep (W:=[]) (.of s) fun _ _=>by simp
def vD:∀ {L:List Ta} {i j:Nat} {a a':Ta} {b:Addr},(L.flatMap Ta.l).Nodup->L[i]?=some a->L[j]?=some a'->b∈a.l->b∈a'.l->i=j
 | [],_,_,_,_,_,_,h,_,_,_=>by simp at h
 | c::r,0,0,_,_,_,_,_,_,_,_=>rfl
 | c::r,0,j+1,a,a',b,nd,h1,h2,m1,m2=>by
  rw [Tl,Gc] at nd;simp only [List.getElem?_cons_zero,Option.some.injEq] at h1;simp only [List.getElem?_cons_succ] at h2;subst h1;exact absurd rfl (nd.2.2 b m1 b (mv h2 m2))
 | c::r,i+1,0,a,a',b,nd,h1,h2,m1,m2=>by
  rw [Tl,Gc] at nd;simp only [List.getElem?_cons_zero,Option.some.injEq] at h2;simp only [List.getElem?_cons_succ] at h1;subst h2;exact absurd rfl (nd.2.2 b m2 b (mv h1 m1))
 | c::r,i+1,j+1,a,a',b,nd,h1,h2,m1,m2=>by
  rw [Tl,Gc] at nd;simp only [List.getElem?_cons_succ] at h1 h2;rw [vD nd.2.1 h1 h2 m1 m2]
def aI.write {k:Nat} {a:Ta} {t':Th} (i:aI CH CS CT H A L M) (hk:L[k]?=some a) (hh:∃ fs c,H' A.a=some (.ins CH A.dx fs)/\fs.length<=40/\dB fs (rP c A)) (ht:∃ fs c,H' A.t=some (.ins CS A.dt fs)/\fs.length<=40/\dB fs (rg A.ml c))
  (aS:jg CT H' a k t') (kp:Kp [A.a,A.t,a.th,a.nm,a.pl] H H'):aI CH CS CT H' A L { M with ts:=M.ts.set k t' }:=by
 have nd:=i.nd;rw [Gc] at nd;obtain ⟨n1,n2,n3⟩:=nd;have ma:∀ b∈a.l,b∈L.flatMap Ta.l:=fun b hb=>mv hk hb;have qR:∀ b∈[A.ml,A.ro,A.st,A.tr,A.ov,A.un],b ∉ [A.a,A.t,a.th,a.nm,a.pl]:=by
  intro b hb hm;have hw:b∈A.w:=by
   simp only [Ad.w,pi,ss,AC] at hb ⊢;rcases hb with h | h | h | h | h | h <;> simp [h]
  simp only [pi,ss,AC] at hm;rcases hm with rfl | rfl | rfl | rfl | rfl
  ·have:=(Fr.mp n1).1;simp only [pi,ss,AC,_F] at hb this;rcases hb with h | h | h | h | h | h <;> simp [h] at this
  ·have:=(Fr.mp (Fr.mp n1).2).1;simp only [pi,ss,AC,_F] at hb this;rcases hb with h | h | h | h | h | h <;> simp [h] at this
  ·exact n3 _ hw _ (ma _ (by simp [Ta.l])) rfl
  ·exact n3 _ hw _ (ma _ (by simp [Ta.l])) rfl
  ·exact n3 _ hw _ (ma _ (by simp [Ta.l])) rfl
 refine ⟨hh,ht,kp _ _ (qR _ (by simp)) i.ml,by rw [i.len];simp,fun j t e=>?_,kp _ _ (qR _ (by simp)) i.ro,kp _ _ (qR _ (by simp)) i.st,kp _ _ (qR _ (by simp)) i.tr,kp _ _ (qR _ (by simp)) i.ov,kp _ _ (qR _ (by simp)) i.un,i.nd⟩;by_cases hj:j=k
 ·subst hj;have cb:j < M.ts.length:=by rw [<- i.len];exact (sK.mp hk).1
  have e':(M.ts.set j t')[j]?=some t:=e;rw [TW cb] at e';cases e';exact ⟨a,hk,aS⟩
 ·have e':(M.ts.set k t')[j]?=some t:=e;rw [SZ (wP hj)] at e';obtain ⟨a',e1,h1⟩:=i.th j t e';refine ⟨a',e1,h1.keep kp fun b hb hm=>?_⟩;have oW:=mv e1 hb;simp only [pi,ss,AC] at hm;rcases hm with rfl | rfl | rfl | rfl | rfl
  ·exact n3 _ (by simp [Ad.w]) _ oW rfl
  ·exact n3 _ (by simp [Ad.w]) _ oW rfl
  ·exact hj (vD n2 e1 hk hb (by simp [Ta.l]))
  ·exact hj (vD n2 e1 hk hb (by simp [Ta.l]))
  ·exact hj (vD n2 e1 hk hb (by simp [Ta.l]))
end
def Fs:V->Bool
 | .int _=>true
 | _=>false
def V6:Sp:=my fun v H Q _=>(∃ T,clsName H v=some T)/\Q (.bl (Fs v)) H
def Xo:Sp:=my fun x H Q _=>A4 (∃ T,clsName H x=some T) (Bq x) (fO x=true) (∀ H',ag H H'->Q .aw H')
def UA (C:Addr):Sp:=GL fun x n kd ow mi re tx H Q _=>X1 fun dx=>A2 (H x=some (.ins C dx [])) (∀ l1 l2 H',H l1=none->H l2=none->l1≠l2->l1≠x->l2≠x->(∀ b,b≠x->b≠l1->b≠l2->H' b=H b)->H' l1=some (.dK [])->H' l2=some (.dT []) ->
   (∀ fs,fs.length<=40->dB fs (rS n kd ow mi re tx (.ref l1) (.ref l2))->H' x=some (.ins C dx fs)->Q .aw H'))
def R9 (C:Addr):Sp:=mw fun x H Q _=>X1 fun dx=>A2 (H x=some (.ins C dx [])) (∀ l H',H l=none->l≠x->(∀ b,b≠x->b≠l->H' b=H b)->H' l=some (.lst [])->(∀ fs,fs.length<=40->dB fs (rg l 0)->H' x=some (.ins C dx fs)->Q .aw H'))
structure lJ (CS:Addr) (H:Hp) (x dt ml:Addr) (rs:List V):Prop where
 o:∃ fs c,H x=some (.ins CS dt fs)/\fs.length<=40/\dB fs (rg ml c)
 ml:H ml=some (.lst rs)
def si (CS CT:Addr) (x dt ml:Addr) (rs:List V) (kd ow mi re tx:V) (H:Hp) (Q:VK):Prop :=
 ∀ th dH nm pl ks H',H th=none->H nm=none->H pl=none->lJ CS H' x dt ml (rs++[.ref th])->H' th=some (.ins CT dH ks)->ks.length<=40->dB ks (rS (.int rs.length) kd ow mi re tx (.ref nm) (.ref pl)) ->
  H' nm=some (.dK [])->H' pl=some (.dT [])->Kp [x,ml] H H'->Q (.int rs.length) H'
def Z1 (CS CT:Addr):Sp:=HN fun x kd ow mi re tx H Q _=>X3 fun dt ml rs=>A3 (lJ CS H x dt ml rs) (rs.length<=500) (si CS CT x dt ml rs kd ow mi re tx H Q)
def U7 (CS CT:Addr):Sp:=zC fun x ow mi re H Q _=>X3 fun dt ml rs=>A3 (lJ CS H x dt ml rs) (rs.length<=500) (si CS CT x dt ml rs (.str "folder") ow mi re (.str "") H Q)
def OW (CS CT:Addr):Sp:=Gq fun x ow tx mi re H Q _=>X3 fun dt ml rs=>A3 (lJ CS H x dt ml rs) (rs.length<=500) (si CS CT x dt ml rs (.str "file") ow mi re tx H Q)
def aao (CS CT:Addr):Sp:=AE fun x ow tx H Q _=>X3 fun dt ml rs=>A3 (lJ CS H x dt ml rs) (rs.length<=500) (si CS CT x dt ml rs (.str "lead") ow (.str "") (.str "") tx H Q)
def BY (CH CS CT CN:Addr):Sp:=AL fun x v H Q E=>X3 fun A L M=>A5 (aI CH CS CT H A L M) (A.t=x) (∃ T,clsName H v=some T) (∀ (k:Nat) a t,v=.int k->L[k]?=some a->M.ts[k]?=some t->Q (.ref a.th) H) ((∀ k:Nat,v=.int k->¬ k < M.ts.length)->E (.ref CN) none H)
abbrev lH:=Ad->List Ta->Hs->Nat->Ta->Th->Hp->VK->Prop
def iw (CH CS CT:Addr) (sel:Ad->Addr) (f:lH):Sp:=og fun x n H Q _=>X6 fun A L M (k:Nat) a t=>A6 (aI CH CS CT H A L M) (sel A=x) (n=(k:Int)) (L[k]?=some a) (M.ts[k]?=some t) (f A L M k a t H Q)
def UI (CH CS CT:Addr) (sel:Ad->Addr):Sp:=wx fun x n z H Q _=>X6 fun A L M (k:Nat) a t=>A6 (aI CH CS CT H A L M) (sel A=x) (n=(k:Int)) (L[k]?=some a) (M.ts[k]?=some t) (Q ((bb (sD t.bU) (.inr z)).getD .aw) H)
def Pm (CH CS CT:Addr):Sp:=wx fun x n z H Q _=>X6 fun A L M (k:Nat) a t=>A8 (aI CH CS CT H A L M) (A.a=x) (n=(k:Int)) (L[k]?=some a) (M.ts[k]?=some t) (fO (.str z)=true) (z.length<=1000) (∀ H',ag H H'->Q ((bb (sD t.bU) (.inr z)).getD .aw) H')
def Fl (CH CS CT:Addr) (sel:Ad->Addr):Sp:=mw fun x H Q _=>X3 fun A L M=>A3 (aI CH CS CT H A L M) (sel A=x) (Q (.int M.ts.length) H)
abbrev LW:lH:=fun _ _ _ _ _ t H Q=>t.bU.length < 64/\∀ l,H l=none->Q (.ref l) (upd H l (.lst ((g9 (t.bU.map (·.1))).map V.str)))
abbrev Ln:lH:=fun _ _ _ _ _ t H Q=>(t.df=[]/\Q .aw H)\/∃ f z,t.df=[(f,z)]/\∀ p,H p=some (.tup [.int (f:Nat),.str z])->Q (.ref p) H
abbrev xx:lH:=fun _ _ _ _ _ t H Q=>Q (.str t.kd) H
abbrev XR:lH:=fun _ _ _ _ _ t H Q=>Q (.str t.ow) H
abbrev abr:lH:=fun _ _ _ _ _ t H Q=>Q (.str t.tx) H
abbrev Yg:lH:=fun _ _ _ _ _ t H Q=>∀ l,H l=none->Q (.ref l) (upd H l (.tup [.str t.mi,.str t.re]))
abbrev Xn:lH:=fun _ _ _ _ _ _ H Q=>Q .aw H
def Mj (CH CS CT CA:Addr):Sp:=AL fun x v H Q E=>X3 fun A L M=>A5 (aI CH CS CT H A L M) (A.a=x) (∃ T,clsName H v=some T) (∀ z,v=.str z->(bb (sD M.ro) (.inr z)).isSome=true->Q .aw H) ((∀ z,v=.str z->bb (sD M.ro) (.inr z)=none)->E (.ref CA) none H)
def ab5 (CH CS CT:Addr):Sp:=mh fun x z H Q _=>X4 fun A L M (r:Nat)=>A4 (aI CH CS CT H A L M) (A.a=x) (bb (sD M.ro) (.inr z)=some (.int r)) (Q (.int r) H)
def fK (t:Th) (ee:Str):Str:=if ee=t.ow then t.mi else t.re
def Sy (CT:Addr):Sp:=mh fun x z H Q _=>X3 fun a i t=>A3 (jg CT H a i t) (a.th=x) (Q (.str (fK t z)) H)
def iz (v:V):Bool:=decide (v=.str "l") || decide (v=.str "g") || decide (v=.str "w")
def Zb (CR:Addr):Sp:=my fun v H Q E=>A3 (∃ T,clsName H v=some T) (iz v=true->Q .aw H) (iz v=false->E (.ref CR) none H)
def eZ (s:Str) (z:Str):Bool:=!(Builtin.Str.occurrences z s 0 z.length 1).isEmpty
def Gw (CH CS CT CA CR CN:Addr):Sp:=zC fun x w v r H Q E=>X3 fun A L M=>A7 (aI CH CS CT H A L M) (A.a=x) (∃ T,clsName H w=some T) (∃ T,clsName H v=some T) (∃ T,clsName H r=some T) ((∀ z,w=.str z->bb (sD M.ro) (.inr z)=none)->E (.ref CA) none H) (∀ z,w=.str z->(bb (sD M.ro) (.inr z)).isSome=true->(iz r=false->E (.ref CR) none H) /\
    ∀ s,r=.str s->iz r=true->((∀ k:Nat,v=.int k->¬ k < M.ts.length)->E (.ref CN) none H)/\∀ (k:Nat) t,v=.int k->M.ts[k]?=some t->Q (.bl (eZ s (fK t z))) H)
local macro_rules | `(tactic| walk_at "rd")=>`(tactic| dsimp only [rL,nB,Bc,C8,mC,fT,z7,jw,tC,iU,yV,wa,oy,mz,iZ,zu,zh,rZ,Cm,nj,AR,qH,jW,nO,xr,xh,vG,ju,zr,CM,BR,BZ,vi,Dc,xo,yT,aaB,Z6,abT,P6,pO,wF,Co,nE,VF,zo,CI,Af,zq,rJoin,Dt,zy,tS,Dw,AB,sQ,zw,Ie,Ca,aaC,T1,zc,RC,C9,BW,tQ,tX,yL,Av,Df,DF,yX,QF,OT,ZY,aaa,Q4,kG,sj,Bm,zd,PL,Hf,AM,YY,YD,YN,PD,P1,SY,ZD,Ends.yM,B6,Dz,Bg,B5,zY,Bf,yP,Dx,T6,tM,RQ,PM,abv,Jk,Au,BH,Ck,A0,yF,C6,AJ,BM,Yh,adi,SS,aaL,Uj,adI,aaU,Vx,zf,Di,By,B0,QN,Ku,wU,xG,XG,List.getElem?_cons_zero,List.getElem?_cons_succ,List.set_cons_zero,List.set_cons_succ,List.cons_append,List.nil_append])
local macro_rules | `(tactic| walk_at "w")=>`(tactic| (first | walk_at "rd" | skip))
local macro_rules | `(tactic| left)=>`(tactic| walk_at "w")
local macro_rules | `(tactic| right)=>`(tactic| (refine ai ?_;left))
local macro_rules | `(tactic| symm)=>`(tactic| decide +kernel)
local macro_rules | `(tactic| walk_at "f")=>`(tactic| (refine W1 (m:=40) ?_ (by decide);(repeat (refine cQ ?_));exact Do _))
local macro_rules | `(tactic| walk_at "c")=>`(tactic| (repeat (first | exact trivial | (refine ⟨fun z=>(by first | exact ⟨_,rfl⟩ | (rcases z with z | z <;> cases z)),?_⟩))))
open Dv (aa ae ah aK aL aO aW bf bg bw bB bJ bP ck cO cX dh dU aw gk gY hX i0 iS jx lG lA ot ou oC pH pP qC ph tW r9 rE xj vM AG AF zb Ao BF Ab Cb Cu y2 xA HQ FF J3 GZ Iz Gu IE K6 Zs adz QQ ZL Ur YZ WL Yw acU YK Sh aaA Yb U9 T8 Sg)
abbrev ac:=@Dv.v
abbrev ad:=@Dv.cut
abbrev ap:=@Dv.str
abbrev bd:=@Dv.fld
abbrev bi:=@Dv.int
abbrev bn:=@Dv.call
abbrev cr:=@Dv.nil
abbrev db:=@Dv.lst
abbrev dl:=@Dv.ix
abbrev dL:=@Dv.op
abbrev em:=@Dv.glob
abbrev ge:=@Dv.bl
abbrev ii:=@Dv.cmp
abbrev im:=@Dv.un
abbrev io:=@Dv.w_or
abbrev jp:=@Dv.tup
abbrev kt:=@Dv.one
abbrev li:=@Dv.make
section
variable {P:Program} {w:World} {K:ν} {mg:Str->Option Value} {base:Heap}
variable (T:Tx K mg)
def rp:T.fc.k P w base 1 (TF K):=by
 refine T.fc.F.ok PK (fun _ _ _ _ h=>gC h fun _ _=>rfl) fun _ A _ s H vs Q E hr h=>gC h fun x h=>?_;obtain ⟨⟨ty,h1⟩,lT,q⟩:=h;refine ⟨_,((ad (aW (gk (io (cX (cO (bJ iG T.dA du (aa (ac 0) (aa (gY (.ty "str") T.jh jX rfl) ae))))) (i0 (cX (xj kS kS bi (bJ (gN (K:=K) rfl) T.gv IR (aa (ac 0) ae)) (em (.int 8) T.Yn ⟨_,rfl⟩)))))) (ah (aK ge)) cr)
 (ah (aK (bJ (As (K:=K) rfl rfl) T.zj Dn (aa (AG rfl (x:=("sign":Str)) (Zs (ac 0)) (fun _ _ _ _=>by exact AF) (fun _ _ _ _=>by exact (hX 0 (show List.Nodup (["sign"]:List Str) by decide))) (fun _ _ _ _=>by exact (ii (md (K:=K) rfl) (ac 0) (em (.str "abcdefghijklmnopqrstuvwxyz") T.Tv ⟨_,rfl⟩))) (.of rfl (by exact trivial) (by walk_at "c") rfl (by exact trivial))) ae)))))).h,?_⟩
 refine stI [some x] ?_;refine ai ?_;walk_at "rd";simp only [h1,nk h1];refine ⟨jS _ rfl,?_⟩;cases x with
 | str z =>
  simp only [mP,_y,FB,Ty];have hsh':z.length<=1000:=lT;have hl:z.cps.toList.length=z.length:=by simp [Str.length]
  refine ⟨fits hsh',?_⟩;by_cases a1:1<=z.length
  ·rw [xz (show (1:Int)<=(z.length:Int) by omega)];refine cz ?_;by_cases a2:z.length<=8
   ·rw [xz (show (z.length:Int)<=8 by omega)];refine bZ ?_;refine Sj (fun c=>.bl (qf.contains c)) (fits hsh') ?_ ?_
    ·intro c _ H1 _ R hR;walk_at "rd";rw [Qy,show (⟨#[c]⟩:Str)=Tx.S [c] from rfl,Tx.So];exact hR H1 (ag.refl H1)
    ·intro H1 s1 l iu;refine ⟨_,aH.of ay,z.cps.toList.map (qf.contains ·),by rw [_v];rfl,?_⟩;have e:((z.cps.toList.map (qf.contains ·)).all id)=fO (.str z):=by
      show _=isNm z.cps.toList;unfold isNm;rw [hl,xz a1,xz a2,List.all_map];rfl
     rw [e];exact q _ (s1.trans (ag.upd iu))
   ·rw [tz (show ¬ (z.length:Int)<=8 by omega)];refine cz ?_;have e:fO (.str z)=false:=by
     show isNm z.cps.toList=false;unfold isNm;rw [hl,tz a2,Bool.and_false,Jab]
    have:=q H (ag.refl H);rw [e] at this;exact this
  ·rw [tz (show ¬ (1:Int)<=(z.length:Int) by omega)];refine bZ (cz ?_);have e:fO (.str z)=false:=by
    show isNm z.cps.toList=false;unfold isNm;rw [hl,tz a1,Jab,Jab]
   have:=q H (ag.refl H);rw [e] at this;exact this
 | _=>exact q H (ag.refl H)
def aY {X:Cx} {b:List Stmt} {t:TS} {D:Ends} {σ:St} {H:Hp} (h:QB X b t) (q:t D σ H):∃ t,dv X b t/\t D σ H:=⟨t,h.h,q⟩
def aa6:V->Bool
 | .int _=>true
 | .bl _=>true
 | _=>false
def Y0 {H:Hp} {v:V} {ty:String} (h:clsName H v=some ty):vE ty "int" = aa6 v:=by
 unfold clsName at h;split at h
 ·cases h;rfl
 ·cases h;rfl
 ·cases h;rfl
 ·cases h;rfl
 ·split at h
  ·cases h;rfl
  ·cases h;rfl
  ·cases h;rfl
  ·cases h
 ·cases h
def HU:T.lI.k P w base 1 V6:=by
 refine T.lI.F.ok aaJ (fun _ _ _ _ h=>gC h fun _ _=>rfl) fun _ A _ s H vs Q E hr h=>gC h fun v h=>?_;obtain ⟨⟨ty,cm⟩,q⟩:=h;refine ⟨_,((ah (aK (pH (bJ iG T.dA du (aa (ac 0) (aa (gY (.ty "int") T.Xs ac0 rfl) ae))) (kt (adz (bJ iG T.dA du (aa (ac 0) (aa (gY (.ty "bool") T.g_bool Se rfl) ae))))))))).h,?_⟩;refine stI [some v] ?_;left;simp only [cm];refine ⟨by decide,?_⟩;cases v with
 | int i=>cases cm;exact cz ⟨by decide,q⟩
 | bl b=>cases cm;exact cz ⟨by decide,q⟩
 | _ =>
  rw [Y0 cm];exact bZ q
def xk:T.eg.k P w base 2 Xo:=by
 refine T.eg.F.ok LR (fun _ _ _ _ h=>gC h fun _ _=>rfl) fun _ A _ s H vs Q E hr h=>gC h fun x h=>?_;obtain ⟨hc,lT,hn,q1⟩:=h;refine ⟨_,((ah (aW (cX (cO (bn (rp T) hr.m T.fc.m T.fc.F.kp T.fc.b .nil aB (aa (ac 0) ae)))) (ah ck) cr))).h,?_⟩;refine stI [some x] ?_;left;refine ⟨hc,lT,fun H' s'=>?_⟩;rw [hn];exact bZ (q1 H' s')
def er:List Str:=["","l","g","w","lg","lw","gw","lgw"]
def aaW:Sp:=lF fun z H Q _=>z∈er/\Q (.bl true) H
def OO:Sp:=lF fun z H Q _=>z∈er/\Q .aw H
def Yt {z:Str} {zs:List Str} (h:z∈zs):dX (V.str z) (zs.map V.str)=true:=by
 unfold dX;rw [List.any_map,List.any_eq_true];exact ⟨z,h,show (z == z)=true from beq_self_eq_true z⟩
def RO:T.iE.k P w base 1 aaW:=by
 refine T.iE.F.ok GR (fun _ _ _ _ h=>fZ h fun _ _=>rfl) fun _ A _ s H vs Q E hr h=>fZ h fun z h=>?_;obtain ⟨hz,q⟩:=h;refine ⟨_,((ah (aK (pH (bJ iG T.dA du (aa (ac 0) (aa (gY (.ty "str") T.jh jX rfl) ae))) (kt (ii (qB (K:=K) rfl) (ac 0) (em (.ref T.yw) T.KN rfl))))))).h,?_⟩;refine stI [some (V.str z)] ?_;left;refine ⟨by decide,cz ⟨_,.inr (T.uW H),rfl,rfl,?_⟩⟩;rw [show [V.str "",V.str "l",V.str "g",V.str "w",V.str "lg",V.str "lw",V.str "gw",V.str "lgw"]=er.map V.str from rfl,Yt hz];exact q
def nH:T.cA.k P w base 2 OO:=by
 refine T.cA.F.ok Jw (fun _ _ _ _ h=>fZ h fun _ _=>rfl) fun _ A _ s H vs Q E hr h=>fZ h fun z h=>?_;obtain ⟨hz,q⟩:=h;refine ⟨_,((ah (aW (cX (cO (bn (RO T) hr.m T.iE.m T.iE.F.kp T.iE.b .nil aB (aa (ac 0) ae)))) (ah ck) cr))).h,?_⟩;refine stI [some (V.str z)] ?_;left;exact ⟨hz,bZ q⟩
def Za (v:V):dX v [V.str "l",V.str "g",V.str "w"]=iz v:=by
 unfold dX iz;simp only [UV,List.any_nil,Jai];have key:∀ z:Str,fR (.str z) v=decide (v=.str z):=fun z=>by
  cases v with
  | str y =>
   show (z == y)=decide (V.str y=V.str z);by_cases e:z=y
   ·subst e;simp
   ·rw [tz (by intro h;injection h with h;exact e h.symm)];exact Fa.mpr e
  | _=>rfl
 rw [key,key,key,Bool.or_assoc]
def Sm:aq P w K mg base (aR P w) 1 T.pU.f T.pU.d ["text"] (Zb T.bV):=by
 refine T.pU.F.br R0 (fun _ _ _ _ h=>gC h fun _ _=>rfl) fun _ A _ s H vs Q E hr h=>gC h fun v h=>?_;obtain ⟨⟨ty,cm⟩,q1,q2⟩:=h;refine ⟨_,((ah (aW (gk (io (cX (cO (bJ iG T.dA du (aa (ac 0) (aa (gY (.ty "str") T.jh jX rfl) ae))))) (i0 (bw (Mh (K:=K) rfl) (ac 0) (em (.ref T.Ec) T.ac9 rfl))))) (ah (jx jG rfl T.zL T.FC (aa ap ae))) cr))).h,?_⟩;refine stI [some v] ?_;left;simp only [cm,nk cm];refine ⟨jS _ rfl,?_⟩;cases v with
 | str z =>
  simp only [mP,_y,FB,Ty];refine ⟨_,.inr (T.zF H),rfl,rfl,?_⟩;rw [Za];cases ho:iz (.str z) with
  | true=>exact bZ (q1 ho)
  | false=>exact cz ⟨fits (by simp),q2 ho⟩
 | _=>exact ⟨fits (by simp),q2 rfl⟩
def GS:T.kU.k P w base 2 (YT K):=by
 refine T.kU.F.ok UZ (fun _ _ _ _ h=>fZ h fun _ _=>rfl) fun _ A _ s H vs Q E hr h=>fZ h fun z h=>?_;obtain ⟨w',rfl,hw,q⟩:=h;refine ⟨_,((ah (aK (QQ (ii (qB (K:=K) rfl) (ac 0) (em (.ref T.ET) T.aaT rfl)) (kt (bn (rp T) hr.m T.fc.m T.fc.F.kp T.fc.b .nil aB (aa (ac 0) ae))))))).h,?_⟩;refine stI [some (V.str (Tx.S w'))] ?_;walk_at "rd";refine ⟨_,.inr (T.Bs H),rfl,rfl,?_⟩;have e:dX (V.str (Tx.S w')) [V.str ".",V.str ".."]=(decide (w'=[46]) || decide (w'=[46,46])):=by
  rw [show Str.ofString "." = Tx.S [46] from by symm,show Str.ofString ".." = Tx.S [46,46] from by symm];unfold dX fR;simp only [UV,List.any_nil,Jai];have b:∀ m:List Nat,(Tx.S m == Tx.S w')=decide (w'=m):=fun m=>by
   by_cases h:w'=m
   ·rw [h];simp
   ·have:Tx.S m≠Tx.S w':=fun e=>h (Tx.Le e).symm;rw [tz h];exact Fa.mpr this
  rw [b,b]
 rw [e];cases hd:(decide (w'=[46]) || decide (w'=[46,46])) with
 | true =>
  refine cz ?_;have:=q H (ag.refl H);unfold ef at this;rw [hd] at this;exact this
 | false =>
  refine bZ ?_;refine ⟨⟨_,rfl⟩,(by show (Tx.S w').length<=1000;rw [Tx.dD];exact hw),fun H' s'=>?_⟩;have:=q H' s';unfold ef at this;rw [hd,Bool.false_or] at this;have e2:fO (V.str (Tx.S w'))=isNm w':=by show isNm _=_;rw [Tx.jV]
  rw [e2];exact this
def nz:V->Bool
 | .str z=>!decide (z=Tx.S [])
 | _=>false
def tZ:V->V
 | .str z=>.bl (ef z.cps.toList)
 | _=>.bl false
def Jl (t:List Nat):((((Tx.cut 47 t).map Tx.S).map V.str).filter nz).map id=PV (Tx.words 47 t):=by
 rw [List.map_id,List.filter_map];show ((((Tx.cut 47 t).map Tx.S)).filter _).map V.str=_
 congr 1
 rw [<- Tx.aaj];refine List.filter_congr fun z _=>?_;show (!decide (z=Tx.S []))=decide (z≠Tx.S []);by_cases h:z=Tx.S [] <;> simp [h]
def FV (ps:List (List Nat)):((PV ps).filter (fun _=>true)).map tZ=(ps.map ef).map V.bl:=by
 rw [List.filter_eq_self.mpr (fun _ _=>rfl),PV,_v,_v,_v];refine List.map_congr_left fun w' _=>?_;show V.bl (ef (Tx.S w').cps.toList)=V.bl (ef w');rw [Tx.jV]
def fL:T.bq.k P w base 3 (aar K):=by
 refine T.bq.F.ok vb (fun _ _ _ _ h=>fZ h fun _ _=>rfl) fun _ A _ s H vs Q E hr h=>fZ h fun z h=>?_;obtain ⟨t,rfl,t1,t2,iP,q⟩:=h;refine ⟨_,((ad (aW (gk (io (cX (cO (bJ iG T.dA du (aa (ac 0) (aa (gY (.ty "str") T.jh jX rfl) ae))))) (i0 (cX (xj kS kS bi (bJ (gN (K:=K) rfl) T.gv IR (aa (ac 0) ae)) (em (.int 2000) T.Ib ⟨_,rfl⟩)))))) (ah ck) cr)
 (ad (HQ 1 rfl vb.nd (x:=("part":Str)) (lG (K:=K) rfl (ot PySem.F.slot_str_split PySem.F.type_str_split Lq (ac 0) (aa ap ae))) (fun _ _ _ _=>by exact (pP (bw fk (ac 0) ap))) (fun _ _ _ _=>by exact (hX 0 (show List.Nodup (["part"]:List Str) by decide))) (fun _ _ _ _=>by exact (ac 0)) (.of rfl (by exact trivial) (by walk_at "c") rfl (by exact trivial)))
 (ad (aW (cX (cO (bJ (As (K:=K) rfl rfl) T.zj Dn (aa (AG rfl (x:=("part":Str)) (lG (K:=K) rfl (ac 1)) (fun _ _ _ _=>by exact AF) (fun _ _ _ _=>by exact (hX 0 (show List.Nodup (["part"]:List Str) by decide))) (fun _ _ _ _=>by exact (bn (GS T) hr.m T.kU.m T.kU.F.kp T.kU.b .nil aB (aa (ac 0) ae))) (.of rfl (by exact trivial) (by walk_at "c") rfl (by exact trivial))) ae)))) (ah ck) cr)
 (ad (aW (gk (Dv.w_and (bw (JY hr.mT) (ac 1) (db ae)) (vM (cO (ot PySem.F.slot_str_endswith PySem.F.type_str_endswith J0 (ac 0) (aa ap ae)))))) (ah (aL (dU wf wn dW (ac 1) (aa ap ae)))) cr)
 (ah (aK (jp (aa (ot PySem.F.slot_str_startswith PySem.F.type_str_startswith KQ (ac 0) (aa ap ae)) (aa (ac 1) ae)))))))))).h,?_⟩
 refine stI [some (V.str (Tx.S t)),none] ?_;refine ai ?_;walk_at "rd";have yu:Str.ofString "/" = Tx.S [47]:=by symm
 have e0:Str.ofString "" = Tx.S []:=by symm
 simp only [Tx.dD,yu,e0];refine ⟨jS _ rfl,bZ ⟨wE t2 (by decide),?_⟩⟩;rw [xz (show (1:Int)<=(t.length:Int) by omega),xz (show (t.length:Int)<=2000 by omega)];refine cz (bZ (ai ?_));walk_at "rd";have ky:=Tx.zH 47 t;refine ⟨rfl,by rw [Tx.dD];exact wE t2 (by decide),?_,?_⟩
 ·rw [Tx.yN,Tx.mG,Tx.Du,Tx.tO,pp];exact wE (show _<=2001 by omega) (by decide)
 intro l hl;rw [Tx.F6 t 47 (by decide)];refine eV hl fun H1 s1 b1=>?_;refine ⟨⟨_,aH.of b1⟩,wo nz id (aH.of b1) (by rw [pp,pp];exact wE (show _<=2001 by omega) (by decide)) ?_ ?_ ?_⟩
 ·intro x hx H2 _ R hR;obtain ⟨z,_,rfl⟩:=Ix.mp hx;walk_at "rd";exact hR H2 (ag.refl H2)
 ·intro x hx _ H2 _ R hR;walk_at "rd";exact hR H2 (ag.refl H2)
 intro H2 s2 l2 eN;rw [Jl];have lQ:H l2=none:=(s1.trans s2).free eN;refine eV eN fun H3 s3 b3=>?_;have Es:ag H H3:=(s1.trans s2).trans s3;have mV:(Tx.words 47 t).length<=2001:=wE (SC _ _) (by omega);refine ai ?_;walk_at "rd";refine ⟨⟨_,aH.of b3⟩,wo (fun _=>true) tZ (aH.of b3) (by rw [pp,pp];exact wE mV (by decide)) ?_ ?_ ?_⟩
 ·intro x _ H4 _ R hR;exact hR H4 (ag.refl H4)
 ·intro x hx _ H4 _ R hR;obtain ⟨z,hz,rfl⟩:=Ix.mp hx;obtain ⟨w',hw,rfl⟩:=Ix.mp hz;walk_at "rd";obtain ⟨_,_,g3⟩:=Ay (IO.mp iP w' hw);refine ⟨w',rfl,by omega,fun H5 s5=>?_⟩;have:=hR H5 s5;simp only [tZ,Tx.jV] at this;exact this
 intro H4 s4 l4 oK;rw [FV];refine ⟨_,aH.of ay,_,rfl,?_⟩;have ea:((Tx.words 47 t).map ef).all id=true:=by rw [List.all_map];exact iP
 rw [ea];refine bZ ?_;have s5:=ag.upd (o:=.lst (((Tx.words 47 t).map ef).map V.bl)) oK;generalize upd H4 l4 (.lst (((Tx.words 47 t).map ef).map V.bl))=H5 at s5 ⊢;have b5:H5 l2=some (.lst (PV (Tx.words 47 t))):=s5 _ _ (s4 _ _ b3);have Eh:ag H H5:=(Es.trans s4).trans s5;refine aX (fun σ' H'=>σ'=[some (V.str (Tx.S t)),some (V.ref l2)]/\ag H H'/\H' l2=some (.lst (PV (told (Tx.words 47 t) t)))) ?_ ?_
 ·walk_at "rd";refine ⟨fits (by simp),fun p hp=>?_⟩;have s6:=ag.upd (o:=.lst []) hp;have c6:upd H5 p (.lst []) p=some (.lst ((([]:List Str)).map V.str)):=ay;generalize upd H5 p (.lst [])=H6 at s6 c6 ⊢;have b6:H6 l2=some (.lst (PV (Tx.words 47 t))):=s6 _ _ b5;refine ⟨(Tx.words 47 t).map Tx.S,[],b6,c6,?_⟩;by_cases xR:Tx.words 47 t=[]
  ·rw [xz (show (Tx.words 47 t).map Tx.S=[] by rw [xR];rfl)];refine bZ (bZ ⟨by trivial,Eh.trans s6,?_⟩);unfold told;rw [zn (fun z=>z.1 xR)];exact b6
  ·rw [tz (show ¬ (Tx.words 47 t).map Tx.S=[] by simpa using xR)];refine cz ?_;rw [Tx.adR];by_cases yj:t.getLast?=some 47
   ·rw [xz yj];refine cz ?_;simp only [b6];refine ⟨by rw [pp,pp];exact W1 mV (by decide),by trivial,cg.same (Eh.trans s6) lQ cg.upd,?_⟩;unfold told;rw [AT ⟨xR,yj⟩,ay,show Str.ofString "." = Tx.S [46] from by symm];simp only [PV,NE,ut,At]
   ·rw [tz yj];refine bZ ⟨by trivial,Eh.trans s6,?_⟩;unfold told;rw [zn (fun z=>yj z.2)];exact b6
 ·rintro σ' H6 ⟨rfl,s6,b6⟩;walk_at "rd";simp only [yu,Tx.Y3];refine ⟨fits (by simp),fun p hp=>?_⟩;exact q _ l2 p (s6.trans (ag.upd hp)) lQ (UK b6 hp) ay
def Rz:T.rH.k P w mg base 1 (UA T.aM):=by
 refine T.rH.F.ok ZR (fun _ _ _ _ h=>Fz h fun _ _ _ _ _ _ _ _=>rfl) fun _ A _ s H vs Q E hr h=>Fz h fun x n kd ow mi re tx h=>?_;obtain ⟨dx,hx,q⟩:=h;refine ⟨_,((ad (bP T.cC T.W9 (ac 0) (ac 1))
 (ad (bP T.cC T.xD (ac 0) (ac 2))
 (ad (bP T.cC T.vd (ac 0) (ac 3))
 (ad (bP T.cC T.wu (ac 0) (ac 4))
 (ad (bP T.cC T.vy (ac 0) (ac 5))
 (ad (bP T.cC T.y3 (ac 0) (ac 6))
 (ad (bP T.cC T.pj (ac 0) ou)
 (ah (bP T.cC T.oq (ac 0) ZL)))))))))).h,?_⟩
 refine stI [some (.ref x),some n,some kd,some ow,some mi,some re,some tx] ?_;refine ai ?_;walk_at "rd";refine ⟨x,dx,_,rfl,hx,by decide,ai ?_⟩;walk_at "rd";refine ⟨x,dx,_,rfl,ay,by walk_at "f",ai ?_⟩;walk_at "rd";refine ⟨x,dx,_,rfl,ay,by walk_at "f",ai ?_⟩;walk_at "rd";refine ⟨x,dx,_,rfl,ay,by walk_at "f",ai ?_⟩;walk_at "rd";refine ⟨x,dx,_,rfl,ay,by walk_at "f",ai ?_⟩;walk_at "rd";refine ⟨x,dx,_,rfl,ay,by walk_at "f",ai ?_⟩;simp only [mx];walk_at "rd";intro l1 h1;have n1:l1≠x:=fun e=>by rw [e,ay] at h1;cases h1
 have h1':H l1=none:=by rw [aj n1] at h1;exact h1
 refine ⟨x,dx,_,rfl,by rw [aj (wP n1),ay],by walk_at "f",fun l2 h2=>?_⟩;have n2:l2≠x:=fun e=>by rw [e,ay] at h2;cases h2
 rw [aj n2] at h2;have n3:l2≠l1:=fun e=>by rw [e,ay] at h2;cases h2
 rw [aj n3,aj n2] at h2;refine ⟨x,dx,_,rfl,by rw [aj (wP n2),ay],by walk_at "f",?_⟩;refine q l1 l2 _ h1' h2 (wP n3) n1 n2 (fun b b1 b2 b3=>?_) ?_ ?_ _ ?_ (fun f=>?_) ay
 ·rw [aj b1,aj b3,aj b1,aj b2,aj b1]
 ·rw [aj n1,aj (wP n3),aj n1,ay]
 ·rw [aj n2,ay]
 ·exact wE (by (repeat (refine cQ ?_));exact Do _) (ul 40)
 ·rfl
def PU:T.se.k P w mg base 1 (R9 T.aJ):=by
 refine T.se.F.ok ada (fun _ _ _ _ h=>fX h fun _ _=>rfl) fun _ A _ s H vs Q E hr h=>fX h fun x h=>?_;obtain ⟨dx,hx,q⟩:=h;refine ⟨_,((ad (bP T.bx T.pb (ac 0) (db ae))
 (ah (bP T.bx T.Bu (ac 0) bi)))).h,?_⟩
 refine stI [some (.ref x)] ?_;refine ai ?_;walk_at "rd";refine ⟨fits (by simp),fun l hl=>?_⟩;have n1:l≠x:=fun e=>by rw [e,hx] at hl;cases hl
 refine ⟨x,dx,_,rfl,by rw [aj (wP n1)];exact hx,by decide,?_⟩;refine ⟨x,dx,_,rfl,ay,by walk_at "f",?_⟩;refine q l _ hl n1 (fun b b1 b2=>?_) ?_ _ ?_ (fun f=>?_) ay
 ·rw [aj b1,aj b1,aj b2]
 ·rw [aj n1,aj n1,ay]
 ·exact wE (cQ (cQ (Do _))) (show 0+1+1<=40 by decide)
 ·rfl
def U6:T.sv.k P w mg base 1 (Sy T.aM):=by
 refine T.sv.F.ok adg (fun _ _ _ _ h=>gz h fun _ _ _=>rfl) fun _ A _ s H vs Q E hr h=>gz h fun x z h=>?_;obtain ⟨a,i,t,cK,rfl,q⟩:=h;obtain ⟨fs,hx,bh,sf⟩:=cK.o;refine ⟨_,((ah (aK (FF (bw gK (ac 1) (bd T.cC T.vd (ac 0))) (bd T.cC T.wu (ac 0)) (bd T.cC T.vy (ac 0)))))).h,?_⟩;refine stI [some (V.ref a.th),some (V.str z)] ?_;left;refine (fI hx sf rfl ?_);dsimp only;unfold fK at q;by_cases e:z=t.ow
 ·rw [xz e];rw [AT e] at q;exact cz (fI hx sf rfl q)
 ·rw [tz e];rw [zn e] at q;exact bZ (fI hx sf rfl q)
def zJ:T.kE.k P w mg base 3 (Z1 T.aJ T.aM):=by
 refine T.kE.F.ok LP (fun _ _ _ _ h=>Kx h fun _ _ _ _ _ _ _=>rfl) fun _ A _ s H vs Q E hr h=>Kx h fun x kd ow mi re tx h=>?_;obtain ⟨dt,ml,rs,⟨⟨fs,c,hx,bh,sf⟩,ic⟩,ib,q⟩:=h;refine ⟨_,((ad (oC T.bx T.Bu ni (ac 0) bi)
  (ad (aO 6 LP.nd (bJ (gN (K:=K) rfl) T.gv IR (aa (bd T.bx T.pb (ac 0)) ae)))
  (ad (aL (dU wf wn dW (bd T.bx T.pb (ac 0)) (aa (li T.UO (Rz T) hr.m T.ZX T.rH.b .nil aB (aa (ac 6) (aa (ac 1) (aa (ac 2) (aa (ac 3) (aa (ac 4) (aa (ac 5) ae))))))) ae)))
  (ah (aK (ac 6))))))).h,?_⟩
 refine stI [some (.ref x),some kd,some ow,some mi,some re,some tx,none] ?_;have dQ:ml≠x:=fun e=>by rw [e,hx] at ic;cases ic
 refine ai ?_;walk_at "rd";refine ⟨x,dt,fs,.int c,rfl,hx,(sf _).trans rfl,_,_,rfl,rfl,dt,fs,hx,by omega,ai ?_⟩;have fG:dB (aA "changes" (.int (c+1)) fs) (rg ml (c+1)):=fun f=>by rw [(sf.put "changes" (.int (c+1))) f];rfl
 have qU:(aA "changes" (.int (c+1)) fs).length<=41:=cQ bh;have cu:upd H x (.ins T.aJ dt (aA "changes" (.int (c+1)) fs)) x=some (.ins T.aJ dt (aA "changes" (.int (c+1)) fs)):=ay;have lN:upd H x (.ins T.aJ dt (aA "changes" (.int (c+1)) fs)) ml=some (.lst rs):=by rw [aj dQ];exact ic
 have iN:Kp [x] H (upd H x (.ins T.aJ dt (aA "changes" (.int (c+1)) fs))):=fun b o hb e=>by rw [aj (fun z=>hb (by simp [z]))];exact e
 have oJ:∀ b,b≠x->upd H x (.ins T.aJ dt (aA "changes" (.int (c+1)) fs)) b=H b:=fun b hb=>aj hb;generalize upd H x (.ins T.aJ dt (aA "changes" (.int (c+1)) fs))=H1 at cu lN iN oJ ⊢;walk_at "rd";refine ⟨x,dt,_,.ref ml,rfl,cu,(fG _).trans rfl,?_⟩;simp only [bR,lN];refine ai ?_;walk_at "rd";refine ⟨x,dt,_,.ref ml,rfl,cu,(fG _).trans rfl,?_⟩;simp only [lN];intro th dH aS hdth qV;refine ⟨dH,ay,fun nm pl H2 cM cf hnp hn1 lQ fr2 hnm2 hpl2 ks mX sk hth2=>⟨rfl,?_⟩⟩;have E3:∀ b o,H1 b=some o->upd (upd H1 dH (HO.own th)) th (HO.ins T.aM dH []) b=some o:=fun b o e=>by
  rw [aj (bo e aS),aj (bo e hdth)];exact e
 have E9:∀ b o,H1 b=some o->H2 b=some o:=fun b o e=>by
  rw [fr2 b (bo e aS) (bo (E3 b o e) cM) (bo (E3 b o e) cf)];exact E3 b o e
 have dn:∀ d,d≠th->upd (upd H1 dH (HO.own th)) th (HO.ins T.aM dH []) d=none->H1 d=none:=fun d n e=>by
  rw [aj n] at e;by_cases z:d=dH
  ·rw [z,ay] at e;cases e
  ·rw [aj z] at e;exact e
 have Ou:=dn nm hn1 cM;have MW:=dn pl lQ cf;have E7:∀ d,H1 d=none->H d=none:=fun d e=>by rw [<- oJ d (wP (bo cu e))];exact e
 simp only [E9 _ _ lN];refine ⟨lh (by omega),?_⟩;refine q th dH nm pl ks _ (E7 _ aS) (E7 _ Ou) (E7 _ MW) ⟨⟨_,c+1,by rw [aj (wP dQ)];exact E9 _ _ cu,?_,fG⟩,ay⟩ (by rw [aj (wP (bo lN aS))];exact hth2) mX sk
  (by rw [aj (wP (bo lN Ou))];exact hnm2) (by rw [aj (wP (bo lN MW))];exact hpl2) (fun b o hb e=>?_)
 ·rw [lB (u:=.int c) ((sf _).trans rfl)];exact bh
 ·simp only [pi,ss,AC,_F] at hb;rw [aj hb.2];exact E9 _ _ (iN b o (by simp [hb.1]) e)
def Cr:T.kY.k P w mg base 4 (U7 T.aJ T.aM):=by
 refine T.kY.F.ok Tw (fun _ _ _ _ h=>vc h fun _ _ _ _ _=>rfl) fun _ A _ s H vs Q E hr h=>vc h fun x ow mi re h=>?_;obtain ⟨dt,ml,rs,at',ib,q⟩:=h;obtain ⟨fs,c,hx,bh,sf⟩:=at'.o;refine ⟨_,((ah (aK (bB T.bx T.kE.h (zJ T) hr.m T.kE.b .nil aB (ac 0) (aa (em (.str "folder") T.xp ⟨_,rfl⟩) (aa (ac 1) (aa (ac 2) (aa (ac 3) (aa ap ae))))))))).h,?_⟩;refine stI [some (.ref x),some ow,some mi,some re] ?_;left;exact ⟨x,dt,fs,rfl,hx,(sf _).trans rfl,dt,ml,rs,at',ib,q⟩
def eB:aq P w K mg base (aR P w) 2 T.bS.f T.bS.d ["self","number"] (BY T.aD T.aJ T.aM T.bH):=by
 refine T.bS.F.br adE (fun _ _ _ _ h=>u9 h fun _ _ _=>rfl) fun _ A _ s H vs Q E hr h=>u9 h fun x v h=>?_;obtain ⟨AA,L,M,i,rfl,ky,q1,q2⟩:=h;obtain ⟨fs,c,hx,bh,sf⟩:=i.t;refine ⟨_,((ad (aW (gk (io (cX (cO (bn (HU T) hr.m T.lI.m T.lI.F.kp T.lI.b .nil aB (aa (ac 1) ae)))) (i0 (cX (xj kS yQ bi (ac 1) (bJ (gN (K:=K) rfl) T.gv IR (aa (bd T.bx T.pb (ac 0)) ae))))))) (ah (jx jG rfl T.Mi T.Xe (aa ap ae))) cr)
 (ah (aK (dl (bI (K:=K) rfl) (bd T.bx T.pb (ac 0)) (ac 1)))))).h,?_⟩
 refine stI [some (.ref AA.t),some v] ?_;right;refine ⟨ky,?_⟩;cases v with
 | int n =>
  simp only [Fs,_y,FB,Ty];refine sJ (fun h0=>?_) (fun h0=>cz ⟨fits (by simp),q2 fun j e=>?_⟩)
  ·have h0':0<=n:=_U h0;refine ⟨AA.t,_,_,.ref AA.ml,rfl,hx,(sf _).trans rfl,?_⟩;simp only [bR,i.ml,pp,i.len];obtain ⟨k,rfl⟩:=_l h0';by_cases hk:k < M.ts.length
   ·rw [xz (show (k:Int) < (M.ts.length:Int) by omega)];refine bZ ⟨AA.t,_,_,.ref AA.ml,rfl,hx,(sf _).trans rfl,?_⟩;simp only [bR,i.ml];have Nx:k < L.length:=by rw [i.len];exact hk
    rw [lK (xs:=L.map fun a=>V.ref a.th) (j:=k) (by rw [Da,mo Nx];rfl)];exact q1 k _ _ rfl (mo Nx) (mo hk)
   ·rw [tz (show ¬ (k:Int) < (M.ts.length:Int) by omega)];refine cz ⟨fits (by simp),q2 fun j e=>?_⟩;injection e with e;have:k=j:=by omega
    rw [<- this];exact hk
  ·injection e with e;exact absurd (xz (show (0:Int)<=n by omega)) h0
 | _=>exact ⟨fits (by simp),q2 fun k e=>by cases e⟩
def S7:T.rJ.k P w mg base 1 (Fl T.aD T.aJ T.aM Ad.t):=by
 refine T.rJ.F.ok Ro (fun _ _ _ _ h=>fX h fun _ _=>rfl) fun _ A _ s H vs Q E hr h=>fX h fun x h=>?_;obtain ⟨AA,L,M,i,rfl,q⟩:=h;obtain ⟨fs,c,hx,bh,sf⟩:=i.t;refine ⟨_,((ah (aK (bJ (gN (K:=K) rfl) T.gv IR (aa (bd T.bx T.pb (ac 0)) ae))))).h,?_⟩;refine stI [some (.ref AA.t)] ?_;left;refine ⟨AA.t,_,_,.ref AA.ml,rfl,hx,(sf _).trans rfl,?_⟩;simp only [bR,i.ml,pp,i.len];exact q
section
variable {T:Tx K mg} {H:Hp} {A:Ad} {L:List Ta} {M:Hs}
def iV {k:Nat} {a:Ta} {t:Th} {Q:VK} {E:XK} (i:aI T.aD T.aJ T.aM H A L M) (ha:L[k]?=some a) (ht:M.ts[k]?=some t) (q:Q (.ref a.th) H):BY T.aD T.aJ T.aM T.bH [.ref A.t,.int (k:Int)] H Q E :=
 ⟨A,L,M,i,rfl,⟨_,rfl⟩,fun j a' t' e h1 h2=>by
  injection e with e;have:k=j:=by omega
  subst this;rw [ha] at h1;cases h1;exact q,fun h=>absurd (sK.mp ht).1 (h k rfl)⟩
def eJ {k:Nat} {a:Ta} {t:Th} (i:aI T.aD T.aJ T.aM H A L M) (ha:L[k]?=some a) (ht:M.ts[k]?=some t):jg T.aM H a k t:=by
 obtain ⟨a',e,h⟩:=i.th k t ht;rw [ha] at e;cases e;exact h
end
def Gm:T.gD.k P w mg base 3 (UI T.aD T.aJ T.aM Ad.t):=by
 refine T.gD.F.ok MB (fun _ _ _ _ h=>pQ h fun _ _ _ _=>rfl) fun _ A _ s H vs Q E hr h=>pQ h fun x n z h=>?_;obtain ⟨AA,L,M,k,a,t,i,rfl,rfl,ha,aS,q⟩:=h;obtain ⟨fs,c,hx,bh,sf⟩:=i.h;obtain ⟨gs,c2,ht,dN,sg⟩:=i.t;have cK:=eJ i ha aS;obtain ⟨ks,ho,ia,so⟩:=cK.o;refine ⟨_,((ah (aK (zb (eA hr) (bd T.cC T.pj (bf T.bx T.bS.h (eB T) hr.m T.bS.b .nil dJ (ac 0) (aa (ac 1) ae))) (ac 2))))).h,?_⟩;refine stI [some (V.ref AA.t),some (V.int (k:Int)),some (V.str z)] ?_;left;refine (mI ht sg (iV i ha aS ⟨a.th,_,_,.ref a.nm,rfl,ho,(so _).trans rfl,a.nm,rfl,.inl ⟨_,.inl cK.nm⟩,_,dS.k (k:=.inr z) cK.nm,q⟩))
def WC:T.jf.k P w mg base 3 (iw T.aD T.aJ T.aM Ad.t Ln):=by
 refine T.jf.F.ok Fo (fun _ _ _ _ h=>cL h fun _ _ _=>rfl) fun _ A _ s H vs Q E hr h=>cL h fun x n h=>?_;obtain ⟨AA,L,M,k,a,t,i,rfl,rfl,ha,aS,q⟩:=h;obtain ⟨fs,c,hx,bh,sf⟩:=i.h;obtain ⟨gs,c2,ht,dN,sg⟩:=i.t;have cK:=eJ i ha aS;obtain ⟨ks,ho,ia,so⟩:=cK.o;refine ⟨_,((ah (aK (Dv.minD rfl T.Iv (bd T.cC T.oq (bf T.bx T.bS.h (eB T) hr.m T.bS.b .nil dJ (ac 0) (aa (ac 1) ae))))))).h,?_⟩;refine stI [some (V.ref AA.t),some (V.int (k:Int))] ?_;left;refine (mI ht sg (iV i ha aS ⟨a.th,_,_,.ref a.pl,rfl,ho,(so _).trans rfl,a.pl,_,rfl,cK.pl,?_⟩));rcases q with ⟨e,q⟩ | ⟨f,z,e,q⟩
 ·rw [e];exact .inl ⟨rfl,q⟩
 ·rw [e];exact .inr ⟨_,_,rfl,q⟩
def vU:T.fN.k P w mg base 3 (iw T.aD T.aJ T.aM Ad.a xx):=by
 refine T.fN.F.ok FH (fun _ _ _ _ h=>cL h fun _ _ _=>rfl) fun _ A _ s H vs Q E hr h=>cL h fun x n h=>?_;obtain ⟨AA,L,M,k,a,t,i,rfl,rfl,ha,aS,q⟩:=h;obtain ⟨fs,c,hx,bh,sf⟩:=i.h;obtain ⟨gs,c2,ht,dN,sg⟩:=i.t;have cK:=eJ i ha aS;obtain ⟨ks,ho,ia,so⟩:=cK.o;refine ⟨_,((ah (aK (bd T.cC T.xD (bf T.bx T.bS.h (eB T) hr.m T.bS.b .nil dJ (bd T.aE T.cP (ac 0)) (aa (ac 1) ae)))))).h,?_⟩;refine stI [some (V.ref AA.a),some (V.int (k:Int))] ?_;left;exact ⟨AA.a,_,_,.ref AA.t,rfl,hx,(sf _).trans rfl,AA.t,_,_,rfl,ht,(sg _).trans rfl,iV i ha aS (fI ho so rfl q)⟩
def JI:T.iH.k P w mg base 4 (iw T.aD T.aJ T.aM Ad.a Ln):=by
 refine T.iH.F.ok Jp (fun _ _ _ _ h=>cL h fun _ _ _=>rfl) fun _ A _ s H vs Q E hr h=>cL h fun x n h=>?_;obtain ⟨AA,L,M,k,a,t,i,rfl,rfl,ha,aS,q⟩:=h;obtain ⟨fs,c,hx,bh,sf⟩:=i.h;obtain ⟨gs,c2,ht,dN,sg⟩:=i.t;have cK:=eJ i ha aS;obtain ⟨ks,ho,ia,so⟩:=cK.o;refine ⟨_,((ah (aK (bB T.bx T.jf.h (WC T) hr.m T.jf.b .nil aB (bd T.aE T.cP (ac 0)) (aa (ac 1) ae))))).h,?_⟩;refine stI [some (V.ref AA.a),some (V.int (k:Int))] ?_;left;exact ⟨AA.a,_,_,.ref AA.t,rfl,hx,(sf _).trans rfl,AA.t,_,_,rfl,ht,(sg _).trans rfl,AA,L,M,k,a,t,i,rfl,rfl,ha,aS,q⟩
def UX:T.rV.k P w mg base 3 (iw T.aD T.aJ T.aM Ad.a Xn):=by
 refine T.rV.F.ok Z5 (fun _ _ _ _ h=>cL h fun _ _ _=>rfl) fun _ A _ s H vs Q E hr h=>cL h fun x n h=>?_;obtain ⟨AA,L,M,k,a,t,i,rfl,rfl,ha,aS,q⟩:=h;obtain ⟨fs,c,hx,bh,sf⟩:=i.h;obtain ⟨gs,c2,ht,dN,sg⟩:=i.t;have cK:=eJ i ha aS;obtain ⟨ks,ho,ia,so⟩:=cK.o;refine ⟨_,((ah (aL (bf T.bx T.bS.h (eB T) hr.m T.bS.b .nil dJ (bd T.aE T.cP (ac 0)) (aa (ac 1) ae))))).h,?_⟩;refine stI [some (V.ref AA.a),some (V.int (k:Int))] ?_;left;exact ⟨AA.a,_,_,.ref AA.t,rfl,hx,(sf _).trans rfl,AA.t,_,_,rfl,ht,(sg _).trans rfl,iV i ha aS q⟩
def Gg:T.oB.k P w mg base 2 (Fl T.aD T.aJ T.aM Ad.a):=by
 refine T.oB.F.ok aaV (fun _ _ _ _ h=>fX h fun _ _=>rfl) fun _ A _ s H vs Q E hr h=>fX h fun x h=>?_;obtain ⟨AA,L,M,i,rfl,q⟩:=h;obtain ⟨fs,c,hx,bh,sf⟩:=i.h;obtain ⟨gs,c2,ht,dN,sg⟩:=i.t;refine ⟨_,((ah (aK (qC T.bx T.rJ.h (S7 T) hr.m T.rJ.b .nil aB (bd T.aE T.cP (ac 0)))))).h,?_⟩;refine stI [some (V.ref AA.a)] ?_;left;exact ⟨AA.a,_,_,.ref AA.t,rfl,hx,(sf _).trans rfl,AA.t,_,_,rfl,ht,(sg _).trans rfl,AA,L,M,i,rfl,q⟩
section
variable {CH CS CT:Addr} {H:Hp} {A:Ad} {L:List Ta} {M:Hs}
def aI.w9 (i:aI CH CS CT H A L M) {k:Nat} {a:Ta} (ha:L[k]?=some a):∀ b∈A.w,∀ c∈a.l,b≠c:=fun b hb c hc=>by
 have nd:=i.nd;rw [Gc] at nd;exact nd.2.2 b hb c (mv ha hc)
def aI.aT (i:aI CH CS CT H A L M):A.a≠A.t:=by
 have nd:=i.nd;rw [Gc] at nd;have:=(Fr.mp nd.1).1;exact fun e=>this (by rw [e];simp)
def Ff:∀ {L:List Ta} {k:Nat} {a:Ta},(L.flatMap Ta.l).Nodup->L[k]?=some a->a.l.Nodup
 | c::r,0,a,nd,h=>by
  rw [Tl,Gc] at nd;simp only [List.getElem?_cons_zero,Option.some.injEq] at h;subst h;exact nd.1
 | c::r,k+1,a,nd,h=>by
  rw [Tl,Gc] at nd;simp only [List.getElem?_cons_succ] at h;exact Ff nd.2.1 h
def aI.own (i:aI CH CS CT H A L M) {k:Nat} {a:Ta} (ha:L[k]?=some a):a.th≠a.nm/\a.th≠a.pl/\a.nm≠a.pl:=by
 have nd:=i.nd;rw [Gc] at nd;have:=Ff nd.2.1 ha;simp only [Ta.l,Fr,pi,ss,AC,_F,not_false_eq_true,Jad,and_true] at this;exact ⟨this.1.1,this.1.2,this.2⟩
end
def ac2 (CH CS CT:Addr):Sp:=wx fun x n z H Q _=>X6 fun A L M (k:Nat) a t=>A7 (aI CH CS CT H A L M) (A.t=x) (n=(k:Int)) (L[k]?=some a) (M.ts[k]?=some t) (bb (sD t.bU) (.inr z)=none) (Q .aw H)
def Uq:T.ub.k P w mg base 4 (ac2 T.aD T.aJ T.aM):=by
 refine T.ub.F.ok Ka (fun _ _ _ _ h=>pQ h fun _ _ _ _=>rfl) fun _ A _ s H vs Q E hr h=>pQ h fun x n z h=>?_;obtain ⟨AA,L,M,k,a,t,i,rfl,rfl,ha,aS,hv,q⟩:=h;obtain ⟨gs,c2,ht,dN,sg⟩:=i.t;refine ⟨_,((ad (aO 3 Ka.nd (bB T.bx T.gD.h (Gm T) hr.m T.gD.b .nil aB (ac 0) (aa (ac 1) (aa (ac 2) ae))))
 (ah (aW (bw Iq (ac 3) aw) (ad ck
 (ad ck
 (ah ck))) cr)))).h,?_⟩
 refine stI [some (V.ref AA.t),some (V.int (k:Int)),some (V.str z),none] ?_;right;refine (mI ht sg ⟨AA,L,M,k,a,t,i,rfl,rfl,ha,aS,?_⟩);rw [hv];refine ⟨by trivial,?_⟩;exact bZ q
def TB (CH CS CT:Addr):Sp:=HG fun x fn z kn H Q _=>X9 fun A L M (f:Nat) (k:Nat) af tf ak tk=>Cd (aI CH CS CT H A L M) (A.t=x) (fn=(f:Int)) (kn=(k:Int)) (L[f]?=some af) (M.ts[f]?=some tf) (L[k]?=some ak) (M.ts[k]?=some tk) (f≠k) (bb (sD tf.bU) (.inr z)=none) (tf.bU.length<=500) (tk.df=[]) (∀ H',aI CH CS CT H' A L { M with ts:=(M.ts.set f { tf with bU:=tf.bU++[(z,k)] }).set k { tk with df:=[(f,z)] } }->Kp [A.t,af.nm,ak.pl] H H'->Q .aw H')
def Bl {l:List (Str×Nat)} {z:Str} {k:Nat} (h:bb (sD l) (.inr z)=none):putK (sD l) (.inr z) (.int (k:Int))=sD (l++[(z,k)]):=by
 have e:((sD l).any fun kv=>decide (kv.1=(Sum.inr z:Key)))=false:=by rw [zK,h];rfl
 unfold putK;rw [e];simp [sD]
def aaq:T.sY.k P w mg base 5 (TB T.aD T.aJ T.aM):=by
 refine T.sY.F.ok wK (fun _ _ _ _ h=>IF h fun _ _ _ _ _=>rfl) fun _ A _ s H vs Q E hr h=>IF h fun x fn z kn h=>?_;obtain ⟨AA,L,M,f,k,af,tf,ak,tk,i,rfl,rfl,rfl,ke,qY,gH,fA,hfk,hv,MK,cf,q⟩:=h;obtain ⟨fs,c,hx,bh,sf⟩:=i.h;obtain ⟨gs,c2,ht,dN,sg⟩:=i.t;have NC:=eJ i gH fA;obtain ⟨ks,ho,ia,so⟩:=NC.o;refine ⟨_,((ad (aO 4 wK.nd (bf T.bx T.bS.h (eB T) hr.m T.bS.b .nil dJ (ac 0) (aa (ac 3) ae)))
 (ad (oC T.bx T.Bu ni (ac 0) bi)
 (ad (aL (bB T.bx T.ub.h (Uq T) hr.m T.ub.b .nil aB (ac 0) (aa (ac 1) (aa (ac 2) ae))))
 (ad (aW (bw fk (bd T.cC T.xD (ac 4)) (em (.str "file") T.Dm ⟨_,rfl⟩)) (ah (Ao _c rfl (lG (K:=K) rfl (Ur (O3 rfl) T.zk acT (aa (bd T.cC T.oq (ac 4)) ae))) (YZ (K:=K) (n:=2) rfl rfl (J3 (hX 5 wK.nd) (J3 (hX 6 wK.nd) WL))) (ah ck))) cr)
 (ad (tW (eA hr) (bd T.cC T.pj (bf T.bx T.bS.h (eB T) hr.m T.bS.b .nil dJ (ac 0) (aa (ac 1) ae))) (ac 2) (ac 3))
 (ah (tW (eA hr) (bd T.cC T.oq (ac 4)) (jp (aa (ac 1) (aa (ac 2) ae))) ge)))))))).h,?_⟩
 refine stI [some (V.ref AA.t),some (V.int (f:Int)),some (V.str z),some (V.int (k:Int)),none,none,none] ?_;right;refine (mI ht sg (iV i gH fA ?_));right;refine ⟨AA.t,_,_,.int c2,rfl,ht,(sg _).trans rfl,_,_,rfl,rfl,_,_,ht,by omega,ai ?_⟩;have tn:∀ b∈ak.l,AA.t≠b:=i.w9 gH _ (by simp [Ad.w]);have i1:aI T.aD T.aJ T.aM (upd H AA.t (.ins T.aJ AA.dt (aA "changes" (.int (c2+1)) gs))) AA L M:=by
  have w:=i.write (H':=upd H AA.t (.ins T.aJ AA.dt (aA "changes" (.int (c2+1)) gs))) (t':=tk) gH ⟨fs,c,by rw [aj i.aT];exact hx,bh,sf⟩ ⟨_,c2+1,ay,by rw [lB (u:=.int c2) ((sg _).trans rfl)];exact dN,fun f=>by rw [(sg.put "changes" (.int (c2+1))) f];rfl⟩
   (NC.keep (W:=[AA.t]) (fun b o hb e=>by rw [aj (fun z=>hb (by simp [z]))];exact e) fun b hb=>by simp [wP (tn b hb)]) (fun b o hb e=>by simp only [pi,ss,AC,_F] at hb;rw [aj hb.2.1];exact e)
  have e:M.ts.set k tk=M.ts:=by
   apply List.ext_getElem?;intro j;by_cases hj:k=j
   ·subst hj;rw [TW (sK.mp fA).1,fA]
   ·rw [SZ hj]
  rw [e] at w;exact w
 have iN:Kp [AA.t] H (upd H AA.t (.ins T.aJ AA.dt (aA "changes" (.int (c2+1)) gs))):=fun b o hb e=>by rw [aj (fun z=>hb (by simp [z]))];exact e
 generalize upd H AA.t (.ins T.aJ AA.dt (aA "changes" (.int (c2+1)) gs))=H1 at i1 iN ⊢;obtain ⟨gs1,c3,hZ,Of,DV⟩:=i1.t;have MS:=eJ i1 gH fA;have ithf1:=eJ i1 ke qY;obtain ⟨ks1,MX,hol1,Nn⟩:=MS.o;obtain ⟨oS,dZ,qU,fG⟩:=ithf1.o;left;refine (mI hZ DV ⟨AA,L,M,f,af,tf,i1,rfl,rfl,ke,qY,hv,?_⟩);refine aX (fun σ' H'=>ag H1 H'/\∃ t5 t6,σ'=[some (V.ref AA.t),some (V.int (f:Int)),some (V.str z),some (V.int (k:Int)),some (.ref ak.th),t5,t6]) ?_ ?_
 ·left;refine (fI MX Nn rfl ?_);refine sJ (fun _=>?_) (fun _=>⟨ag.refl _,_,_,rfl⟩);refine (fI MX Nn rfl ?_);have DR:H1 ak.pl=some (.dT []):=by have:=MS.pl;rw [cf] at this;exact this
  refine ⟨ak.pl,_,rfl,DR,?_⟩;intro l ks hk _ hl;have EZ:ks=[]:=_k.mp hk;subst EZ;refine ⟨⟨_,aH.of ay⟩,Gf (xs:=[]) (fun _ σ' H'=>H'=upd H1 l (.lst [])/\σ'=[some (V.ref AA.t),some (V.int (f:Int)),some (V.str z),some (V.int (k:Int)),some (.ref ak.th),none,none]) ⟨rfl,rfl⟩ (fun _ σ' H' _ h=>by rw [h.1];exact aH.of ay) (fun j x σ' H' hx _=>by simp at hx) (fun σ' H' h=>?_)⟩;obtain ⟨rfl,rfl⟩:=h;exact ⟨ag.upd hl,_,_,rfl⟩
 ·rintro σ' H2 ⟨s2,t5,t6,rfl⟩;have i2:=i1.same s2;obtain ⟨gs2,c4,kz,hgl2,NZ⟩:=i2.t;obtain ⟨xP,d2,dg,hxl2,sx2⟩:=i2.h;have Fc:=eJ i2 ke qY;obtain ⟨m5,NJ,oY,cW⟩:=Fc.o;have N2:=i2.own ke;have OG:=i2.own gH;have OE:=i2.w9 ke;have NV:=i2.w9 gH;right;refine (mI kz NZ (iV i2 ke qY ⟨af.th,_,_,.ref af.nm,rfl,NJ,(cW _).trans rfl,af.nm,_,rfl,iY.k (k:=.inr z) Fc.nm (lh (by unfold sD;rw [pp];omega)),?_⟩));rw [Bl hv];have i3:aI T.aD T.aJ T.aM (upd H2 af.nm (.dK (sD (tf.bU++[(z,k)])))) AA L { M with ts:=M.ts.set f { tf with bU:=tf.bU++[(z,k)] } }:=by
   refine i2.write ke ⟨xP,d2,by rw [aj (OE _ (by simp [Ad.w]) _ (by simp [Ta.l]))];exact dg,hxl2,sx2⟩ ⟨gs2,c4,by rw [aj (OE _ (by simp [Ad.w]) _ (by simp [Ta.l]))];exact kz,hgl2,NZ⟩ ⟨⟨m5,by rw [aj N2.1];exact NJ,oY,cW⟩,ay,by rw [aj (wP N2.2.2)];exact Fc.pl⟩ (fun b o hb e=>?_);simp only [pi,ss,AC,_F] at hb;rw [aj hb.2.2.2.1];exact e
  have Nd:Kp [AA.t,af.nm] H (upd H2 af.nm (.dK (sD (tf.bU++[(z,k)])))):=fun b o hb e=>by
   simp only [pi,ss,AC,_F] at hb;rw [aj hb.2];exact s2 _ _ (iN b o (by simp [hb.1]) e)
  generalize upd H2 af.nm (.dK (sD (tf.bU++[(z,k)])))=H3 at i3 Nd ⊢;have Oj:(M.ts.set f { tf with bU:=tf.bU++[(z,k)] })[k]?=some tk:=by rw [SZ hfk];exact fA
  have ithk3:=eJ i3 gH Oj;obtain ⟨ks3,ho3,hol3,so3⟩:=ithk3.o;left;refine ⟨ak.th,_,_,.ref ak.pl,rfl,ho3,(so3 _).trans rfl,fits (by simp),fun p hp=>?_⟩;refine eV hp fun H4 s4 b4=>?_;have i4:=i3.same s4;have EG:=eJ i4 gH Oj;obtain ⟨ks4,ho4,hol4,so4⟩:=EG.o;obtain ⟨gs4,c5,ht4,hgl4,sg4⟩:=i4.t;obtain ⟨hs4,d4,lM,hxl4,sx4⟩:=i4.h;have hpl4:H4 ak.pl=some (.dT []):=by have:=EG.pl;rw [cf] at this;exact this
  refine ⟨ak.pl,_,rfl,iY.t (k:=[.inl (f:Int),.inr z]) hpl4 b4 (by decide),?_⟩;refine q _ (i4.write gH ⟨hs4,d4,by rw [aj (NV _ (by simp [Ad.w]) _ (by simp [Ta.l]))];exact lM,hxl4,sx4⟩ ⟨gs4,c5,by rw [aj (NV _ (by simp [Ad.w]) _ (by simp [Ta.l]))];exact ht4,hgl4,sg4⟩ ⟨⟨ks4,by rw [aj OG.2.1];exact ho4,hol4,so4⟩,by rw [aj OG.2.2];exact EG.nm,ay⟩ (fun b o hb e=>?_)) (fun b o hb e=>?_)
  ·simp only [pi,ss,AC,_F] at hb;rw [aj hb.2.2.2.2];exact e
  ·simp only [pi,ss,AC,_F] at hb;rw [aj hb.2.2];exact s4 _ _ (Nd b o (by simp [hb.1,hb.2.1]) e)
def La (CH:Addr) (fld:Str):Sp:=tY fun x z n H Q _=>X5 fun dx fs c d kvs=>A7 (H x=some (.ins CH dx fs)) (fs.length<=40) (fs.lookup ("changes":Str)=some (.int c)) (fs.lookup fld=some (.ref d)) (H d=some (.dK kvs)) (kvs.length<=40) (Q .aw (upd (upd H x (.ins CH dx (aA "changes" (.int (c+1)) fs))) d (.dK (putK kvs (.inr z) (.int n)))))
def acb (CH:Addr):Sp:=mh fun x z H Q _=>X7 fun dx fs c ro st kr ks=>KI (H x=some (.ins CH dx fs)) (fs.length<=40) (fs.lookup ("changes":Str)=some (.int c)) (fs.lookup ("roots":Str)=some (.ref ro)) (fs.lookup ("standings":Str)=some (.ref st)) (fs.lookup ("first_root":Str)=some (.int 0)) (fs.lookup ("put_root":Str)=none) (fs.lookup ("put_standing":Str)=none) (H ro=some (.dK kr)) (kr.length<=40) (H st=some (.dK ks)) (ks.length<=40) (ro≠st) (∀ fs' c' H',H' x=some (.ins CH dx fs')->fs'.length<=40->dB fs' (aA "changes" (.int c') fs)->H' ro=some (.dK (putK kr (.inr z) (.int 0)))->H' st=some (.dK (putK ks (.inr z) (.int 0)))->(∀ b,b≠x->b≠ro->b≠st->H' b=H b)->Q .aw H')
def Uc:T.sO.k P w mg base 1 (La T.aD "roots"):=by
 refine T.sO.F.ok V5 (fun _ _ _ _ h=>jk h fun _ _ _ _=>rfl) fun _ A _ s H vs Q E hr h=>jk h fun x z n h=>?_;obtain ⟨dx,fs,c,d,kvs,hx,bh,hc,hd,hD,mX,q⟩:=h;refine ⟨_,((ad (oC T.aE T.wA ni (ac 0) bi)
 (ah (tW (eA hr) (bd T.aE T.pw (ac 0)) (ac 1) (ac 2))))).h,?_⟩
 refine stI [some (V.ref x),some (V.str z),some (V.int n)] ?_;have dQ:d≠x:=fun e=>by rw [e,hx] at hD;cases hD
 right;refine ⟨x,dx,fs,.int c,rfl,hx,hc,_,_,rfl,rfl,dx,fs,hx,by omega,?_⟩;left;refine ⟨x,dx,_,.ref d,rfl,ay,by rw [eP,zn (by decide)];exact hd,d,_,rfl,iY.k (k:=.inr z) (by rw [aj dQ];exact hD) (lh (by omega)),q⟩
def UP:T.tN.k P w mg base 1 (La T.aD "standings"):=by
 refine T.tN.F.ok Ti (fun _ _ _ _ h=>jk h fun _ _ _ _=>rfl) fun _ A _ s H vs Q E hr h=>jk h fun x z n h=>?_;obtain ⟨dx,fs,c,d,kvs,hx,bh,hc,hd,hD,mX,q⟩:=h;refine ⟨_,((ad (oC T.aE T.wA ni (ac 0) bi)
 (ah (tW (eA hr) (bd T.aE T.CB (ac 0)) (ac 1) (ac 2))))).h,?_⟩
 refine stI [some (V.ref x),some (V.str z),some (V.int n)] ?_;have dQ:d≠x:=fun e=>by rw [e,hx] at hD;cases hD
 right;refine ⟨x,dx,fs,.int c,rfl,hx,hc,_,_,rfl,rfl,dx,fs,hx,by omega,?_⟩;left;refine ⟨x,dx,_,.ref d,rfl,ay,by rw [eP,zn (by decide)];exact hd,d,_,rfl,iY.k (k:=.inr z) (by rw [aj dQ];exact hD) (lh (by omega)),q⟩
def GW:T.nW.k P w mg base 2 (acb T.aD):=by
 refine T.nW.F.ok aaI (fun _ _ _ _ h=>gz h fun _ _ _=>rfl) fun _ A _ s H vs Q E hr h=>gz h fun x z h=>?_;obtain ⟨dx,fs,c,ro,st,kr,ks,hx,bh,hc,lR,bt,lW,kh,m9,D8,hkr,DL,EZ,lV,q⟩:=h;refine ⟨_,((ad (aL (bB T.aE T.sO.h (Uc T) hr.m T.sO.b .nil aB (ac 0) (aa (ac 1) (aa (bd T.aE T.AO (ac 0)) ae))))
 (ah (aL (bB T.aE T.tN.h (UP T) hr.m T.tN.b .nil aB (ac 0) (aa (ac 1) (aa (bd T.aE T.AO (ac 0)) ae))))))).h,?_⟩
 refine stI [some (V.ref x),some (V.str z)] ?_;have n1:ro≠x:=fun e=>by rw [e,hx] at D8;cases D8
 have n2:st≠x:=fun e=>by rw [e,hx] at DL;cases DL
 right;refine ⟨x,dx,fs,rfl,hx,kh,x,dx,fs,.int 0,rfl,hx,lW,?_⟩;refine ⟨dx,fs,c,ro,kr,hx,by omega,hc,lR,D8,hkr,?_⟩;have cu:upd (upd H x (.ins T.aD dx (aA "changes" (.int (c+1)) fs))) ro (.dK (putK kr (.inr z) (.int 0))) x=some (.ins T.aD dx (aA "changes" (.int (c+1)) fs)):=by rw [aj (wP n1),ay]
 have yA:upd (upd H x (.ins T.aD dx (aA "changes" (.int (c+1)) fs))) ro (.dK (putK kr (.inr z) (.int 0))) ro=some (.dK (putK kr (.inr z) (.int 0))):=ay;have NI:upd (upd H x (.ins T.aD dx (aA "changes" (.int (c+1)) fs))) ro (.dK (putK kr (.inr z) (.int 0))) st=some (.dK ks):=by rw [aj (wP lV),aj n2];exact DL
 have oJ:∀ b,b≠x->b≠ro->upd (upd H x (.ins T.aD dx (aA "changes" (.int (c+1)) fs))) ro (.dK (putK kr (.inr z) (.int 0))) b=H b:=fun b b1 b2=>by rw [aj b2,aj b1]
 generalize upd (upd H x (.ins T.aD dx (aA "changes" (.int (c+1)) fs))) ro (.dK (putK kr (.inr z) (.int 0)))=H1 at cu yA NI oJ ⊢;have lk:∀ f:Str,f ≠ "changes" -> (aA "changes" (.int (c+1)) fs).lookup f=fs.lookup f:=fun f hf=>by rw [eP,zn hf]
 left;refine ⟨x,dx,_,rfl,cu,(lk _ (by decide)).trans m9,x,dx,_,.int 0,rfl,cu,(lk _ (by decide)).trans lW,?_⟩;refine ⟨dx,_,c+1,st,ks,cu,by rw [lB hc];exact bh,by rw [eP,AT rfl],(lk _ (by decide)).trans bt,NI,EZ,?_⟩;refine q _ (c+1+1) _ (by rw [aj (wP n2),ay]) (by rw [lB (u:=.int (c+1)) (by rw [eP,AT rfl]),lB hc];exact bh) (fun f=>?_) (by rw [aj lV,aj n1];exact yA) ay (fun b b1 b2 b3=>by rw [aj b3,aj b1];exact oJ b b1 b2);rw [eP,eP,eP];by_cases e:f = "changes"
 ·rw [AT e,AT e]
 ·rw [zn e,zn e,zn e]
def UG (CH CS CT:Addr):Sp:=wL fun x m own H Q _=>A2 (m = "main") (X7 fun dx fs c t dt ml tr=>A9 (H x=some (.ins CH dx fs)) (fs.length<=40) (fs.lookup ("things":Str)=some (.ref t)) (fs.lookup ("changes":Str)=some (.int c)) (fs.lookup ("tree_roots":Str)=some (.ref tr)) (fs.lookup ("add_folder":Str)=none) (lJ CS H t dt ml []) (H tr=some (.dK [])) (∀ th dH nm pl fs' ks c' H',H th=none->H nm=none->H pl=none->H' x=some (.ins CH dx fs')->fs'.length<=fs.length->dB fs' (aA "changes" (.int c') fs)->lJ CS H' t dt ml [.ref th]->H' th=some (.ins CT dH ks)->ks.length<=40 ->
    dB ks (rS (.int 0) (.str "folder") (.str own) (.str "lgw") (.str "lg") (.str "") (.ref nm) (.ref pl))->H' nm=some (.dK [])->H' pl=some (.dT [])->H' tr=some (.dK [(.inr "main",.int 0)])->Kp [x,t,ml,tr] H H'->Q (.int 0) H'))
def Q7:T.su.k P w mg base 5 (UG T.aD T.aJ T.aM):=by
 refine T.su.F.ok HS (fun _ _ _ _ h=>pz h fun _ _ _ _=>rfl) fun _ A _ s H vs Q E hr h=>pz h fun x m own h=>?_;obtain ⟨rfl,dx,fs,c,t,dt,ml,tr,hx,bh,aS,hc,E1,ke,E5,kx,q⟩:=h;obtain ⟨gs,d,ht,dN,sg⟩:=E5.o;have ic:=E5.ml;refine ⟨_,((ad (aO 3 HS.nd (bB T.bx T.kY.h (Cr T) hr.m T.kY.b .nil aB (bd T.aE T.cP (ac 0)) (aa (ac 2) (aa ap (aa ap ae)))))
 (ad (oC T.aE T.wA ni (ac 0) bi)
 (ad (tW (eA hr) (bd T.aE T.vV (ac 0)) (ac 1) (ac 3))
 (ah (aK (ac 3))))))).h,?_⟩
 refine stI [some (V.ref x),some (V.str "main"),some (V.str own),none] ?_;have n1:t≠x\/True:=.inr trivial;right;refine ⟨x,dx,fs,.ref t,rfl,hx,aS,t,dt,gs,rfl,ht,(sg _).trans rfl,?_⟩;refine ⟨dt,ml,[],E5,by simp,?_⟩;intro th dH nm pl ks H1 fth fnm fpl at1 hth1 hkl1 sk1 hnm1 DR iN;obtain ⟨gs',d',hZ,Of,DV⟩:=at1.o;have lN:=at1.ml;have gQ:x≠t:=fun e=>by
  rw [e,ht] at hx;injection hx with hx;injection hx with _ _ dC;rw [<- dC] at aS;have:=(sg "things").symm.trans aS;cases this
 have Nv:x≠ml:=fun e=>by rw [e,ic] at hx;cases hx
 have Oz:tr≠t:=fun e=>by rw [e,ht] at kx;cases kx
 have NG:tr≠ml:=fun e=>by rw [e,ic] at kx;cases kx
 have Nu:tr≠x:=fun e=>by rw [e,hx] at kx;cases kx
 have cu:H1 x=some (.ins T.aD dx fs):=iN _ _ (by simp [gQ,Nv]) hx;have hTr1:H1 tr=some (.dK []):=iN _ _ (by simp [Oz,NG]) kx;right;refine ⟨x,dx,fs,.int c,rfl,cu,hc,_,_,rfl,rfl,dx,fs,cu,by omega,ai ?_⟩;left;refine ⟨x,dx,_,.ref tr,rfl,ay,by rw [eP,zn (by decide)];exact E1,tr,_,rfl,iY.k (k:=.inr "main") (by rw [aj Nu];exact hTr1) (by decide),?_⟩;left;have old:∀ b o,H1 b=some o->b≠x->b≠tr->upd (upd H1 x (.ins T.aD dx (aA "changes" (.int (c+1)) fs))) tr (.dK (putK [] (.inr "main") (.int 0))) b=some o:=fun b o e b1 b2=>by rw [aj b2,aj b1];exact e
 have NB:th≠x/\th≠tr:=⟨wP (bo hx fth),wP (bo kx fth)⟩;have Om:nm≠x/\nm≠tr:=⟨wP (bo hx fnm),wP (bo kx fnm)⟩;have yn:pl≠x/\pl≠tr:=⟨wP (bo hx fpl),wP (bo kx fpl)⟩;refine q th dH nm pl _ ks (c+1) _ fth fnm fpl (by rw [aj (wP Nu),ay]) (Nat.le_of_eq (lB hc)) (dB.refl _) ⟨⟨gs',d',old _ _ hZ (wP gQ) (wP Oz),Of,DV⟩,old _ _ lN (wP Nv) (wP NG)⟩ (old _ _ hth1 NB.1 NB.2) hkl1 sk1 (old _ _ hnm1 Om.1 Om.2) (old _ _ DR yn.1 yn.2) ay ?_;intro b o hb e;simp only [pi,ss,AC,_F] at hb;exact old _ _ (iN b o (by simp [hb.2.1,hb.2.2.1]) e) hb.1 hb.2.2.2
def gi:aq P w K mg base (aR P w) 1 T.cJ.f T.cJ.d ["self","asker"] (Mj T.aD T.aJ T.aM T.bW):=by
 refine T.cJ.F.br acH (fun _ _ _ _ h=>u9 h fun _ _ _=>rfl) fun _ A _ s H vs Q E hr h=>u9 h fun x v h=>?_;obtain ⟨AA,L,M,i,rfl,⟨ty,cm⟩,q1,q2⟩:=h;obtain ⟨fs,c,hx,bh,sf⟩:=i.h;refine ⟨_,((ah (aW (gk (io (cX (cO (bJ iG T.dA du (aa (ac 1) (aa (gY (.ty "str") T.jh jX rfl) ae))))) (i0 (GZ (eA hr) (ac 1) (bd T.aE T.pw (ac 0)))))) (ah (jx jG rfl T.FD T.aak (aa ap ae))) cr))).h,?_⟩;refine stI [some (V.ref AA.a),some v] ?_;left;simp only [cm,nk cm];refine ⟨jS _ rfl,?_⟩;cases v with
 | str z =>
  simp only [mP,_y,FB,Ty];refine ⟨AA.a,_,_,.ref AA.ro,rfl,hx,(sf _).trans rfl,AA.ro,_,rfl,dS.k (k:=.inr z) i.ro,?_⟩;cases hz:bb (sD M.ro) (.inr z) with
  | none=>exact cz ⟨fits (by simp),q2 fun z' e=>by cases e;exact hz⟩
  | some u=>exact bZ (q1 z rfl (by rw [hz];rfl))
 | _=>exact ⟨fits (by simp),q2 fun z' e=>by cases e⟩
section
variable {T:Tx K mg} {H:Hp} {A:Ad} {L:List Ta} {M:Hs}
def eS {z:Str} {Q:VK} {E:XK} (i:aI T.aD T.aJ T.aM H A L M) (hz:(bb (sD M.ro) (.inr z)).isSome=true) (q:Q .aw H):Mj T.aD T.aJ T.aM T.bW [.ref A.a,.str z] H Q E :=
 ⟨A,L,M,i,rfl,⟨_,rfl⟩,fun _ _ _=>q,fun h=>by rw [h z rfl] at hz;cases hz⟩
end
def AU:T.gy.k P w mg base 2 (ab5 T.aD T.aJ T.aM):=by
 refine T.gy.F.ok Ir (fun _ _ _ _ h=>gz h fun _ _ _=>rfl) fun _ A _ s H vs Q E hr h=>gz h fun x z h=>?_;obtain ⟨AA,L,M,r,i,rfl,hz,q⟩:=h;obtain ⟨fs,c,hx,bh,sf⟩:=i.h;refine ⟨_,((ad (aL (bf T.aE T.cJ.h (gi T) hr.m T.cJ.b .nil dJ (ac 0) (aa (ac 1) ae)))
 (ah (aK (ph (eA hr) (bd T.aE T.pw (ac 0)) (ac 1)))))).h,?_⟩
 refine stI [some (V.ref AA.a),some (V.str z)] ?_;right;refine (mI hx sf (eS i (by rw [hz];rfl) ?_));refine ⟨AA.a,_,_,.ref AA.ro,rfl,hx,(sf _).trans rfl,AA.ro,.int r,rfl,?_,q⟩;have:=dS.k (k:=.inr z) i.ro;rw [hz] at this;exact this
def Lp:T.fS.k P w mg base 4 (Pm T.aD T.aJ T.aM):=by
 refine T.fS.F.ok Gi (fun _ _ _ _ h=>pQ h fun _ _ _ _=>rfl) fun _ A _ s H vs Q E hr h=>pQ h fun x n z h=>?_;obtain ⟨AA,L,M,k,a,t,i,rfl,rfl,ha,aS,hn,hl,q⟩:=h;refine ⟨_,((ad (aL (bn (xk T) hr.m T.eg.m T.eg.F.kp T.eg.b .nil aB (aa (ac 2) ae)))
 (ah (aK (bB T.bx T.gD.h (Gm T) hr.m T.gD.b .nil aB (bd T.aE T.cP (ac 0)) (aa (ac 1) (aa (ac 2) ae))))))).h,?_⟩
 refine stI [some (V.ref AA.a),some (V.int (k:Int)),some (V.str z)] ?_;right;refine ⟨⟨_,rfl⟩,hl,hn,fun H1 s1=>?_⟩;have i1:=i.same s1;obtain ⟨fs,c,hx,bh,sf⟩:=i1.h;obtain ⟨gs,c2,ht,dN,sg⟩:=i1.t;exact ⟨AA.a,_,_,.ref AA.t,rfl,hx,(sf _).trans rfl,AA.t,_,_,rfl,ht,(sg _).trans rfl,AA,L,M,k,a,t,i1,rfl,rfl,ha,aS,q H1 s1⟩
def sH:aq P w K mg base (aR P w) 3 T.gU.f T.gU.d ["self","asker","number","right"] (Gw T.aD T.aJ T.aM T.bW T.bV T.bH):=by
 refine T.gU.F.br aa7 (fun _ _ _ _ h=>vc h fun _ _ _ _ _=>rfl) fun _ A _ s H vs Q E hr h=>vc h fun x wv v r h=>?_;obtain ⟨AA,L,M,i,rfl,hcw,hcv,hcr,q1,q2⟩:=h;obtain ⟨fs,c,hx,bh,sf⟩:=i.h;obtain ⟨gs,c2,ht,dN,sg⟩:=i.t;refine ⟨_,((ad (aL (bf T.aE T.cJ.h (gi T) hr.m T.cJ.b .nil aQ (ac 0) (aa (ac 1) ae)))
 (ad (aL (bg (Sm T) hr.m T.pU.m T.pU.F.kp T.pU.b .nil aQ (aa (ac 3) ae)))
 (ah (aK (ii (md (K:=K) rfl) (ac 3) (bB T.cC T.sv.h (U6 T) hr.m T.sv.b .nil aB (bf T.bx T.bS.h (eB T) hr.m T.bS.b .nil aQ (bd T.aE T.cP (ac 0)) (aa (ac 2) ae)) (aa (ac 1) ae)))))))).h,?_⟩
 refine stI [some (V.ref AA.a),some wv,some v,some r] ?_;right;refine (mI hx sf ⟨AA,L,M,i,rfl,hcw,fun z ez hz=>?_,q1⟩);obtain ⟨q3,q4⟩:=q2 z ez hz;subst ez;right;refine ⟨hcr,fun h1=>?_,q3⟩;obtain ⟨st,rfl⟩:∃ st,r=.str st:=by
  unfold iz at h1;simp only [Bool.or_eq_true,LT] at h1;rcases h1 with (h1 | h1) | h1 <;> exact ⟨_,h1⟩
 obtain ⟨q5,q6⟩:=q4 st rfl h1;refine ⟨AA.a,_,_,.ref AA.t,rfl,hx,(sf _).trans rfl,AA.t,_,_,rfl,ht,(sg _).trans rfl,AA,L,M,i,rfl,hcv,fun k a t ev ha aS=>?_,q5⟩;have cK:=eJ i ha aS;obtain ⟨ks,ho,ia,so⟩:=cK.o;exact (mI ho so ⟨a,k,t,cK,rfl,q6 k t ev aS⟩)
def M0 (z:Str):Hs:={ ts:=[{ kd := "folder",ow:=z,mi := "lgw",re := "lg",tx := "",bU:=[],df:=[] }],ro:=[(z,0)],st:=[(z,0)],tr:=[("main",0)],ov:=[],un:=[] }
def Ug (CH CS CT:Addr):Sp:=mh fun x z H Q _=>A4 (∃ dx,H x=some (.ins CH dx [])) (z.length<=1000) (fO (.str z)=true) (∀ A L H',A.a=x->aI CH CS CT H' A L (M0 z)->(∀ b∈A.w++L.flatMap Ta.l,b≠x->H b=none)->Kp [x] H H'->Q .aw H')
structure iW (H0:Hp) (x C dx:Addr) (m:Nat) (fs:List (Str×V)) (ds:List (Addr×HO)) (H:Hp):Prop where
 hx:H x=some (.ins C dx fs)
 n:fs.length<=m
 d:∀ p∈ds,H p.1=some p.2/\p.1≠x/\H0 p.1=none
 nd:(ds.map (·.1)).Nodup
 k:Kp [x] H0 H
section
variable {H0 H:Hp} {x C dx:Addr} {m:Nat} {fs:List (Str×V)} {ds:List (Addr×HO)} {f:Str} {u:TS} {D:Ends} {σ:St}
def iW.set {v:V} (j:iW H0 x C dx m fs ds H):iW H0 x C dx (m+1) (aA f v fs) ds (upd H x (.ins C dx (aA f v fs))) :=
 ⟨ay,cQ j.n,fun p hp=>let ⟨a,b,c⟩:=j.d p hp;⟨by rw [aj b];exact a,b,c⟩,j.nd,fun b o hb e=>by rw [aj (by simpa using hb)];exact j.k b o hb e⟩
def iW.new {d:Addr} {o:HO} (j:iW H0 x C dx m fs ds H) (hd:H d=none):iW H0 x C dx m fs ((d,o)::ds) (upd H d o):=by
 have nx:=bo j.hx hd;refine ⟨by rw [aj nx];exact j.hx,j.n,fun p hp=>?_,Fr.mpr ⟨fun z=>?_,j.nd⟩,fun b o hb e=>?_⟩
 ·rcases pi.mp hp with rfl | hp
  ·exact ⟨ay,wP nx,_a.mpr fun o e=>by have:=j.k d o (by simpa using wP nx) e;rw [hd] at this;cases this⟩
  ·obtain ⟨a,b,c⟩:=j.d p hp;exact ⟨by rw [aj (bo a hd)];exact a,b,c⟩
 ·obtain ⟨p,hp,e⟩:=Ix.mp z;have:=(j.d p hp).1;rw [e,hd] at this;cases this
 ·have:=j.k b o hb e;rw [aj (bo this hd)];exact this
def setC {v:V} (j:iW H0 x C dx m fs ds H) (hm:m < 40) (q:∀ H',iW H0 x C dx (m+1) (aA f v fs) ds H'->u D (some (.ref x)::σ) H'):kH (sQ C f (jw 0) (tC v)) u D (some (.ref x)::σ) H :=
 ai ⟨x,dx,_,rfl,j.hx,W1 j.n (Nat.lt_trans hm (by decide)),q _ j.set⟩
def pJ (j:iW H0 x C dx m fs ds H) (hm:m < 40) (q:∀ d H',iW H0 x C dx (m+1) (aA f (.ref d) fs) ((d,.dK [])::ds) H'->u D (some (.ref x)::σ) H'):kH (sQ C f (jw 0) wU) u D (some (.ref x)::σ) H :=
 ai fun d hd=>⟨x,dx,_,rfl,(j.new hd).hx,W1 j.n (Nat.lt_trans hm (by decide)),q d _ (j.new hd).set⟩
end
def adm:T.sx.k P w mg base 6 (Ug T.aD T.aJ T.aM):=by
 refine T.sx.F.ok Pn (fun _ _ _ _ h=>gz h fun _ _ _=>rfl) fun _ A _ s H vs Q E hr h=>gz h fun x z h=>?_;obtain ⟨⟨dx,NN⟩,lT,hn,q⟩:=h;refine ⟨_,((ad (aL (bn (xk T) hr.m T.eg.m T.eg.F.kp T.eg.b .nil aB (aa (ac 1) ae)))
 (ad (bP T.aE T.cP (ac 0) (Yw T.XO (PU T) hr.m T.abn T.se.b .nil aB))
 (ad (bP T.aE T.wA (ac 0) bi)
 (ad (bP T.aE T.pw (ac 0) ou)
 (ad (bP T.aE T.CB (ac 0) ou)
 (ad (bP T.aE T.vV (ac 0) ou)
 (ad (bP T.aE T.Ax (ac 0) ou)
 (ad (bP T.aE T.xC (ac 0) ou)
 (ad (bP T.aE T.Qo (ac 0) ou)
 (ad (bP T.aE T.XM (ac 0) bi)
 (ad (bP T.aE T.AO (ac 0) (bB T.aE T.su.h (Q7 T) hr.m T.su.b .nil aB (ac 0) (aa (em (.str "main") T.Wy ⟨_,rfl⟩) (aa (ac 1) ae))))
 (ah (aL (bB T.aE T.nW.h (GW T) hr.m T.nW.b .nil aB (ac 0) (aa (ac 1) ae)))))))))))))))).h,?_⟩
 refine stI [some (V.ref x),some (V.str z)] ?_;right;refine ⟨⟨_,rfl⟩,lT,hn,fun H1 s1=>?_⟩;have cu:=s1 _ _ NN;right;intro t dt ht yf qV;refine ⟨dt,ay,fun ml H2 ic yy fr2 hml2 gs dN sg kz=>⟨rfl,?_⟩⟩;have gQ:x≠t:=bo cu ht;have hml':H1 ml=none:=by
  rw [aj yy] at ic;by_cases e:ml=dt
  ·rw [e,ay] at ic;cases ic
  ·rw [aj e] at ic;exact ic
 have s2:ag H1 H2:=fun b o e=>by
  rw [fr2 b (bo e ht) (bo e hml'),aj (bo e ht),aj (bo e yf)];exact e
 have fr:∀ {b:Addr},H1 b=none->H b=none:=fun {b} h=>_a.mpr fun o e=>by rw [s1 b o e] at h;cases h
 have j:iW H x T.aD dx 0 [] [(t,.ins T.aJ dt gs),(ml,.lst [])] H2:=⟨s2 _ _ cu,ul _,fun p hp=>(by
  simp only [pi,ss,AC] at hp;rcases hp with rfl | rfl
  ·exact ⟨kz,wP gQ,fr ht⟩
  ·exact ⟨hml2,wP (bo cu hml'),fr hml'⟩),by simpa using wP yy,fun b o hb e=>s2 _ _ (s1 _ _ e)⟩
 refine ⟨x,dx,_,rfl,j.hx,by decide,setC j.set (by decide) fun H4 j=>pJ j (by decide) fun ro H5 j=>pJ j (by decide) fun st H6 j=>pJ j (by decide) fun tr H7 j=>pJ j (by decide) fun ov H8 j=>pJ j (by decide) fun un H9 j=>pJ j (by decide) fun ho oQ j=>setC j (by decide) fun xK j=>ai ?_⟩;clear fr2 s2 cu ht ic yf NN;have jd:=j.d;have nd:=j.nd;simp only [List.forall_mem_cons] at jd;simp only [ut,At,Fr,pi,ss,AC,_F] at nd;obtain ⟨⟨gho,nho,fho⟩,⟨MM,Og,fun0⟩,⟨MF,MQ,fov⟩,⟨N6,ntr,ftr⟩,⟨MN,NH,fst0⟩,⟨OB,N0,fro⟩,⟨gt,nt,ft⟩,⟨Oi,yy,fml⟩,_⟩:=jd;have EM:=j.hx;left;refine ⟨x,dx,_,rfl,EM,rfl,rfl,dx,_,0,t,dt,ml,tr,EM,wE j.n (by decide),rfl,rfl,rfl,rfl,⟨⟨gs,0,gt,dN,sg⟩,Oi⟩,N6,?_⟩;intro th dH nm pl fs' ks c' Ek fth fnm fpl hxA hflA DO atA hthA hklA skA hnmA hplA htrA kpA;obtain ⟨gs',d',htA,hglA,sgA⟩:=atA.o;have uP:∀ f:Str,f ≠ "first_root" -> f ≠ "changes" -> (aA "first_root" (.int 0) fs').lookup f=List.lookup f _:=fun f h1 h2=>((eP ..).trans (zn h1)).trans ((DO f).trans ((eP ..).trans (zn h2)));have kp:∀ {b:Addr} {o:HO},b≠x->b≠t->b≠ml->b≠tr->xK b=some o->Ek b=some o:=fun {b o} h1 h2 h3 h4 e=>kpA b o (by simp [h1,h2,h3,h4]) e;obtain ⟨⟨_,_,_,_,_,_,_⟩,⟨_,_,_,_,_,_⟩,⟨_,_,_,_,_⟩,⟨_,_,_,_⟩,⟨_,_,_⟩,⟨_,_⟩,_,_⟩:=nd;refine ⟨x,dx,fs',rfl,hxA,by have:=j.n;omega,x,dx,_,rfl,ay,(uP _ (by decide) (by decide)).trans rfl,dx,_,c',ro,st,[],[],ay,wE (cQ (wE hflA j.n)) (by decide),by rw [eP,zn (by decide),DO,eP,AT rfl],(uP _ (by decide) (by decide)).trans rfl,(uP _ (by decide) (by decide)).trans rfl,by rw [eP,AT rfl],(uP _ (by decide) (by decide)).trans rfl,(uP _ (by decide) (by decide)).trans rfl,(aj N0).trans (kp N0 ?_ ?_ ?_ OB),by decide,(aj NH).trans (kp NH ?_ ?_ ?_ MN),by decide,?_,fun uL c3 En hx13 uC oM hro3 hst3 xQ=>?_⟩
 all_goals try (first | assumption | (refine wP ?_;assumption))
 have old:∀ {b:Addr} {o:HO},b≠x->b≠ro->b≠st->Ek b=some o->En b=some o:=fun {b o} b1 b2 b3 e=>by rw [xQ b b1 b2 b3,aj b1];exact e
 have nn:∀ {b:Addr} {o:HO},xK b=some o->b≠th/\b≠nm/\b≠pl:=fun e=>⟨bo e fth,bo e fnm,bo e fpl⟩;have e1:=nn EM;have e2:=nn gt;have e3:=nn Oi;have e4:=nn OB;have e5:=nn MN;have e6:=nn N6;have e7:=nn MF;have e8:=nn MM;have e9:th≠nm:=gO hthA hnmA (by nofun);have e10:th≠pl:=gO hthA hplA (by nofun);have e11:nm≠pl:=gO hnmA hplA (by nofun);refine q ⟨x,dx,t,dt,ml,ro,st,tr,ov,un,ho⟩ [⟨th,dH,nm,pl⟩] En rfl ⟨⟨uL,c3,hx13,uC,fun f=>((oM f).trans ((DO.put "first_root" (.int 0)).put "changes" (.int c3) f)).trans rfl⟩,⟨gs',d',old nt ?_ ?_ htA,hglA,sgA⟩,old yy ?_ ?_ atA.ml,rfl,fun i tt e=>?_,hro3,hst3,old ntr ?_ ?_ htrA,old MQ ?_ ?_ (kp MQ ?_ ?_ ?_ MF),old Og ?_ ?_ (kp Og ?_ ?_ ?_ MM),?_⟩ (fun b hb uM=>?_) fun b o hb e=>?_
 all_goals try (first | assumption | (refine wP ?_;assumption))
 ·obtain rfl:i=0:=Nat.lt_one_iff.mp (sK.mp e).1;cases e;exact ⟨_,rfl,⟨⟨ks,old (wP e1.1) (wP e4.1) (wP e5.1) hthA,hklA,skA⟩,old (wP e1.2.1) (wP e4.2.1) (wP e5.2.1) hnmA,old (wP e1.2.2) (wP e4.2.2) (wP e5.2.2) hplA⟩⟩
 ·show List.Nodup [x,t,ml,ro,st,tr,ov,un,th,nm,pl];simp only [Fr,pi,ss,AC,_F,not_false_eq_true,Jad,and_true]
  and_intros
  all_goals first | assumption | (refine wP ?_;assumption) | simp [*]
 ·have hb':b∈[x,t,ml,ro,st,tr,ov,un,th,nm,pl]:=hb;have fz:xK b=none->H b=none:=fun h=>_a.mpr fun o e=>by rw [j.k b o (by simpa using uM) e] at h;cases h
  simp only [pi,ss,AC] at hb';rcases hb' with rfl | rfl | rfl | rfl | rfl | rfl | rfl | rfl | rfl | rfl | rfl <;> first | assumption | exact absurd rfl uM | exact fz (by assumption)
 ·have uM:b≠x:=fun z=>hb (by simp [z]);exact old uM (bo e fro) (bo e fst0) (kp uM (bo e ft) (bo e fml) (bo e ftr) (j.k b o hb e))
def Q1 (CH CS CT:Addr):Sp:=mh fun x z H Q _=>X3 fun A L M=>A9 (aI CH CS CT H A L M) (A.a=x) (z.length<=1000) (fO (.str z)=true) (M.ro.length<=30) (M.st.length<=30) (bb (sD M.ro) (.inr z)=none) (bb (sD M.st) (.inr z)=none) (∀ H',aI CH CS CT H' A L { M with ro:=M.ro++[(z,0)],st:=M.st++[(z,0)] }->Kp [A.a,A.ro,A.st] H H'->Q .aw H')
def ab4:T.sF.k P w mg base 3 (Q1 T.aD T.aJ T.aM):=by
 refine T.sF.F.ok YW (fun _ _ _ _ h=>gz h fun _ _ _=>rfl) fun _ A _ s H vs Q E hr h=>gz h fun x z h=>?_;obtain ⟨AA,L,M,i,rfl,lT,hn,ib,hsl,Nr,yx,q⟩:=h;refine ⟨_,((ad (aL (bn (xk T) hr.m T.eg.m T.eg.F.kp T.eg.b .nil aB (aa (ac 1) ae)))
 (ad (aW (BF (eA hr) (ac 1) (bd T.aE T.pw (ac 0))) (ah ck) cr)
 (ah (aL (bB T.aE T.nW.h (GW T) hr.m T.nW.b .nil aB (ac 0) (aa (ac 1) ae))))))).h,?_⟩
 refine stI [some (V.ref AA.a),some (V.str z)] ?_;right;refine ⟨⟨_,rfl⟩,lT,hn,fun H1 s1=>?_⟩;have i1:=i.same s1;obtain ⟨fs,c,hx,bh,sf⟩:=i1.h;have nd:=i1.nd;rw [Gc] at nd;have Fd:=nd.1;simp only [Ad.w,Fr,pi,ss,AC,_F] at Fd;right;refine ⟨AA.a,_,_,.ref AA.ro,rfl,hx,(sf _).trans rfl,AA.ro,_,rfl,dS.k (k:=.inr z) i1.ro,?_⟩;rw [Nr];refine bZ ?_;left;refine (mI hx sf ⟨AA.dx,fs,c,AA.ro,AA.st,_,_,hx,bh,(sf _).trans rfl,(sf _).trans rfl,(sf _).trans rfl,(sf _).trans rfl,(sf _).trans rfl,(sf _).trans rfl,i1.ro,by unfold sD;rw [pp];omega,i1.st,by unfold sD;rw [pp];omega,Fd.2.2.2.1.1,?_⟩);intro fs' c' H' hx' hfl' sf' hro' hst' fr';have e1:putK (sD M.ro) (.inr z) (.int 0)=sD (M.ro++[(z,0)]):=Bl Nr;have e2:putK (sD M.st) (.inr z) (.int 0)=sD (M.st++[(z,0)]):=Bl yx;rw [e1] at hro';rw [e2] at hst';have kp:Kp [AA.a,AA.ro,AA.st] H1 H':=fun b o hb e=>by
  simp only [pi,ss,AC,_F] at hb;rw [fr' b hb.1 hb.2.1 hb.2.2];exact e
 have uE:∀ b∈[AA.t,AA.ml,AA.tr,AA.ov,AA.un],b ∉ [AA.a,AA.ro,AA.st]:=by
  intro b hb hm;simp only [pi,ss,AC] at hb hm;obtain ⟨⟨a1,a2,a3,a4,a5,a6,a7⟩,⟨b1,b2,b3,b4,b5,b6⟩,⟨c1,c2,c3,c4,c5⟩,⟨d1,d2,d3,d4⟩,⟨f1,f2,f3⟩,_⟩:=Fd;rcases hb with rfl | rfl | rfl | rfl | rfl <;> rcases hm with h | h | h <;> first
   | exact a1 h.symm | exact a2 h.symm | exact a5 h.symm | exact a6 h.symm | exact a7 h.symm
   | exact b2 h | exact b3 h | exact c1' h | exact c1 h | exact c2 h | exact c3 h
   | exact d2 h.symm | exact d3 h.symm | exact d4 h.symm | exact f1 h.symm | exact f2 h.symm | exact f3 h.symm | exact b1 h | exact b4 h
 refine q H' ⟨⟨fs',c',hx',hfl',fun f=>?_⟩,?_,kp _ _ (uE _ (by simp)) i1.ml,i1.len,fun j t e=>?_,hro',hst',kp _ _ (uE _ (by simp)) i1.tr,kp _ _ (uE _ (by simp)) i1.ov,kp _ _ (uE _ (by simp)) i1.un,i1.nd⟩ (fun b o hb e=>kp b o hb (s1 b o e))
 ·rw [sf' f,eP,sf f];by_cases e:f = "changes"
  ·rw [AT e,e];rfl
  ·rw [zn e];exact Y2 e
 ·obtain ⟨gs,d,e,r⟩:=i1.t;exact ⟨gs,d,kp _ _ (uE _ (by simp)) e,r⟩
 ·obtain ⟨a,e1,h1⟩:=i1.th j t e;refine ⟨a,e1,h1.keep kp fun b hb hm=>?_⟩;have:=i1.w9 e1;simp only [pi,ss,AC] at hm;rcases hm with rfl | rfl | rfl
  ·exact this _ (by simp [Ad.w]) _ hb rfl
  ·exact this _ (by simp [Ad.w]) _ hb rfl
  ·exact this _ (by simp [Ad.w]) _ hb rfl
def pG (M:Hs):Nat->Nat->Nat->Prop
 | 0,k,b=>bb (nD M.un) (.inl (k:Int))=none/\b=k
 | n+1,k,b=>∃ k':Nat,bb (nD M.un) (.inl (k:Int))=some (.int (k':Int))/\pG M n k' b
def oE (M:Hs):Nat->Nat->List Nat->Prop
 | 0,k,l=>bb (nD M.ov) (.inl (k:Int))=none/\l=[]
 | n+1,k,l=>∃ (k':Nat) (r:List Nat),bb (nD M.ov) (.inl (k:Int))=some (.int (k':Int))/\oE M n k' r/\l=k'::r
def gx (M:Hs) (k b:Nat) (r:List Nat):Prop:=(∃ n,pG M n k b)/\∃ n,oE M n b r/\n<=100
def oE.len {M:Hs}:∀ {n k:Nat} {l:List Nat},oE M n k l->l.length=n
 | 0,_,_,h=>by rw [h.2];rfl
 | n+1,_,_,h=>by obtain ⟨k',r,_,h2,rfl⟩:=h;simp [h2.len]
abbrev nV (l:List Nat):List V:=l.map fun n:Nat=>V.int (n:Int)
def eR (b:Nat) (r:List Nat):Nat:=(b::r).getLast (by simp)
def adB (CH CS CT:Addr):Sp:=og fun x n H Q _=>X7 fun A L M (k:Nat) (b:Nat) a t=>A7 (aI CH CS CT H A L M) (A.a=x) (n=(k:Int)) (L[k]?=some a) (M.ts[k]?=some t) (∃ m,pG M m k b) (Q (.int (b:Int)) H)
def RH (CH CS CT:Addr):Sp:=og fun x n H Q _=>X8 fun A L M (k:Nat) (b:Nat) r a t=>A7 (aI CH CS CT H A L M) (A.a=x) (n=(k:Int)) (L[k]?=some a) (M.ts[k]?=some t) (gx M k b r) (∀ l H',ag H H'->H l=none->H' l=some (.lst (nV (b::r)))->Q (.ref l) H')
def Xp (CH CS CT:Addr):Sp:=og fun x n H Q _=>X8 fun A L M (k:Nat) (b:Nat) r a t=>A7 (aI CH CS CT H A L M) (A.a=x) (n=(k:Int)) (L[k]?=some a) (M.ts[k]?=some t) (gx M k b r) (∀ H',ag H H'->Q (.int (eR b r:Nat)) H')
def YU:T.pX.k P w base 4 (adB T.aD T.aJ T.aM):=by
 refine T.pX.F.ok zN (fun _ _ _ _ h=>cL h fun _ _ _=>rfl) fun _ A _ s H vs Q E hr h=>cL h fun x n h=>?_;obtain ⟨AA,L,M,k,b,a,t,i,rfl,rfl,ha,aS,⟨m,hb⟩,q⟩:=h;obtain ⟨fs,c,hx,bh,sf⟩:=i.h;refine ⟨_,((ad (aL (bB T.aE T.rV.h (UX T) hr.m T.rV.b .nil aB (ac 0) (aa (ac 1) ae)))
 (ad (aO 2 zN.nd (ac 1))
 (ad (r9 _c (BF (eA hr) (ac 2) (bd T.aE T.xC (ac 0))) (ah (aO 2 zN.nd (ph (eA hr) (bd T.aE T.xC (ac 0)) (ac 2)))))
 (ah (aK (ac 2))))))).h,?_⟩
 refine stI [some (V.ref AA.a),some (V.int (k:Int)),none] ?_;right;refine (mI hx sf ⟨AA,L,M,k,a,t,i,rfl,rfl,ha,aS,?_⟩);right;refine ai ⟨fun m σ' H'=>∃ j:Nat,σ'=[some (V.ref AA.a),some (V.int (k:Int)),some (V.int (j:Int))]/\H'=H/\pG M m j b,⟨m,k,rfl,rfl,hb⟩,?_⟩;rintro m σ' H' ⟨j,rfl,rfl,hj⟩;left;refine ⟨AA.a,_,_,.ref AA.un,rfl,hx,(sf _).trans rfl,AA.un,_,rfl,dS.k (k:=.inl (j:Int)) i.un,?_⟩;cases m with
 | zero =>
  obtain ⟨h0,rfl⟩:=hj;rw [h0];exact bZ q
 | succ m =>
  obtain ⟨k',h0,h1⟩:=hj;rw [h0];refine cz ⟨fun σ' H''=>∃ j:Nat,σ'=[some (V.ref AA.a),some (V.int (k:Int)),some (V.int (j:Int))]/\H''=H'/\pG M m j b,fun σ' H' z=>⟨m,Re m,z⟩,?_⟩;left;refine ⟨AA.a,_,_,.ref AA.un,rfl,hx,(sf _).trans rfl,AA.un,.int (k':Int),rfl,?_,k',rfl,by trivial,h1⟩;have:=dS.k (k:=.inl (j:Int)) i.un;rw [h0] at this;exact this
def rY {a b:List Nat}:nV (a++b)=nV a++nV b:=NE
def sS:T.eY.k P w base 5 (RH T.aD T.aJ T.aM):=by
 refine T.eY.F.ok Fh (fun _ _ _ _ h=>cL h fun _ _ _=>rfl) fun _ A _ s H vs Q E hr h=>cL h fun x n h=>?_;obtain ⟨AA,L,M,k,b,r,a,t,i,rfl,rfl,ha,aS,⟨hb,⟨m,hu,hm⟩⟩,q⟩:=h;have hlen:=hu.len;refine ⟨_,((ad (aO 2 Fh.nd (db (aa (bn (YU T) hr.m T.pX.m T.pX.F.kp T.pX.b .nil aB (aa (ac 0) (aa (ac 1) ae))) ae)))
 (ad (r9 _c (BF (eA hr) (dl (bI (K:=K) rfl) (ac 2) (im hV bi)) (bd T.aE T.Ax (ac 0))) (ah (aL (dU wf wn dW (ac 2) (aa (ph (eA hr) (bd T.aE T.Ax (ac 0)) (dl (bI (K:=K) rfl) (ac 2) (im hV bi))) ae)))))
 (ah (aK (ac 2)))))).h,?_⟩
 refine stI [some (V.ref AA.a),some (V.int (k:Int)),none] ?_;right;refine ⟨AA,L,M,k,b,a,t,i,rfl,rfl,ha,aS,hb,fits (by simp),fun l hl=>?_⟩;refine eV hl fun H1 s1 b1=>?_;refine ai ⟨fun m σ' H'=>ag H H'/\∃ (pre:List Nat) (j:Nat) (r':List Nat),σ'=[some (V.ref AA.a),some (V.int (k:Int)),some (V.ref l)]/\H' l=some (.lst (nV pre++[V.int (j:Int)]))/\oE M m j r'/\pre++j::r'=b::r,⟨m,s1,[],b,r,rfl,b1,hu,rfl⟩,?_⟩;rintro m σ' H' ⟨s',pre,j,r',rfl,hl',hj,hp⟩;have i1:=i.same s';obtain ⟨fs,c,hx,bh,sf⟩:=i1.h;left;simp only [bR,hl',qe];refine ⟨AA.a,_,_,.ref AA.ov,rfl,hx,(sf _).trans rfl,AA.ov,_,rfl,dS.k (k:=.inl (j:Int)) i1.ov,?_⟩;cases m with
 | zero =>
  obtain ⟨h0,rfl⟩:=hj;rw [h0];refine bZ (q l H' s' hl ?_);rw [hl',<- hp,rY];rfl
 | succ m =>
  obtain ⟨k',r2,h0,h1,rfl⟩:=hj;rw [h0];refine cz ⟨fun σ' H'=>ag H H'/\∃ (pre:List Nat) (j:Nat) (r':List Nat),σ'=[some (V.ref AA.a),some (V.int (k:Int)),some (V.ref l)]/\H' l=some (.lst (nV pre++[V.int (j:Int)]))/\oE M m j r'/\pre++j::r'=b::r,fun σ' H' z=>⟨m,Re m,z⟩,?_⟩;left;refine ⟨AA.a,_,_,.ref AA.ov,rfl,hx,(sf _).trans rfl,AA.ov,.int (k':Int),rfl,?_,?_⟩
  ·have:=dS.k (k:=.inl (j:Int)) i1.ov;rw [h0] at this;exact this
  have cf:(pre++[j]).length<=102:=by
   have:=PP List.length hp;simp at this ⊢;omega
  refine ⟨lh (by simp at cf ⊢;omega),s'.gL hl,pre++[j],k',r2,by trivial,?_,h1,?_⟩
  ·rw [ay,rY];rfl
  ·rw [<- hp];simp
def IZ {b:Nat} {r:List Nat}:∃ pre,b::r=pre++[eR b r]:=⟨(b::r).dropLast,by unfold eR;exact (List.dropLast_concat_getLast (by simp)).symm⟩
def Mq:T.kI.k P w base 6 (Xp T.aD T.aJ T.aM):=by
 refine T.kI.F.ok aax (fun _ _ _ _ h=>cL h fun _ _ _=>rfl) fun _ A _ s H vs Q E hr h=>cL h fun x n h=>?_;obtain ⟨AA,L,M,k,b,r,a,t,i,rfl,rfl,ha,aS,hs,q⟩:=h;refine ⟨_,((ah (aK (dl (bI (K:=K) rfl) (bn (sS T) hr.m T.eY.m T.eY.F.kp T.eY.b .nil aB (aa (ac 0) (aa (ac 1) ae))) (im hV bi))))).h,?_⟩;refine stI [some (V.ref AA.a),some (V.int (k:Int))] ?_;left;refine ⟨AA,L,M,k,b,r,a,t,i,rfl,rfl,ha,aS,hs,fun l H' s' _ hl=>?_⟩;dsimp only;obtain ⟨pre,hp⟩:=IZ (b:=b) (r:=r);rw [hp,rY] at hl;simp only [bR,hl,ut,At,qe];exact q _ s'
def jy (r:Nat) (l:List Nat):Bool:=l.any (· == r)
def DH {r:Nat}:∀ {l:List Nat},dX (V.int (r:Int)) (nV l)=jy r l
 | []=>rfl
 | x::l=>by
  have ih:=DH (r:=r) (l:=l);unfold dX at ih ⊢;unfold jy at ih ⊢;simp only [nV,ut,UV] at ih ⊢;rw [ih]
  congr 1
  unfold fR;by_cases e:x=r
  ·subst e;simp
  ·rw [Fa.mpr e]
   first | exact Fa.mpr (by omega) | (simp;omega)
def kF (M:Hs) (L:List Ta) (root:Nat):Nat->Nat->Bool->Prop
 | n,k,v=>∃ b r a t,L[k]?=some a/\M.ts[k]?=some t/\gx M k b r /\
  if k=eR b r then
   if jy root (b::r)=true then v=true
   else ∃ ab tb,L[b]?=some ab/\M.ts[b]?=some tb/\((tb.df=[]/\v=false)\/∃ f z,tb.df=[(f,z)]/\match n with | 0=>False | n+1=>kF M L root n f v)
  else v=false
def adf (CH CS CT:Addr):Sp:=tY fun x z n H Q _=>X6 fun A L M (k:Nat) (root:Nat) v=>A6 (aI CH CS CT H A L M) (A.a=x) (n=(k:Int)) (bb (sD M.ro) (.inr z)=some (.int (root:Int))) (∃ m,kF M L root m k v) (∀ H',ag H H'->Q (.bl v) H')
def TV:T.pR.k P w base 6 (adf T.aD T.aJ T.aM):=by
 refine T.pR.F.ok nK (fun _ _ _ _ h=>jk h fun _ _ _ _=>rfl) fun _ A _ s H vs Q E hr h=>jk h fun x z n h=>?_;obtain ⟨AA,L,M,k,root,v,i,rfl,rfl,hz,⟨m,hm⟩,q⟩:=h;obtain ⟨fs,c,hx,bh,sf⟩:=i.h;refine aY (b:=aN Ba) ((ad (aO 3 nK.nd (bB T.aE T.gy.h (AU T) hr.m T.gy.b .nil aB (ac 0) (aa (ac 1) ae)))
 (ad (aO 4 nK.nd (ac 2))
 (ad (aO 5 nK.nd (bn (sS T) hr.m T.eY.m T.eY.F.kp T.eY.b .nil aB (aa (ac 0) (aa (ac 4) ae))))
 (ad (r9 _c (bw gK (ac 4) (dl (bI (K:=K) rfl) (ac 5) (im hV bi))) (ad (aW (bw (md (K:=K) rfl) (ac 3) (ac 5)) (ah (aK ge)) cr)
 (ad (aO 6 nK.nd (bB T.aE T.iH.h (JI T) hr.m T.iH.b .nil aB (ac 0) (aa (dl (bI (K:=K) rfl) (ac 5) bi) ae)))
 (ad (aW (bw xn (ac 6) aw) (ah (aK ge)) cr)
 (ad (aO 4 nK.nd (dl (bI (K:=K) rfl) (ac 6) bi))
 (ah (aO 5 nK.nd (bn (sS T) hr.m T.eY.m T.eY.F.kp T.eY.b .nil aB (aa (ac 0) (aa (ac 4) ae))))))))))
 (ah (aK ge))))))) ?_
 refine stI [some (V.ref AA.a),some (V.str z),some (V.int (k:Int)),none,none,none,none] ?_;right;refine (mI hx sf ⟨AA,L,M,root,i,rfl,hz,?_⟩);right;right;obtain ⟨b,r,a,t,ha,ht,bt,dY⟩:=(by unfold kF at hm;exact hm:∃ b r a t,L[k]?=some a/\M.ts[k]?=some t/\gx M k b r/\_);refine ⟨AA,L,M,k,b,r,a,t,i,rfl,rfl,ha,ht,bt,fun l H1 s1 qJ hl=>?_⟩;refine ai ⟨fun m σ' H'=>ag H H'/\∃ (j:Nat) (l:Addr) (b:Nat) (r:List Nat) (pv:Option V),σ'=[some (V.ref AA.a),some (V.str z),some (V.int (k:Int)),some (V.int (root:Int)),some (V.int (j:Int)),some (V.ref l),pv]/\H' l=some (.lst (nV (b::r)))/\gx M j b r /\
  (if j=eR b r then
   if jy root (b::r)=true then v=true
   else ∃ ab tb,L[b]?=some ab/\M.ts[b]?=some tb/\((tb.df=[]/\v=false)\/∃ f z,tb.df=[(f,z)]/\match m with | 0=>False | n+1=>kF M L root n f v)
  else v=false),⟨m,s1,k,l,b,r,none,rfl,hl,bt,dY⟩,?_⟩
 clear dY ha ht bt hl qJ s1 hm;rintro m σ' H' ⟨s',j,l,b,r,pv,rfl,hl,bt,dY⟩;have i':=i.same s';obtain ⟨pre,hp⟩:=IZ (b:=b) (r:=r);have eN:=hl;rw [hp,rY] at eN;left;simp only [bR,eN,ut,At,qe];by_cases hj:j=eR b r
 ·rw [AT hj] at dY;rw [xz (by rw [hj])];refine cz ⟨_,fun _ _ h=>h,?_⟩;right;simp only [bR,hl];refine ⟨rfl,by simp [cU],?_⟩;rw [DH];cases hmem:jy root (b::r) with
  | true =>
   rw [AT hmem] at dY;subst dY;exact cz (q _ s')
  | false =>
   rw [zn (by rw [hmem];nofun)] at dY;obtain ⟨ab,tb,gr,oZ,cf⟩:=dY;refine bZ ?_;refine ai ?_;obtain ⟨fs,c,hx,bh,sf⟩:=i'.h;left;simp only [bR,hl,nV,ut,ly];refine (mI hx sf ⟨AA,L,M,b,ab,tb,i',rfl,rfl,gr,oZ,?_⟩);rcases cf with ⟨cf,rfl⟩ | ⟨f,zz,cf,hn⟩
   ·refine .inl ⟨cf,?_⟩;right;exact ⟨by trivial,cz (q _ s')⟩
   ·refine .inr ⟨f,zz,cf,fun p hp=>?_⟩;right;refine ⟨by trivial,?_⟩;rw [tz (by nofun)];refine bZ ?_;right;simp only [bR,hp,ly];cases m with
    | zero=>exact hn.elim
    | succ m =>
     obtain ⟨b2,r2,a2,t2,D7,kz,ye,DP⟩:=(by unfold kF at hn;exact hn:∃ b r a t,L[f]?=some a/\M.ts[f]?=some t/\gx M f b r/\_);refine ⟨AA,L,M,f,b2,r2,a2,t2,i',rfl,rfl,D7,kz,ye,fun l2 H2 s2 qJ eN=>?_⟩;exact ⟨m,Re m,s'.trans s2,f,l2,b2,r2,some (V.ref p),rfl,eN,ye,DP⟩
 ·rw [zn hj] at dY;rw [tz (by omega)];subst dY;refine bZ ?_;left;exact q _ s'
abbrev aea (M:Hs):List Str:=g9 (M.tr.map (·.1))
section
variable {CH CS CT:Addr} {H H':Hp} {A:Ad} {L:List Ta} {M:Hs}
end
def Iy (C:Addr) (f1 f2:Str):Sp:=AE fun x v1 v2 H Q _=>X1 fun dx=>A2 (H x=some (.ins C dx [])) (Q .aw (upd H x (.ins C dx (aA f2 v2 (aA f1 v1 [])))))
def Rf:T.rT.k P w mg base 1 (Iy T.eF "number" "way"):=by
 refine T.rT.F.ok T5 (fun _ _ _ _ h=>pe h fun _ _ _ _=>rfl) fun _ A _ s H vs Q E hr h=>pe h fun x v1 v2 h=>?_;obtain ⟨dx,hx,q⟩:=h;refine ⟨_,((ad (bP T.vf T.JL (ac 0) (ac 1))
 (ah (bP T.vf T.Vg (ac 0) (ac 2))))).h,?_⟩
 refine stI [some (V.ref x),some v1,some v2] ?_;right;refine ⟨x,dx,_,rfl,hx,by decide,?_⟩;refine ⟨x,dx,_,rfl,ay,by walk_at "f",?_⟩;rw [mx];exact q
def LZ:T.pL.k P w mg base 1 (Iy T.lO "folder" "name"):=by
 refine T.pL.F.ok aay (fun _ _ _ _ h=>pe h fun _ _ _ _=>rfl) fun _ A _ s H vs Q E hr h=>pe h fun x v1 v2 h=>?_;obtain ⟨dx,hx,q⟩:=h;refine ⟨_,((ad (bP T.nX T.xl (ac 0) (ac 1))
 (ah (bP T.nX T.CZ (ac 0) (ac 2))))).h,?_⟩
 refine stI [some (V.ref x),some v1,some v2] ?_;right;refine ⟨x,dx,_,rfl,hx,by decide,?_⟩;refine ⟨x,dx,_,rfl,ay,by walk_at "f",?_⟩;rw [mx];exact q
def sN (h:Addr) (z:Str) (last:Bool) (root here:Int) (place:V) (step:Int) (av lf rd:Addr) (lr lu:Int) (told:V):List (Str×V):=[("house",.ref h),("asker",.str z),("last",.bl last),("root",.int root),("here",.int here),("place",place),("step",.int step),("asked",.ref av),("left",.ref lf),("reading",.ref rd),("leads_read",.int lr),("looked_up",.int lu),("told",told)]
structure Ws where
 here:Nat
 place:Option (Nat×Str)
 step:Nat
 asked:List Nat
 left:List (Sum Nat Str)
 Bn:List Nat
 read:Nat
 look:Nat
def oi:Sum Nat Str->V
 | .inl n=>.int (n:Int)
 | .inr z=>.str z
def jv (H0 H:Hp):Option (Nat×Str)->V->Prop
 | none,v=>v=.aw
 | some (k,nm),v=>∃ p,v=.ref p/\H0 p=none/\H p=some (.tup [.int (k:Int),.str nm])
structure Cn where
 CH:Addr
 CS:Addr
 CT:Addr
 CW:Addr
 CF:Addr
 CG:Addr
 CR:Addr
 CN:Addr
 CD:Addr
 CE:Addr
abbrev Tx.cn (T:Tx K mg):Cn:=⟨T.aD,T.aJ,T.aM,T.bA,T.gF,T.eF,T.ki,T.gn,T.gu,T.lO⟩
structure Wd where
 L:List Ta
 M:Hs
 z:Str
 last:Bool
 root:Nat
structure Wc extends Wd where
 H0:Hp
 A:Ad
 x:Addr
 dx:Addr
 av:Addr
 rd:Addr
structure bO (N:Cn) (c:Wc) (S:Ws) (H:Hp) (lf:Addr) (told:V):Prop where
 i:aI N.CH N.CS N.CT c.H0 c.A c.L c.M
 s:ag c.H0 H
 x0:c.H0 c.x=none
 a0:c.H0 c.av=none
 l0:c.H0 lf=none
 r0:c.H0 c.rd=none
 o:∃ fs pv,H c.x=some (.ins N.CW c.dx fs)/\fs.length<=40/\jv c.H0 H S.place pv/\dB fs (sN c.A.a c.z c.last c.root S.here pv S.step c.av lf c.rd S.read S.look told)
 oa:H c.av=some (.lst (nV S.asked))
 ol:H lf=some (.lst (S.left.map oi))
 od:H c.rd=some (.lst (nV S.Bn))
 n1:c.av≠lf
 n2:c.av≠c.rd
 n3:lf≠c.rd
 hz:bb (sD c.M.ro) (.inr c.z)=some (.int (c.root:Int))
section
variable {N:Cn} {c:Wc} {S:Ws} {H0 H H':Hp} {lf:Addr} {told:V}
def jv.same {p:Option (Nat×Str)} {v:V} (h:jv H0 H p v) (s:ag H H'):jv H0 H' p v:=by
 match p,h with
 | none,h=>exact h
 | some (k,nm),⟨q,e,e0,e1⟩=>exact ⟨q,e,e0,s _ _ e1⟩
def bO.same (v:bO N c S H lf told) (s:ag H H'):bO N c S H' lf told :=
 ⟨v.i,v.s.trans s,v.x0,v.a0,v.l0,v.r0,let ⟨fs,pv,e,l,p,f⟩:=v.o;⟨fs,pv,s _ _ e,l,p.same s,f⟩,s _ _ v.oa,s _ _ v.ol,s _ _ v.od,v.n1,v.n2,v.n3,v.hz⟩
def bO.m (v:bO N c S H lf told):aI N.CH N.CS N.CT H c.A c.L c.M:=v.i.same v.s
def bO.xa (v:bO N c S H lf told):c.x≠c.av/\c.x≠lf/\c.x≠c.rd:=by
 obtain ⟨fs,pv,e,_⟩:=v.o;exact ⟨gO e v.oa (by nofun),gO e v.ol (by nofun),gO e v.od (by nofun)⟩
def jv.put {p:Option (Nat×Str)} {v:V} {fs:List (Str×V)} {x dx CW:Addr} (h:jv H0 H p v) (hx:∃ gs,H x=some (.ins CW dx gs)):jv H0 (upd H x (.ins CW dx fs)) p v:=by
 match p,h with
 | none,h=>exact h
 | some (k,nm),⟨q,e,e0,e1⟩ =>
  obtain ⟨gs,hx⟩:=hx;exact ⟨q,e,e0,by rw [aj (wP (gO hx e1 (by nofun)))];exact e1⟩
def bO.put (f:Str) (u:V) (S':Ws) (told':V) (v:bO N c S H lf told) (w:V) (hw:∀ pv,List.lookup f (sN c.A.a c.z c.last c.root S.here pv S.step c.av lf c.rd S.read S.look told)=some w:=by exact fun _=>rfl)
  (hp:S'.place=S.place:=by rfl) (ha:S'.asked=S.asked:=by rfl) (hl:S'.left=S.left:=by rfl) (hr:S'.Bn=S.Bn:=by rfl)
  (e:∀ pv g,List.lookup g (aA f u (sN c.A.a c.z c.last c.root S.here pv S.step c.av lf c.rd S.read S.look told))=List.lookup g (sN c.A.a c.z c.last c.root S'.here pv S'.step c.av lf c.rd S'.read S'.look told'):=by exact fun _ _=>rfl) :
  ∃ fs,H c.x=some (.ins N.CW c.dx fs)/\fs.length < 1000/\List.lookup f fs=some w/\bO N c S' (upd H c.x (.ins N.CW c.dx (aA f u fs))) lf told':=by
 obtain ⟨fs,pv,e1,l,p,sf⟩:=v.o;have hf:List.lookup f fs=some w:=(sf f).trans (hw pv);exact ⟨fs,e1,by omega,hf,⟨v.i,v.s.gL v.x0,v.x0,v.a0,v.l0,v.r0,⟨_,pv,ay,by rw [lB hf];exact l,by rw [hp];exact p.put ⟨fs,e1⟩,fun g=>((sf.put f u) g).trans (e pv g)⟩,by rw [aj (wP v.xa.1),ha];exact v.oa,by rw [aj (wP v.xa.2.1),hl];exact v.ol,by rw [aj (wP v.xa.2.2),hr];exact v.od,v.n1,v.n2,v.n3,v.hz⟩⟩
def jv.off {p:Option (Nat×Str)} {v:V} {y:Addr} {o o':HO} (h:jv H0 H p v) (hy:H y=some o) (ht:∀ xs,o≠.tup xs):jv H0 (upd H y o') p v:=by
 match p,h with
 | none,h=>exact h
 | some (k,nm),⟨q,e,e0,e1⟩ =>
  refine ⟨q,e,e0,?_⟩;rw [aj (fun z=>?_)]
  ·exact e1
  ·rw [z,hy] at e1;exact ht _ (Fk e1)
def bO.off {y:Addr} {o o':HO} (v:bO N c S H lf told) (y0:c.H0 y=none) (hy:H y=some o) (nx:c.x≠y) (na:c.av≠y) (nl:lf≠y) (nr:c.rd≠y) (ht:∀ xs,o≠.tup xs):bO N c S (upd H y o') lf told:=by
 obtain ⟨gs,pv,e,l,p,f⟩:=v.o;exact ⟨v.i,v.s.gL y0,v.x0,v.a0,v.l0,v.r0,⟨gs,pv,by rw [aj nx];exact e,l,p.off hy ht,f⟩,by rw [aj na];exact v.oa,by rw [aj nl];exact v.ol,by rw [aj nr];exact v.od,v.n1,v.n2,v.n3,v.hz⟩
def bO.Z0 (v:bO N c S H lf told) (ks:List Nat):bO N c { S with asked:=ks } (upd H c.av (.lst (nV ks))) lf told:=by
 obtain ⟨gs,pv,e,l,p,f⟩:=v.o;exact ⟨v.i,v.s.gL v.a0,v.x0,v.a0,v.l0,v.r0,⟨gs,pv,by rw [aj v.xa.1];exact e,l,p.off v.oa (by nofun),f⟩,ay,by rw [aj (wP v.n1)];exact v.ol,by rw [aj (wP v.n2)];exact v.od,v.n1,v.n2,v.n3,v.hz⟩
def bO.abM (v:bO N c S H lf told) (ts:List (Sum Nat Str)):bO N c { S with left:=ts } (upd H lf (.lst (ts.map oi))) lf told:=by
 obtain ⟨gs,pv,e,l,p,f⟩:=v.o;exact ⟨v.i,v.s.gL v.l0,v.x0,v.a0,v.l0,v.r0,⟨gs,pv,by rw [aj v.xa.2.1];exact e,l,p.off v.ol (by nofun),f⟩,by rw [aj v.n1];exact v.oa,ay,by rw [aj (wP v.n3)];exact v.od,v.n1,v.n2,v.n3,v.hz⟩
def bO.abe (v:bO N c S H lf told) (k:Nat):bO N c { S with asked:=S.asked++[k] } (upd H c.av (.lst (nV S.asked++[.int (k:Int)]))) lf told:=by
 have:=v.Z0 (S.asked++[k]);rw [rY] at this;exact this
def bO.fresh {y:Addr} (v:bO N c S H lf told) (hy:H y=none):c.H0 y=none:=by
 cases e:c.H0 y with
 | none=>rfl
 | some o=>rw [v.s y o e] at hy;cases hy
def bO.W8 {l:Addr} {ts:List (Sum Nat Str)} (v:bO N c S H lf told) (l0:c.H0 l=none) (hl:H l=some (.lst (ts.map oi))) (n1:c.av≠l) (n3:l≠c.rd):∃ fs,H c.x=some (.ins N.CW c.dx fs)/\fs.length < 1000/\bO N c { S with left:=ts } (upd H c.x (.ins N.CW c.dx (aA "left" (.ref l) fs))) l told:=by
 obtain ⟨fs,pv,e,le,p,f⟩:=v.o;have nx:c.x≠l:=gO e hl (by nofun);exact ⟨fs,e,by omega,⟨v.i,v.s.gL v.x0,v.x0,v.a0,l0,v.r0,⟨_,pv,ay,by rw [lB (u:=.ref lf) ((f _).trans rfl)];exact le,p.put ⟨fs,e⟩,fun g=>((f.put "left" (.ref l)) g).trans rfl⟩,by rw [aj (wP v.xa.1)];exact v.oa,by rw [aj (wP nx)];exact hl,by rw [aj (wP v.xa.2.2)];exact v.od,n1,v.n2,n3,v.hz⟩⟩
def bO.fld (v:bO N c S H lf told):∃ fs pv,H c.x=some (.ins N.CW c.dx fs)/\fs.length < 1000/\dB fs (sN c.A.a c.z c.last c.root S.here pv S.step c.av lf c.rd S.read S.look told):=by
 obtain ⟨fs,pv,e,l,p,f⟩:=v.o;exact ⟨fs,pv,e,by omega,f⟩
end
def ab8 (N:Cn):Sp:=Mo fun x h z last H Q _=>X6 fun A L M dx H0 (root:Nat)=>A7 (aI N.CH N.CS N.CT H0 A L M) (A.a=h) (H x=some (.ins N.CW dx [])) (ag H0 H) (H0 x=none) (bb (sD M.ro) (.inr z)=some (.int (root:Int))) (∀ av lf rd H',bO N ⟨⟨L,M,z,last,root⟩,H0,A,x,dx,av,rd⟩ ⟨root,none,0,[],[],[],0,0⟩ H' lf .aw->Q .aw H')
def Wt:T.sy.k P w mg base 3 (ab8 T.cn):=by
 refine T.sy.F.ok ZV (fun _ _ _ _ h=>K3 h fun _ _ _ _ _=>rfl) fun _ A _ s H vs Q E hr h=>K3 h fun x hh z last h=>?_;obtain ⟨AA,L,M,dx,H0,root,i,rfl,hx,s0,x0,hz,q⟩:=h;refine aY (b:=aN Bb) ((ad (bP T.aU T.iT (ac 0) (ac 1))
 (ad (bP T.aU T.tD (ac 0) (ac 2))
 (ad (bP T.aU T.KU (ac 0) (ac 3))
 (ad (bP T.aU T.Dj (ac 0) (bB T.aE T.gy.h (AU T) hr.m T.gy.b .nil aB (ac 1) (aa (ac 2) ae)))
 (ad (bP T.aU T.g7 (ac 0) (bd T.aU T.Dj (ac 0)))
 (ad (bP T.aU T.wI (ac 0) aw)
 (ad (bP T.aU T.Mg (ac 0) bi)
 (ad (bP T.aU T.Km (ac 0) (db ae))
 (ad (bP T.aU T.rB (ac 0) (db ae))
 (ad (bP T.aU T.Fw (ac 0) (db ae))
 (ad (bP T.aU T.adu (ac 0) bi)
 (ad (bP T.aU T.Iw (ac 0) bi)
 (ah (bP T.aU T.nu (ac 0) aw))))))))))))))) ?_
 refine stI [some (V.ref x),some (V.ref AA.a),some (V.str z),some (V.bl last)] ?_;right;refine ⟨x,dx,_,rfl,hx,by decide,ai ?_⟩;left;refine ⟨x,dx,_,rfl,ay,by walk_at "f",ai ?_⟩;left;refine ⟨x,dx,_,rfl,ay,by walk_at "f",ai ?_⟩;simp only [mx];left;have s1:=s0.gL (o:=.ins T.bA dx (aA "last" (.bl last) (aA "asker" (.str z) (aA "house" (.ref AA.a) [])))) x0;have b1:upd H x (.ins T.bA dx (aA "last" (.bl last) (aA "asker" (.str z) (aA "house" (.ref AA.a) [])))) x=some (.ins T.bA dx (aA "last" (.bl last) (aA "asker" (.str z) (aA "house" (.ref AA.a) [])))):=ay;generalize upd H x (.ins T.bA dx (aA "last" (.bl last) (aA "asker" (.str z) (aA "house" (.ref AA.a) []))))=H1 at s1 b1 ⊢;have i1:=i.same s1;obtain ⟨fs,c,cu,bh,sf⟩:=i1.h;refine (mI cu sf ⟨AA,L,M,root,i1,rfl,hz,?_⟩);refine ⟨x,dx,_,rfl,b1,by walk_at "f",ai ?_⟩;left;refine ⟨x,dx,_,_,rfl,ay,rfl,x,dx,_,rfl,ay,by walk_at "f",ai ?_⟩;left;refine ⟨x,dx,_,rfl,ay,by walk_at "f",ai ?_⟩;left;refine ⟨x,dx,_,rfl,ay,by walk_at "f",ai ?_⟩;simp only [mx];left;have N4:dB (aA "step" (.int 0) (aA "place" .aw (aA "here" (.int (root:Int)) (aA "root" (.int (root:Int)) (aA "last" (.bl last) (aA "asker" (.str z) (aA "house" (.ref AA.a) []))))))) [("house",.ref AA.a),("asker",.str z),("last",.bl last),("root",.int (root:Int)),("here",.int (root:Int)),("place",.aw),("step",.int 0)]:=fun f=>rfl;have Na:(aA "step" (.int 0) (aA "place" .aw (aA "here" (.int (root:Int)) (aA "root" (.int (root:Int)) (aA "last" (.bl last) (aA "asker" (.str z) (aA "house" (.ref AA.a) []))))))).length<=10:=by (repeat (refine cQ ?_));exact Do _
 generalize (aA "step" (.int 0) (aA "place" .aw (aA "here" (.int (root:Int)) (aA "root" (.int (root:Int)) (aA "last" (.bl last) (aA "asker" (.str z) (aA "house" (.ref AA.a) [])))))))=F7 at N4 Na ⊢;have s2:=s1.gL (o:=.ins T.bA dx F7) x0;have b2:upd H1 x (.ins T.bA dx F7) x=some (.ins T.bA dx F7):=ay;generalize upd H1 x (.ins T.bA dx F7)=H2 at s2 b2 ⊢;have bK:∀ {J:Hp} {d:Addr},ag H0 J->J d=none->H0 d=none:=fun {J d} k hn=>by
  cases e:H0 d with
  | none=>rfl
  | some o=>rw [k d o e] at hn;cases hn
 refine ⟨fits (by simp),fun av hav=>?_⟩;refine ⟨x,dx,_,rfl,by rw [aj (bo b2 hav)];exact b2,by omega,ai ?_⟩;obtain ⟨b3,o3,old3,n3⟩:=z8 (o:=.lst []) (O:=.ins T.bA dx (aA "asked" (.ref av) F7)) hav b2;have s3:=(s2.trans (ag.upd (o:=.lst []) hav)).gL (o:=.ins T.bA dx (aA "asked" (.ref av) F7)) x0;have av0:=bK s2 hav;generalize upd (upd H2 av (.lst [])) x (.ins T.bA dx (aA "asked" (.ref av) F7))=H3 at b3 o3 old3 s3 ⊢;left;refine ⟨fits (by simp),fun lf hlf=>?_⟩;have l1:(aA "asked" (.ref av) F7).length<=11:=cQ Na;refine ⟨x,dx,_,rfl,by rw [aj (bo b3 hlf)];exact b3,by omega,ai ?_⟩;obtain ⟨b4,o4,Ni,n4⟩:=z8 (o:=.lst []) (O:=.ins T.bA dx (aA "left" (.ref lf) (aA "asked" (.ref av) F7))) hlf b3;have s4:=(s3.trans (ag.upd (o:=.lst []) hlf)).gL (o:=.ins T.bA dx (aA "left" (.ref lf) (aA "asked" (.ref av) F7))) x0;have lf0:=bK s3 hlf;have E8:av≠lf:=bo o3 hlf;have Ex:=Ni av _ n3 o3;generalize upd (upd H3 lf (.lst [])) x (.ins T.bA dx (aA "left" (.ref lf) (aA "asked" (.ref av) F7)))=H4 at b4 o4 Ni s4 Ex ⊢;left;refine ⟨fits (by simp),fun rd hrd=>?_⟩;have l2:(aA "left" (.ref lf) (aA "asked" (.ref av) F7)).length<=12:=cQ l1;refine ⟨x,dx,_,rfl,by rw [aj (bo b4 hrd)];exact b4,by omega,ai ?_⟩;obtain ⟨b5,o5,DK,n5⟩:=z8 (o:=.lst []) (O:=.ins T.bA dx (aA "reading" (.ref rd) (aA "left" (.ref lf) (aA "asked" (.ref av) F7)))) hrd b4;have s5:=(s4.trans (ag.upd (o:=.lst []) hrd)).gL (o:=.ins T.bA dx (aA "reading" (.ref rd) (aA "left" (.ref lf) (aA "asked" (.ref av) F7)))) x0;have ME:=DK av _ n3 Ex;have Nc:=DK lf _ n4 o4;have rd0:=bK s4 hrd;have nar:av≠rd:=bo Ex hrd;have ER:lf≠rd:=bo o4 hrd;generalize upd (upd H4 rd (.lst [])) x (.ins T.bA dx (aA "reading" (.ref rd) (aA "left" (.ref lf) (aA "asked" (.ref av) F7))))=H5 at b5 o5 DK s5 ME Nc ⊢;have l3:(aA "reading" (.ref rd) (aA "left" (.ref lf) (aA "asked" (.ref av) F7))).length<=13:=cQ l2;left;refine ⟨x,dx,_,rfl,b5,by omega,ai ?_⟩;have l4:(aA "leads_read" (.int 0) (aA "reading" (.ref rd) (aA "left" (.ref lf) (aA "asked" (.ref av) F7)))).length<=14:=cQ l3;left;refine ⟨x,dx,_,rfl,ay,by omega,?_⟩;have l5:(aA "looked_up" (.int 0) (aA "leads_read" (.int 0) (aA "reading" (.ref rd) (aA "left" (.ref lf) (aA "asked" (.ref av) F7))))).length<=15:=cQ l4;refine ⟨x,dx,_,rfl,ay,by omega,?_⟩;simp only [mx];refine q av lf rd _ ⟨i,s5.gL x0,x0,av0,lf0,rd0,⟨_,.aw,ay,wE (cQ l5) (by decide),rfl,fun f=>?_⟩,by rw [aj n3];exact ME,by rw [aj n4];exact Nc,by rw [aj n5];exact o5,E8,nar,ER,hz⟩;exact ((((((N4.put "asked" (.ref av)).put "left" (.ref lf)).put "reading" (.ref rd)).put "leads_read" (.int 0)).put "looked_up" (.int 0)).put "told" .aw f).trans rfl
def nJ:Sp:=fun _ _ _ _=>False
def noFn {CX:dj} {x qual:Str} {st:Stmt} {f:Addr} {fd:FuncData} {N ps:List Str} {k:Nat} (F:eK K x qual st f fd) (S:aF N ps (ax st)):aq P w K mg base CX (k+1) f fd ps nJ:=F.br S (fun _ _ _ _ h=>h.elim) fun _ _ _ _ _ _ _ _ _ h=>h.elim
def bO.tells {N:Cn} {c:Wc} {S:Ws} {H H4:Hp} {lf fd dM C:Addr} {F:List (Str×V)} (v:bO N c S H lf .aw) (gp:H fd=none) (s4:ag H H4) (b4:H4 fd=some (.ins C dM [])) :
  ∃ fs,upd H4 fd (.ins C dM F) c.x=some (.ins N.CW c.dx fs)/\fs.length < 1000/\bO N c S (upd (upd H4 fd (.ins C dM F)) c.x (.ins N.CW c.dx (aA "told" (.ref fd) fs))) lf (.ref fd)/\c.H0 fd=none/\c.x≠fd:=by
 obtain ⟨fs,pv,hx,bh,sf⟩:=v.fld;have f0:=v.fresh gp;have nx:c.x≠fd:=bo hx gp;have v5:=(v.same s4).off (o':=.ins C dM F) f0 b4 nx (bo v.oa gp) (bo v.ol gp) (bo v.od gp) (by nofun);obtain ⟨D9,ur,oX,_,v6⟩:=v5.put "told" (.ref fd) S (.ref fd) .aw;exact ⟨D9,ur,oX,v6,f0,nx⟩
def oz (ps:List Str):List (Sum Nat Str):=(ps.map Sum.inr).reverse
def Pb (ps:List Str):(oz ps).map oi=(ps.map V.str).reverse:=by
 unfold oz;rw [List.map_reverse,_v];rfl
def abo (N:Cn):Sp:=LV fun x fr lp H Q _=>X8 fun c S lf (b:Nat) (ps:List Str) (r:List Nat) (a:Ta) (t:Th)=>A9 (c.x=x) (fr=true) (bO N c S H lf .aw) (H lp=some (.lst (ps.map V.str))) (c.L[c.root]?=some a) (c.M.ts[c.root]?=some t) (gx c.M c.root b r) (∃ m,kF c.M c.L c.root m (eR b r) true) (∀ lf' H',bO N c { S with here:=eR b r,left:=oz ps } H' lf' .aw->Q .aw H')
def Xa:T.tT.k P w mg base 7 (abo T.cn):=by
 have G_House_standing_of:T.jq.k P w mg base 2 nJ:=noFn T.jq.F Md;have qS:T.fq.k P w mg base 3 nJ:=noFn T.fq.F BU;refine T.tT.F.ok Hm (fun _ _ _ _ h=>Ky h fun _ _ _ _=>rfl) fun _ A _ s H vs Q E hr h=>Ky h fun x fr lp h=>?_;obtain ⟨c,S,lf,b,ps,r,a,t,rfl,rfl,v,um,ha,ht,EB,EO,q1⟩:=h;obtain ⟨fs,pv,hx,bh,sf⟩:=v.fld;refine aY (b:=aN zR) ((ad (aO 3 Hm.nd (FF (cO (ac 1)) (bd T.aU T.Dj (ac 0)) (bB T.aE T.jq.h G_House_standing_of hr.m T.jq.b .nil aB (bd T.aU T.iT (ac 0)) (aa (bd T.aU T.tD (ac 0)) ae))))
 (ad (bP T.aU T.g7 (ac 0) (bn (Mq T) hr.m T.kI.m T.kI.F.kp T.kI.b .nil aB (aa (bd T.aU T.iT (ac 0)) (aa (ac 3) ae))))
 (ah (aW (cO (bn (TV T) hr.m T.pR.m T.pR.F.kp T.pR.b .nil aB (aa (bd T.aU T.iT (ac 0)) (aa (bd T.aU T.tD (ac 0)) (aa (bd T.aU T.g7 (ac 0)) ae))))) (ah (bP T.aU T.rB (ac 0) (Dv.listRev (K:=K) rfl rfl T.zk T.Lf (ac 2)))) (ah (aL (bB T.aU T.fq.h qS hr.m T.fq.b .nil aB (ac 0) (aa ap ae))))))))) ?_
 refine stI [some (V.ref c.x),some (V.bl true),some (V.ref lp),none] ?_;refine aX (fun σ' H'=>σ'=[some (V.ref c.x),some (V.bl true),some (V.ref lp),some (V.int (c.root:Int))]/\H'=H) ?_ ?_
 ·left;exact cz (fI hx sf rfl ⟨rfl,by trivial⟩)
 rintro σ' H' ⟨rfl,rfl⟩;right;refine (fI hx sf rfl ⟨c.A,c.L,c.M,c.root,b,r,a,t,v.m,rfl,rfl,ha,ht,EB,fun H1 s1=>?_⟩);have v1:=v.same s1;obtain ⟨oS,cu,qU,_,v2⟩:=v1.put "here" (.int ((eR b r:Nat):Int)) { S with here:=eR b r } .aw _;refine ⟨c.x,_,_,rfl,cu,qU,?_⟩;have hlp1:=s1 _ _ um;have Eb:lp≠c.x:=fun e=>by rw [e,hx] at um;cases um
 have NY:upd H1 c.x (.ins T.bA c.dx (aA "here" (.int ((eR b r:Nat):Int)) oS)) lp=some (.lst (ps.map V.str)):=by rw [aj Eb];exact hlp1
 generalize upd H1 c.x (.ins T.bA c.dx (aA "here" (.int ((eR b r:Nat):Int)) oS))=H2 at v2 NY ⊢;obtain ⟨m5,uN,dg,oY,cW⟩:=v2.fld;left;refine (fI dg cW rfl (fI dg cW rfl (fI dg cW rfl ⟨c.A,c.L,c.M,eR b r,c.root,true,v2.m,rfl,rfl,v2.hz,EO,fun H3 s3=>?_⟩)));have v3:=v2.same s3;refine cz ?_;refine ⟨lp,ps.map V.str,rfl,aH.of (s3 _ _ NY),fun l hl=>?_⟩;have v4:=v3.same (ag.upd (o:=.lst (ps.map V.str).reverse) hl);have b4:upd H3 l (.lst (ps.map V.str).reverse) l=some (.lst ((oz ps).map oi)):=by rw [ay,Pb]
 have l0:=v3.fresh hl;have E8:c.av≠l:=bo v3.oa hl;have ER:l≠c.rd:=wP (bo v3.od hl);generalize upd H3 l (.lst (ps.map V.str).reverse)=H4 at v4 b4 ⊢;obtain ⟨MP,lM,Ov,v5⟩:=v4.W8 l0 b4 E8 ER;exact ⟨c.x,_,_,rfl,lM,Ov,q1 l _ v5⟩
def jt (M:Hs) (L:List Ta) (root:Nat):Nat->Nat->List Str->Prop
 | n,k,ns=>∃ b r a t,L[k]?=some a/\M.ts[k]?=some t/\gx M k b r /\
  if jy root (b::r)=true then ns=[]
  else ∃ ab tb f z,L[b]?=some ab/\M.ts[b]?=some tb/\tb.df=[(f,z)]/\match n with | 0=>False | n+1=>∃ ns',ns=ns'++[z]/\jt M L root n f ns'
def XD (CH CS CT:Addr):Sp:=tY fun x z n H Q _=>X6 fun A L M (k:Nat) (root:Nat) ns=>A7 (aI CH CS CT H A L M) (A.a=x) (n=(k:Int)) (bb (sD M.ro) (.inr z)=some (.int (root:Int))) (∃ m,jt M L root m k ns) (ns.length<=500) (∀ l H',ag H H'->H' l=some (.lst (ns.map V.str))->Q (.ref l) H')
def abW:T.pY.k P w base 6 (XD T.aD T.aJ T.aM):=by
 refine T.pY.F.ok qI (fun _ _ _ _ h=>jk h fun _ _ _ _=>rfl) fun _ A _ s H vs Q E hr h=>jk h fun x z n h=>?_;obtain ⟨AA,L,M,k,root,ns,i,rfl,rfl,hz,⟨m,hm⟩,hlen,q⟩:=h;obtain ⟨fs,c,hx,bh,sf⟩:=i.h;refine aY (b:=aN Dd) ((ad (aO 3 qI.nd (bB T.aE T.gy.h (AU T) hr.m T.gy.b .nil aB (ac 0) (aa (ac 1) ae)))
 (ad (aO 4 qI.nd (db ae))
 (ad (aO 5 qI.nd (bn (sS T) hr.m T.eY.m T.eY.F.kp T.eY.b .nil aB (aa (ac 0) (aa (ac 2) ae))))
 (ad (r9 _c (bw (Mh (K:=K) rfl) (ac 3) (ac 5)) (ad (aO 6 qI.nd (bB T.aE T.iH.h (JI T) hr.m T.iH.b .nil aB (ac 0) (aa (dl (bI (K:=K) rfl) (ac 5) bi) ae)))
 (ad (aL (dU wf wn dW (ac 4) (aa (dl (bI (K:=K) rfl) (ac 6) bi) ae)))
 (ah (aO 5 qI.nd (bn (sS T) hr.m T.eY.m T.eY.F.kp T.eY.b .nil aB (aa (ac 0) (aa (dl (bI (K:=K) rfl) (ac 6) bi) ae))))))))
 (ah (aK (Dv.listRev (K:=K) rfl rfl T.zk T.Lf (ac 4))))))))) ?_
 refine stI [some (V.ref AA.a),some (V.str z),some (V.int (k:Int)),none,none,none,none] ?_;right;refine (mI hx sf ⟨AA,L,M,root,i,rfl,hz,?_⟩);right;refine ⟨fits (by simp),fun ln xU=>?_⟩;refine eV xU fun H1 s1 b1=>?_;have i1:=i.same s1;right;obtain ⟨b,r,a,t,ha,ht,bt,dY⟩:=(by unfold jt at hm;exact hm:∃ b r a t,L[k]?=some a/\M.ts[k]?=some t/\gx M k b r/\_);refine ⟨AA,L,M,k,b,r,a,t,i1,rfl,rfl,ha,ht,bt,fun l2 H2 s2 hl20 eN=>?_⟩;have Oa:=s1.trans s2;have c1:=s2 _ _ b1;obtain ⟨PV,oV⟩:∃ PV:Nat->St->Hp->Prop,PV=fun m σ' H'=>ag H H'/\∃ (ls:Addr) (b:Nat) (r:List Nat) (cs ns':List Str) (pv:Option V),σ'=[some (V.ref AA.a),some (V.str z),some (V.int (k:Int)),some (V.int (root:Int)),some (V.ref ln),some (V.ref ls),pv]/\H' ls=some (.lst (nV (b::r)))/\H' ln=some (.lst (cs.map V.str))/\ns=ns'++cs.reverse /\
  (if jy root (b::r)=true then ns'=[]
   else ∃ ab tb f z,L[b]?=some ab/\M.ts[b]?=some tb/\tb.df=[(f,z)]/\match m with | 0=>False | n+1=>∃ ns'',ns'=ns''++[z]/\jt M L root n f ns''):=⟨_,rfl⟩
 refine ai ⟨PV,⟨m,by rw [oV];exact ⟨Oa,l2,b,r,[],ns,none,rfl,eN,c1,by simp,dY⟩⟩,?_⟩;clear dY ha ht bt eN hl20 c1 hm Oa s2;intro m σ' H' hI;rw [oV] at hI;obtain ⟨s',ls,b,r,cs,ns',pv,rfl,N7,hln',eD,dY⟩:=hI;have i':=i.same s';obtain ⟨fs',c',hx',hfl',sf'⟩:=i'.h;left;refine ⟨_,.inl (aH.of N7),rfl,by simp [cU],?_⟩;rw [DH];cases hmem:jy root (b::r) with
 | true =>
  rw [AT hmem] at dY;subst dY;refine bZ ?_;left;refine ⟨ln,_,rfl,aH.of hln',fun l hl=>?_⟩;refine q l _ (s'.trans (ag.upd hl)) ?_;rw [ay,eD,List.nil_append,List.map_reverse]
 | false =>
  rw [zn (by rw [hmem];nofun)] at dY;obtain ⟨ab,tb,f,zz,gr,oZ,cf,hn⟩:=dY;refine cz ⟨fun σ' H'=>∃ m',m' < m/\PV m' σ' H',fun σ' H' h=>h,?_⟩;right;simp only [bR,N7,nV,ut,ly];refine ⟨AA.a,_,_,rfl,hx',(sf' _).trans rfl,AA,L,M,b,ab,tb,i',rfl,rfl,gr,oZ,.inr ⟨f,zz,cf,fun p hp=>?_⟩⟩;right;simp only [hln',bR,hp,Ga];cases m with
  | zero=>exact hn.elim
  | succ m =>
   obtain ⟨ns2,hns2,hn⟩:=hn;have ky:cs.length<=500:=by
    have:=PP List.length eD;simp at this;omega
   refine ⟨lh (by rw [pp];omega),?_⟩;have Eb:p≠ln:=gO hp hln' (by nofun);have s4:=s'.gL (o:=.lst (List.map V.str cs++[V.str zz])) xU;have b4:upd H' ln (.lst (List.map V.str cs++[V.str zz])) ln=some (.lst ((cs++[zz]).map V.str)):=by rw [ay,NE];rfl
   have uB:upd H' ln (.lst (List.map V.str cs++[V.str zz])) p=some (.tup [V.int (f:Int),V.str zz]):=by rw [aj Eb];exact hp
   generalize upd H' ln (.lst (List.map V.str cs++[V.str zz]))=H4 at s4 b4 uB ⊢;left;simp only [bR,uB,ly];obtain ⟨b2,r2,a2,t2,D7,kz,ye,DP⟩:=(by unfold jt at hn;exact hn:∃ b r a t,L[f]?=some a/\M.ts[f]?=some t/\gx M f b r/\_);refine ⟨AA,L,M,f,b2,r2,a2,t2,i.same s4,rfl,rfl,D7,kz,ye,fun l5 H5 s5 hl50 oX=>⟨m,Re m,?_⟩⟩;rw [oV];refine ⟨s4.trans s5,l5,b2,r2,cs++[zz],ns2,_,rfl,oX,s5 _ _ b4,?_,DP⟩;rw [eD,hns2];simp
def fJ {b:Bool} {A B:Prop} {i:Decidable (b=true)} (h:b=false) (hb:B):if b=true then A else B:=by rw [zn (by rw [h];decide)];exact hb
def iQ {b:Bool} {A B:Prop} {i:Decidable (b=true)} (h:b=true) (hb:A):if b=true then A else B:=by rw [AT h];exact hb
section
variable {T:Tx K mg} {H:Hp} {A:Ad} {L:List Ta} {M:Hs}
def Ic {z s:Str} {k:Nat} {t:Th} {Q:VK} {E:XK} (i:aI T.aD T.aJ T.aM H A L M) (hz:(bb (sD M.ro) (.inr z)).isSome=true) (hs:iz (.str s)=true) (ht:M.ts[k]?=some t) (q:Q (.bl (eZ s (fK t z))) H):Gw T.aD T.aJ T.aM T.bW T.bV T.bH [.ref A.a,.str z,.int k,.str s] H Q E:=by
 refine ⟨A,L,M,i,rfl,⟨_,rfl⟩,⟨_,rfl⟩,⟨_,rfl⟩,fun h=>(by rw [h z rfl] at hz;cases hz),fun z' e _=>?_⟩;cases e;refine ⟨fun h=>(by rw [hs] at h;cases h),fun s' e _=>?_⟩;cases e;have cb:=(sK.mp ht).1;refine ⟨fun h=>absurd cb (h k rfl),fun k' t' e ht'=>?_⟩;cases e;rw [ht] at ht';cases ht';exact q
end
def Ue (N:Cn):Sp:=mh fun x nm H Q _=>Jy fun c S lf a t k ak tc b r=>F8 (c.x=x) (bO N c S H lf .aw) (c.L[S.here]?=some a) (c.M.ts[S.here]?=some t) (fO (.str nm)=true) (nm.length<=1000) (bb (sD t.bU) (.inr nm)=some (.int ((k:Nat):Int))) (c.L[k]?=some ak) (c.M.ts[k]?=some tc) (tc.kd=("folder":Str)) (gx c.M k b r) (∀ H',bO N c { S with look:=S.look+1,here:=eR b r } H' lf .aw->Q .aw H')
def aah:T.sX.k P w mg base 9 (Ue T.cn):=by
 have qS:T.fq.k P w mg base 3 nJ:=noFn T.fq.F BU;have G_Walk_meet_lead:T.tK.k P w mg base 8 nJ:=noFn T.tK.F Ub;refine T.sX.F.ok Ae (fun _ _ _ _ h=>gz h fun _ _ _=>rfl) fun _ A _ s H vs Q E hr h=>gz h fun x nm h=>?_;obtain ⟨c,S,lf,a,t,k,ak,tc,b,r,rfl,v,ha,aS,hn,MK,hv,oN,OH,D1,bt,q⟩:=h;refine aY (b:=aN BG) ((ad (oC T.aU T.Iw ni (ac 0) bi)
 (ad (aO 2 Ae.nd (bB T.aE T.fS.h (Lp T) hr.m T.fS.b .nil aB (bd T.aU T.iT (ac 0)) (aa (bd T.aU T.g7 (ac 0)) (aa (ac 1) ae))))
 (ad (aW (bw xn (ac 2) aw) (ad (aL (bB T.aU T.fq.h qS hr.m T.fq.b .nil aB (ac 0) (aa ap ae)))
 (ah Iz)) cr)
 (ad (aO 3 Ae.nd (bB T.aE T.fN.h (vU T) hr.m T.fN.b .nil aB (bd T.aU T.iT (ac 0)) (aa (ac 2) ae)))
 (ah (aW (bw gK (ac 3) (em (.str "folder") T.xp ⟨_,rfl⟩)) (ah (bP T.aU T.g7 (ac 0) (bn (Mq T) hr.m T.kI.m T.kI.F.kp T.kI.b .nil aB (aa (bd T.aU T.iT (ac 0)) (aa (ac 2) ae))))) (ah (aW (gk (io (bw gK (ac 3) (em (.str "file") T.Dm ⟨_,rfl⟩)) (i0 (gk (Dv.w_and (bw (Hj (K:=K) rfl hr.mT) (bd T.aU T.rB (ac 0)) (db ae)) (vM (cX (cO (bd T.aU T.KU (ac 0)))))))))) (ad (bP T.aU T.wI (ac 0) (jp (aa (bd T.aU T.g7 (ac 0)) (aa (ac 1) ae))))
 (ah (bP T.aU T.g7 (ac 0) (ac 2)))) (ah (aL (bB T.aU T.tK.h G_Walk_meet_lead hr.m T.tK.b .nil aB (ac 0) (aa (ac 2) ae))))))))))))) ?_
 refine stI [some (V.ref c.x),some (V.str nm),none,none] ?_;obtain ⟨fs,hx,bh,oP,v1⟩:=v.put "looked_up" (.int ((S.look:Int)+1)) { S with look:=S.look+1 } .aw _;right;refine ⟨c.x,_,_,_,rfl,hx,oP,_,_,rfl,rfl,_,_,hx,bh,ai ?_⟩;generalize upd H c.x (.ins T.bA c.dx (aA "looked_up" (.int ((S.look:Int)+1)) fs))=H1 at v1 ⊢;obtain ⟨oS,Nf,cu,qU,fG⟩:=v1.fld;obtain ⟨dC,hc,hh,gJ,cS⟩:=v1.m.h;left;refine (fI cu fG rfl (mI hh cS (fI cu fG rfl ⟨c.A,c.L,c.M,S.here,a,t,v1.m,rfl,rfl,ha,aS,hn,MK,fun H2 s2=>?_⟩)));have v2:=v1.same s2;obtain ⟨m5,uN,dg,oY,cW⟩:=v2.fld;obtain ⟨hfs2,EE,N3,hhl2,hsf2⟩:=v2.m.h;rw [hv];right;refine ⟨by trivial,?_⟩;rw [tz (by nofun)];refine bZ ?_;right;refine (fI dg cW rfl (mI N3 hsf2 ⟨c.A,c.L,c.M,k,ak,tc,v2.m,rfl,rfl,oN,OH,?_⟩));simp only [xx];simp only [D1,decide_true];left;refine (fI dg cW rfl ⟨c.A,c.L,c.M,k,_,_,ak,_,v2.m,rfl,rfl,oN,OH,bt,fun H3 s3=>?_⟩);obtain ⟨uL,o8,uC,_,v3⟩:=(v2.same s3).put "here" _ { S with look:=S.look+1,here:=eR _ _ } .aw _;exact ⟨c.x,_,_,rfl,o8,uC,q _ v3⟩
structure Dl (c:Wd) (S:Ws) (t:Th):Prop where
 l:∃ a,c.L[S.here]?=some a
 e:c.M.ts[S.here]?=some t
 k:t.kd=("folder":Str)
 g:eZ ("g":Str) (fK t c.z)=true
def sR (S:Ws):Ws:={ S with step:=S.step+1,asked:=S.asked++[S.here] }
inductive vZ (c:Wd) (S:Ws) (p:Str):Ws->Prop
 | dot {t}:Dl c S t->p=(".":Str)->vZ c S p (sR S)
 | go {t k ak tc b r}:Dl c S t->p≠("..":Str)->p≠(".":Str)->fO (.str p)=true->p.length<=1000->bb (sD t.bU) (.inr p)=some (.int ((k:Nat):Int))->c.L[k]?=some ak->c.M.ts[k]?=some tc->tc.kd=("folder":Str)->gx c.M k b r->vZ c S p { sR S with look:=(sR S).look+1,here:=eR b r }
def W6 (N:Cn):Sp:=mh fun x p H Q _=>X4 fun c S lf S'=>A5 (c.x=x) (bO N c S H lf .aw) (S.asked.length<=900) (vZ c.toWd S p S') (∀ H',bO N c S' H' lf .aw->Q .aw H')
def abV:T.rD.k P w mg base 10 (W6 T.cn):=by
 have G_Walk_go_up:T.sV.k P w mg base 7 nJ:=noFn T.sV.F ON;have qS:T.fq.k P w mg base 3 nJ:=noFn T.fq.F BU;refine T.rD.F.ok abD (fun _ _ _ _ h=>gz h fun _ _ _=>rfl) fun _ A _ s H vs Q E hr h=>gz h fun x p h=>?_;obtain ⟨c,S,lf,S',rfl,v,hn,hp,q⟩:=h;obtain ⟨t,hA⟩:∃ t,Dl c.toWd S t:=by
  cases hp with
  | dot h=>exact ⟨_,h⟩
  | go h=>exact ⟨_,h⟩
 obtain ⟨a,ha⟩:=hA.l;have aS:=hA.e;refine aY (b:=aN AY) ((ad (oC T.aU T.Mg ni (ac 0) bi)
 (ad (aW (bw fk (bB T.aE T.fN.h (vU T) hr.m T.fN.b .nil aB (bd T.aU T.iT (ac 0)) (aa (bd T.aU T.g7 (ac 0)) ae)) (em (.str "folder") T.xp ⟨_,rfl⟩)) (ad (aL (bB T.aU T.fq.h qS hr.m T.fq.b .nil aB (ac 0) (aa ap ae)))
 (ah Iz)) cr)
 (ad (aL (dU wf wn dW (bd T.aU T.Km (ac 0)) (aa (bd T.aU T.g7 (ac 0)) ae)))
 (ah (aW (cX (cO (bf T.aE T.gU.h (sH T) hr.m T.gU.b .nil dJ (bd T.aU T.iT (ac 0)) (aa (bd T.aU T.tD (ac 0)) (aa (bd T.aU T.g7 (ac 0)) (aa ap ae)))))) (ah (aL (bB T.aU T.fq.h qS hr.m T.fq.b .nil aB (ac 0) (aa ap ae)))) (ah (aW (bw gK (ac 1) ap) (ah (aL (qC T.aU T.sV.h G_Walk_go_up hr.m T.sV.b .nil aB (ac 0)))) (ah (aW (bw fk (ac 1) ap) (ah (aL (bB T.aU T.sX.h (aah T) hr.m T.sX.b .nil aB (ac 0) (aa (ac 1) ae)))) cr)))))))))) ?_
 refine stI [some (V.ref c.x),some (V.str p)] ?_;obtain ⟨fs,hx,bh,oP,v1⟩:=v.put "step" (.int ((S.step:Int)+1)) { S with step:=S.step+1 } .aw _;right;refine ⟨c.x,_,_,_,rfl,hx,oP,_,_,rfl,rfl,_,_,hx,bh,ai ?_⟩;generalize upd H c.x (.ins T.bA c.dx (aA "step" (.int ((S.step:Int)+1)) fs))=H1 at v1 ⊢;obtain ⟨oS,Nf,cu,qU,fG⟩:=v1.fld;obtain ⟨dC,hc,hh,gJ,cS⟩:=v1.m.h;left;refine (fI cu fG rfl (mI hh cS (fI cu fG rfl ⟨c.A,c.L,c.M,S.here,a,t,v1.m,rfl,rfl,ha,aS,?_⟩)));simp only [xx];simp only [hA.k,decide_true];refine bZ ?_;right;refine (fI cu fG rfl ?_);simp only [v1.oa];refine (fI cu fG rfl ?_);have v2:=v1.abe S.here;refine ⟨wS (Re _) (fits (by simp;omega)),?_⟩;dsimp only at v2;generalize upd H1 c.av (.lst (nV S.asked++[.int (S.here:Int)]))=H2 at v2 ⊢;obtain ⟨m5,uN,dg,oY,cW⟩:=v2.fld;obtain ⟨bG,gc,gh,bF,aG⟩:=v2.m.h;refine (fI dg cW rfl (mI gh aG (fI dg cW rfl (fI dg cW rfl (Ic v2.m (by rw [v2.hz];rfl) (by symm) aS ?_)))));rw [hA.g];cases hp with
 | dot _ h5 =>
  subst h5;exact bZ (fJ (tz (by symm)) (fJ (by rw [xz rfl];rfl) (q _ v2)))
 | go hB h5 h6 h7 h8 hv gH fA hkk bt =>
  have h2:=hB.e;rw [aS] at h2;cases h2;exact bZ (fJ (tz h5) (iQ (by rw [tz h6];rfl) (mI dg cW ⟨c,_,lf,a,_,_,_,_,_,_,rfl,v2,ha,aS,h7,h8,hv,gH,fA,hkk,bt,q⟩)))
def JB (c:Nat):∀ (ns:List Str) (n:Nat),(∀ s∈ns,s.length<=8)->ns.foldl (fun n z=>n+z.length+c) n<=n+(8+c) * ns.length
 | [],n,_=>by simp
 | y::r,n,h=>by
  have h1:=h y (by simp);have h2:=JB c r (n+y.length+c) fun s hs=>h s (by simp [hs]);rw [List.foldl_cons,FS,Nat.mul_add];omega
def Qt {ns:List Str} (h:∀ s∈ns,s.length<=8) (hl:ns.length<=100):ns.foldl (fun n z=>n+z.length+(Str.ofString "/").length) 0<=900/\(Str.join (Str.ofString "/") ns).length<=900:=by
 have lj:(Str.ofString "/").length=1:=by symm
 have h1:=JB 1 ns 0 h;have h2:=StrLaws.join_length_le (Str.ofString "/") ns;have h3:(ns.map (·.length)).sum<=8 * ns.length:=by
  clear h1 h2 hl
  induction ns with
  | nil=>simp
  | cons y r ih =>
   have:=ih fun s hs=>h s (by simp [hs]);have h4:=h y (by simp);rw [ut,List.sum_cons,FS];omega
 rw [lj] at h2 ⊢;omega
def KD (ns:List Str):Str:=Str.ofString "/" ++ Str.join (Str.ofString "/") ns
def UN (N:Cn):Sp:=mw fun x H Q _=>X7 fun c S lf (a:Ta) (t:Th) (ns:List Str) (told:V)=>A9 (c.x=x) (bO N c S H lf told) (c.L[S.here]?=some a) (c.M.ts[S.here]?=some t) (t.kd=("folder":Str)) (∃ m,jt c.M c.L c.root m S.here ns) (ns.length<=99) (∀ s∈ns,s.length<=8) (∀ H',ag H H'->Q (.str (KD ns)) H')
def VH:T.sT.k P w mg base 7 (UN T.cn):=by
 refine T.sT.F.ok tH (fun _ _ _ _ h=>fX h fun _ _=>rfl) fun _ A _ s H vs Q E hr h=>fX h fun x h=>?_;obtain ⟨c,S,lf,a,t,ns,told,rfl,v,ha,aS,D1,eD,hl100,hn8,q⟩:=h;refine aY (b:=aN DC) ((ad (aO 1 tH.nd (db ae))
 (ad (aO 2 tH.nd (bd T.aU T.g7 (ac 0)))
 (ad (aW (bw fk (bB T.aE T.fN.h (vU T) hr.m T.fN.b .nil aB (bd T.aU T.iT (ac 0)) (aa (bd T.aU T.g7 (ac 0)) ae)) (em (.str "folder") T.xp ⟨_,rfl⟩)) (ad (aO 2 tH.nd (dl (bI (K:=K) rfl) (bd T.aU T.wI (ac 0)) bi))
 (ah (aO 1 tH.nd (db (aa (dl (bI (K:=K) rfl) (bd T.aU T.wI (ac 0)) bi) ae))))) cr)
 (ah (aK (dL gT ap (ot PySem.F.slot_str_join PySem.F.type_str_join (O4 (K:=K) rfl) ap (aa (dL gT (bn (abW T) hr.m T.pY.m T.pY.F.kp T.pY.b .nil aB (aa (bd T.aU T.iT (ac 0)) (aa (bd T.aU T.tD (ac 0)) (aa (ac 2) ae)))) (ac 1)) ae))))))))) ?_
 refine stI [some (V.ref c.x),none,none] ?_;right;refine ⟨fits (by simp),fun ln xU=>?_⟩;refine eV xU fun H1 s1 b1=>?_;have v1:=v.same s1;obtain ⟨fs,pv,hx,bh,hpv,sf⟩:=v1.o;obtain ⟨dC,hc,hh,gJ,cS⟩:=v1.m.h;right;refine (fI hx sf rfl ?_);right;refine (fI hx sf rfl (mI hh cS (fI hx sf rfl ⟨c.A,c.L,c.M,S.here,a,t,v1.m,rfl,rfl,ha,aS,?_⟩)));simp only [xx];refine fJ (by rw [xz D1];rfl) ?_;have s2:=s1;have b2:=b1;have v2:=v.same s2;obtain ⟨m5,uN,dg,oY,cW⟩:=v2.fld;left;refine (fI dg cW rfl (fI dg cW rfl ⟨c.A,c.L,c.M,S.here,c.root,ns,v2.m,rfl,rfl,v2.hz,eD,by omega,fun l H3 s3 hl=>?_⟩));have c3:=s3 _ _ b2;simp only [hl,c3];obtain ⟨DN,hb2⟩:=Qt hn8 (by omega);have lj:(Str.ofString "/").length=1:=by symm
 refine ⟨fits (by simp;omega),fun p hp=>?_⟩;refine ⟨_,aH.of ay,ns,by simp,?_⟩;exact ⟨fits (by omega),fits (by omega),q _ ((s2.trans s3).trans (ag.upd hp))⟩
structure Bd (S:Ws):Prop where
 a:S.asked.length<=S.step
 p:S.step+S.left.length<=900
def S3 (ps:List Str):(oz ps).length=ps.length:=by unfold oz;simp
inductive qm (c:Wd):Nat->Ws->Ws->Prop
 | done {S}:S.left=[]->qm c 0 S S
 | step {n S p l S1 S'}:S.left=l++[.inr p]->vZ c { S with left:=l } p S1->qm c n S1 S'->qm c (n+1) S S'
abbrev vK (k:Nat) (ns:List Str):List (Str×V):=aA "way" (.str (KD ns)) (aA "number" (.int (k:Int)) [])
def Jr (M:Hs) (L:List Ta) (root:Nat) (S:Ws) (ns:List Str):Prop:=∃ (a:Ta) (t:Th),L[S.here]?=some a/\M.ts[S.here]?=some t/\t.kd=("folder":Str)/\(∃ m,jt M L root m S.here ns)/\ns.length<=99/\(∀ s∈ns,s.length<=8)
def Wx (N:Cn):Sp:=mw fun x H Q _=>X6 fun c S lf n S' ns=>A6 (c.x=x) (bO N c S H lf .aw) (Bd S) (qm c.toWd n S S') (Jr c.M c.L c.root S' ns) (∀ fd dM H',bO N c S' H' lf (.ref fd)->H' fd=some (.ins N.CG dM (vK S'.here ns))->Q .aw H')
def Zg:T.uc.k P w mg base 11 (Wx T.cn):=by
 refine T.uc.F.ok JC (fun _ _ _ _ h=>fX h fun _ _=>rfl) fun _ A _ s H vs Q E hr h=>fX h fun x h=>?_;obtain ⟨c,S,lf,n,S',ns,rfl,v,ui,mY,⟨a,t,h1,h2,h3,h4,h5,h6⟩,q⟩:=h;refine aY (b:=aN BA) ((ad (r9 _c (gk (Dv.w_and (bw xn (bd T.aU T.nu (ac 0)) aw) (vM (bw (PJ (K:=K) rfl hr.mT) (bd T.aU T.rB (ac 0)) (db ae))))) (ad (aO 1 JC.nd (Gu PySem.F.slot_list_pop PySem.F.type_list_pop JO (bd T.aU T.rB (ac 0))))
 (ah (aW (cO (bn (HU T) hr.m T.lI.m T.lI.F.kp T.lI.b .nil aB (aa (ac 1) ae))) (ah (aL (Gu PySem.F.slot_list_pop PySem.F.type_list_pop JO (bd T.aU T.Fw (ac 0))))) (ah (aL (bB T.aU T.rD.h (abV T) hr.m T.rD.b .nil aB (ac 0) (aa (ac 1) ae))))))))
 (ah (aW (bw xn (bd T.aU T.nu (ac 0)) aw) (ah (bP T.aU T.nu (ac 0) (li T.R5 (Rf T) hr.m T.Jd T.rT.b .nil aB (aa (bd T.aU T.g7 (ac 0)) (aa (qC T.aU T.sT.h (VH T) hr.m T.sT.b .nil aB (ac 0)) ae))))) cr)))) ?_
 refine stI [some (V.ref c.x),none] ?_;obtain ⟨PV,oV⟩:∃ PV:Nat->St->Hp->Prop,PV=fun n σ' H'=>∃ pv:Option V,σ'=[some (V.ref c.x),pv]/\∃ S,bO T.cn c S H' lf .aw/\Bd S/\qm c.toWd n S S':=⟨_,rfl⟩;refine ai ?_;refine ⟨PV,⟨n,by rw [oV];exact ⟨none,rfl,S,v,ui,mY⟩⟩,?_⟩;clear v ui mY;intro m σ' H' hI;rw [oV] at hI;obtain ⟨pv,rfl,S,v1,ui,mY⟩:=hI
 ·left;obtain ⟨oS,Nf,cu,qU,fG⟩:=v1.fld;refine (fI cu fG rfl ⟨by trivial,cz ?_⟩);refine (fI cu fG rfl ⟨fits (by simp),fun d hd=>?_⟩);have v2:=v1.same (ag.upd (o:=.lst []) hd);have b2:upd H' d (.lst []) d=some (.lst []):=ay;generalize upd H' d (.lst [])=H2 at v2 b2 ⊢;obtain ⟨m5,uN,dg,oY,cW⟩:=v2.fld;refine ⟨_,[],aH.of v2.ol,aH.of b2,.inl ⟨rfl,?_⟩⟩;cases mY with
  | done hle =>
   refine fJ (by rw [hle];rfl) ?_;refine (fI dg cW rfl ⟨by trivial,cz ?_⟩);refine (fI dg cW rfl (mI dg cW ⟨c,_,lf,a,t,ns,_,rfl,v2,h1,h2,h3,h4,h5,h6,fun H3 s3=>?_⟩));intro fd dM gp hdfd nfd;have s4:=(ag.upd (o:=.own fd) hdfd).trans (ag.upd (p:=fd) (o:=.ins T.eF dM []) (by rw [aj (wP nfd)];exact gp));have b4:upd (upd H3 dM (.own fd)) fd (.ins T.eF dM []) fd=some (.ins T.eF dM []):=ay;generalize upd (upd H3 dM (.own fd)) fd (.ins T.eF dM [])=H4 at s4 b4 ⊢;refine ⟨dM,b4,rfl,?_⟩;obtain ⟨D9,ur,oX,v6,f0,nx⟩:=(v2.same s3).tells (F:=vK S'.here ns) gp s4 b4;exact ⟨c.x,_,_,rfl,ur,oX,q fd dM _ v6 (by rw [aj (wP nx)];exact ay)⟩
  | @step n _ p l S1 _ hle bt mY =>
   refine iQ (by rw [hle];cases l <;> rfl) ⟨_,fun _ _ h=>h,?_⟩;right;refine (fI dg cW rfl ?_);simp only [v2.ol];refine ⟨l.map oi,V.str p,by rw [hle,NE];rfl,?_⟩;have v3:=v2.abM l;generalize upd H2 lf (.lst (l.map oi))=H3 at v3 ⊢;obtain ⟨uL,pv3,o8,uC,oM⟩:=v3.fld;refine ⟨⟨_,rfl⟩,bZ ?_⟩;have ba:=ui.a;have bp:=ui.p;rw [hle,LE] at bp;have e1:[Sum.inr (α:=Nat) p].length=1:=rfl;refine (mI o8 oM ⟨c,_,lf,_,rfl,v3,by dsimp only;omega,bt,fun H4 v4=>⟨n,by omega,?_⟩⟩);rw [oV];refine ⟨_,rfl,S1,v4,?_,mY⟩;cases bt <;> exact ⟨by unfold sR;simp;omega,by unfold sR;dsimp only;omega⟩
structure rK (d:Wd) (ps:List Str) (k:Nat) (ns:List Str):Prop where
 z:bb (sD d.M.ro) (.inr d.z)=some (.int (d.root:Int))
 ex:∃ (b:Nat) (r:List Nat) (a:Ta) (t:Th) (n:Nat) (S:Ws),d.L[d.root]?=some a/\d.M.ts[d.root]?=some t/\gx d.M d.root b r/\(∃ m,kF d.M d.L d.root m (eR b r) true)/\qm d n ⟨eR b r,none,0,[],oz ps,[],0,0⟩ S/\Jr d.M d.L d.root S ns/\S.here=k
 l:ps.length<=900
def ac4 (N:Cn) (H H':Hp) (k:Nat) (ns:List Str) (x:Addr):Prop:=ag H H'/\∃ dx gs fd dM,H' x=some (.ins N.CW dx gs)/\gs.lookup ("told":Str)=some (.ref fd)/\H' fd=some (.ins N.CG dM (vK k ns))
def S2 (N:Cn):Sp:=KW fun h z fr lp last H Q _=>X7 fun A L M root ps k ns=>A6 (fr=true) (aI N.CH N.CS N.CT H A L M) (A.a=h) (H lp=some (.lst (ps.map V.str))) (rK ⟨L,M,z,last,root⟩ ps k ns) (∀ x H',ac4 N H H' k ns x->Q (.ref x) H')
def Jt:T.kZ.k P w base 12 (S2 T.cn):=by
 refine T.kZ.F.ok Il (fun _ _ _ _ h=>Gy h fun _ _ _ _ _ _=>rfl) fun _ A _ s H vs Q E hr h=>Gy h fun hh z fr lp last h=>?_;obtain ⟨AA,L,M,root,ps,k,ns,rfl,i,rfl,um,⟨bz,⟨b,r,a,t,n,S',ha,ht,EB,EO,mY,htw,rfl⟩,hps⟩,q⟩:=h;refine aY (b:=aN zE) ((ad (aO 5 Il.nd (li T.abB (Wt T) hr.m T.ZM T.sy.b .nil aB (aa (ac 0) (aa (ac 1) (aa (ac 4) ae)))))
 (ad (aL (bB T.aU T.tT.h (Xa T) hr.m T.tT.b .nil aB (ac 5) (aa (ac 2) (aa (ac 3) ae))))
 (ad (aL (qC T.aU T.uc.h (Zg T) hr.m T.uc.b .nil aB (ac 5)))
 (ah (aK (ac 5))))))) ?_
 refine stI [some (V.ref AA.a),some (V.str z),some (V.bl true),some (V.ref lp),some (V.bl last),none] ?_;right;intro x dx hx lU ndx;have s1:=(ag.upd (o:=.own x) lU).trans (ag.upd (p:=x) (o:=.ins T.bA dx []) (by rw [aj (wP ndx)];exact hx));have b1:upd (upd H dx (.own x)) x (.ins T.bA dx []) x=some (.ins T.bA dx []):=ay;generalize upd (upd H dx (.own x)) x (.ins T.bA dx [])=H1 at s1 b1 ⊢;refine ⟨AA,L,M,dx,H,root,i,rfl,b1,s1,hx,bz,fun av lf rd H2 v2=>?_⟩;refine ⟨rfl,ai ?_⟩;left;obtain ⟨m5,uN,dg,oY,cW⟩:=v2.fld;refine (mI dg cW ⟨_,_,lf,b,ps,r,a,t,rfl,rfl,v2,v2.s _ _ um,ha,ht,EB,EO,fun lf' H3 v3=>ai ?_⟩);left;obtain ⟨uL,pv3,o8,uC,oM⟩:=v3.fld;refine (mI o8 oM ⟨_,_,lf',n,S',ns,rfl,v3,⟨Do _,by have:=S3 ps;dsimp only;omega⟩,mY,htw,fun fd dM H4 v4 gp=>?_⟩);obtain ⟨MP,pv4,lM,Ov,sf4⟩:=v4.fld;exact q x H4 ⟨v4.s,dx,MP,fd,dM,lM,(sf4 _).trans rfl,gp⟩
def xt:T.me.k P w mg base 1 (mF T.gu "reason"):=by
 refine T.me.F.ok Tp (fun vs H Q E h=>?_) (fun _ A _ s H vs Q E hr h=>?_)
 ·unfold mF at h;split at h
  ·rfl
  ·exact h.elim
 ·unfold mF at h;split at h
  ·rename_i ea y;obtain ⟨he,q⟩:=h;refine ⟨_,((ah (IE T.rO (ac 0) (ac 1)))).h,?_⟩;refine stI [some (.ref ea),some y] ?_;walk_at "rd";exact ⟨ea,rfl,he,q⟩
  ·exact h.elim
def ZS:T.tm.k P w mg base 1 (mF T.gn "told"):=by
 refine T.tm.F.ok ZA (fun vs H Q E h=>?_) (fun _ A _ s H vs Q E hr h=>?_)
 ·unfold mF at h;split at h
  ·rfl
  ·exact h.elim
 ·unfold mF at h;split at h
  ·rename_i ea y;obtain ⟨he,q⟩:=h;refine ⟨_,((ah (IE T.Io (ac 0) (ac 1)))).h,?_⟩;refine stI [some (.ref ea),some y] ?_;walk_at "rd";exact ⟨ea,rfl,he,q⟩
  ·exact h.elim
def abk (N:Cn):Sp:=mw fun fd H Q _=>X3 fun k ns dM=>A2 (H fd=some (.ins N.CG dM (vK k ns))) (Q (.int (k:Int)) H)
def Ds:aq P w K mg base (aR P w) 3 T.ik.f T.ik.d ["told"] (abk T.cn):=by
 refine T.ik.F.br P4 (fun _ _ _ _ h=>fX h fun _ _=>rfl) fun _ A _ s H vs Q E hr h=>fX h fun fd h=>?_;obtain ⟨k,ns,dM,hf,q⟩:=h;refine aY (b:=aN Ai) ((ad (aW (cX (cO (bJ (gR (K:=K) rfl) T.dA du (aa (ac 0) (aa (em (.ref T.eF) T.Jd rfl) ae))))) (ah (rE sU rfl rfl T.FG T.Io T.Td (ZS T) hr.m T.tm.b (aa (ac 0) ae))) cr)
 (ah (aK (bd T.vf T.JL (ac 0)))))) ?_
 refine stI [some (V.ref fd)] ?_;right;exact ⟨_,_,_,.of (.ins hf T.vf T.q1 T.q2 T.q3 T.q4),.cls T.q5,bZ ⟨fd,dM,_,_,rfl,hf,rfl,q⟩⟩
structure ig (t:List Nat):Prop where
 l1:1<=t.length
 l2:t.length<=2000
 all:(Tx.words 47 t).all ef=true
def Pa:Sp:=lF fun pt H Q _=>X3 fun t q nm=>A5 (pt=Tx.S t) (ig t) (told (Tx.words 47 t) t=q++[nm]) (isNm nm=true) (∀ H',ag H H'->Q .aw H')
def LA {w:List Nat} (h:isNm w=true):47 ∉ w/\w≠[]/\1<=w.length/\w.length<=8:=by
 have hp:ef w=true:=by unfold ef;rw [h];simp
 obtain ⟨h1,h2,_⟩:=KZ h;exact ⟨(Ay hp).1,(Ay hp).2.1,h1,h2⟩
def XZ {w:List Nat} {b:Bool} (h:isNm w=b):fO (.str (Tx.S w))=b:=by
 show isNm (Tx.S w).cps.toList=b;rw [Tx.jV];exact h
def LX {w:List Nat} (h:isNm w=true):fO (.str (Tx.S w))=true:=XZ h
def Tc:aq P w K mg base (aR P w) 4 T.iL.f T.iL.d ["path"] Pa:=by
 refine T.iL.F.br vW (fun _ _ _ _ h=>fZ h fun _ _=>rfl) fun _ A _ s H vs Q E hr h=>fZ h fun pt h=>?_;obtain ⟨t,qs,nm,rfl,sp,e,hn,q⟩:=h;refine aY (b:=aN xb) ((ad (aO 1 vW.nd (dl (bI (K:=K) rfl) (bn (fL T) hr.m T.bq.m T.bq.F.kp T.bq.b .nil aB (aa (ac 0) ae)) bi))
 (ah (aW (gk (io (bw (zx hr.mT) (ac 1) (db ae)) (i0 (cX (cO (bn (rp T) hr.m T.fc.m T.fc.F.kp T.fc.b .nil aB (aa (dl (bI (K:=K) rfl) (ac 1) (im hV bi)) ae))))))) (ah (rE sU rfl rfl T.rh T.rO T.wY (xt T) hr.m T.me.b (aa ap ae))) cr)))) ?_
 refine stI [some (V.str (Tx.S t)),none] ?_;right;refine ⟨t,rfl,sp.l1,sp.l2,sp.all,fun H1 l p s1 _ hl hp=>?_⟩;simp only [bR,hp];rw [show eC [V.bl (mK t),V.ref l] 1=some (V.ref l) from rfl];refine ⟨fits (by simp),fun d hd=>?_⟩;refine eV hd fun H2 s2 b2=>?_;have eN:=s2 _ _ hl;rw [e] at eN;obtain ⟨h1,h2,h3,h4⟩:=LA hn;have wM:H2 l=some (.lst (PV qs++[V.str (Tx.S nm)])):=by rw [eN];simp [PV]
 refine ⟨qs.map Tx.S++[Tx.S nm],[],by rw [wM];simp [PV],b2,?_⟩;rw [tz (by simp)];refine bZ ?_;simp only [wM,qe];refine ⟨⟨_,rfl⟩,by show (Tx.S nm).length<=1000;rw [Tx.dD];omega,fun H3 s3=>?_⟩;rw [LX hn];exact bZ (q _ ((s1.trans s2).trans s3))
def OP {H H':Hp} {x:Addr} (s:ag H H') (h:H' x=none):H x=none:=by
 cases e:H x with
 | none=>rfl
 | some o=>rw [s _ _ e] at h;cases h
abbrev u4 (f:Nat) (nm:List Nat):List (Str×V):=aA "name" (.str (Tx.S nm)) (aA "folder" (.int (f:Int)) [])
def J9 (d:Wd) (t:List Nat) (f:Nat) (nm:List Nat):Prop:=∃ q ns,told (Tx.words 47 t) t=q++[nm]/\isNm nm=true/\mK t=true/\q.length<=800/\rK d (q.map Tx.S++[(".":Str)]) f ns
def RN (N:Cn):Sp:=wL fun h z pt H Q _=>X7 fun A L M root t f nm=>A6 (pt=Tx.S t) (ig t) (aI N.CH N.CS N.CT H A L M) (A.a=h) (J9 ⟨L,M,z,true,root⟩ t f nm) (∀ x dx H',H x=none->ag H H'->H' x=some (.ins N.CE dx (u4 f nm))->Q (.ref x) H')
def abq:aq P w K mg base (aR P w) 13 T.iB.f T.iB.d ["house","asker","path"] (RN T.cn):=by
 refine T.iB.F.br pZ (fun _ _ _ _ h=>pz h fun _ _ _ _=>rfl) fun _ A _ s H vs Q E hr h=>pz h fun hh z pt h=>?_;obtain ⟨AA,L,M,root,t,f,nm,rfl,sp,i,rfl,⟨qs,ns,he,hn,lR,hq,g⟩,q⟩:=h;refine aY (b:=aN wk) ((ad (aL (bg (Tc T) hr.m T.iL.m T.iL.F.kp T.iL.b .nil aQ (aa (ac 2) ae)))
 (ad (aO 3 pZ.nd (bn (fL T) hr.m T.bq.m T.bq.F.kp T.bq.b .nil aB (aa (ac 2) ae)))
 (ad (aO 4 pZ.nd (bn (Jt T) hr.m T.kZ.m T.kZ.F.kp T.kZ.b .nil aB (aa (ac 0) (aa (ac 1) (aa (dl (bI (K:=K) rfl) (ac 3) bi) (aa (dL gT (Dv.slice (yY (K:=K) rfl) (dl (bI (K:=K) rfl) (ac 3) bi) Ab (Cb (im hV bi))) (db (aa ap ae))) (aa ge ae)))))))
 (ah (aK (li T.IA (LZ T) hr.m T.Ha T.pL.b .nil aB (aa (bg (Ds T) hr.m T.ik.m T.ik.F.kp T.ik.b .nil aQ (aa (bd T.aU T.nu (ac 4)) ae)) (aa (dl (bI (K:=K) rfl) (dl (bI (K:=K) rfl) (ac 3) bi) (im hV bi)) ae))))))))) ?_
 refine stI [some (V.ref AA.a),some (V.str z),some (V.str (Tx.S t)),none,none] ?_;right;refine ⟨t,qs,nm,rfl,sp,he,hn,fun H1 s1=>ai ?_⟩;left;refine ⟨t,rfl,sp.l1,sp.l2,sp.all,fun H2 l p s2 _ hl hp=>ai ?_⟩;rw [he,show PV (qs++[nm])=PV qs++[V.str (Tx.S nm)] from by simp [PV]] at hl;left;simp only [bR,hp];rw [show eC [V.bl (mK t),V.ref l] 1=some (V.ref l) from rfl,show eC [V.bl (mK t),V.ref l] 0=some (V.bl (mK t)) from rfl,lR];dsimp only;refine ⟨_,aH.of hl,fun p1 kh=>?_⟩;rw [OQ];refine ⟨fits (by simp),fun p2 m9=>?_⟩;have s3:=(ag.upd (o:=.lst (PV qs)) kh).trans (ag.upd (o:=.lst [V.str "."]) m9);have n12:p1≠p2:=bo (ay (o:=.lst (PV qs))) m9;have b3:upd (upd H2 p1 (.lst (PV qs))) p2 (.lst [V.str "."]) p1=some (.lst (PV qs)):=by rw [aj n12,ay]
 have b4:upd (upd H2 p1 (.lst (PV qs))) p2 (.lst [V.str "."]) p2=some (.lst [V.str "."]):=ay;generalize upd (upd H2 p1 (.lst (PV qs))) p2 (.lst [V.str "."])=H3 at s3 b3 b4 ⊢;simp only [b3,b4];refine ⟨fits (by simp;omega),fun p3 i9=>?_⟩;have s4:=s3.trans (ag.upd (o:=.lst (PV qs++[V.str "."])) i9);have b5:upd H3 p3 (.lst (PV qs++[V.str "."])) p3=some (.lst (PV qs++[V.str "."])):=ay;generalize upd H3 p3 (.lst (PV qs++[V.str "."]))=H4 at s4 b5 ⊢;refine ⟨AA,L,M,root,qs.map Tx.S++[(".":Str)],f,ns,rfl,i.same ((s1.trans s2).trans s4),rfl,by rw [b5];simp [PV],g,?_⟩;rintro x H5 ⟨s5,dx,gs,fd,dM,hx,hgs,gp⟩;have MG:=((s1.trans s2).trans s4).trans s5;refine ⟨x,_,_,_,rfl,hx,hgs,_,_,_,gp,?_⟩;have uk:=(s4.trans s5) _ _ hp;have oX:=(s4.trans s5) _ _ hl;simp only [uk];rw [show eC [V.bl (mK t),V.ref l] 1=some (V.ref l) from rfl];simp only [oX,qe];intro y dy hy hdy ndy;refine ⟨dy,ay,rfl,?_⟩;rw [mx];exact q y dy _ (OP MG hy) (MG.trans ((ag.upd (o:=.own y) hdy).trans (ag.upd (p:=y) (by rw [aj (wP ndy)];exact hy)))) ay
def acZ (N:Cn):Sp:=Hc fun h z n r y H Q E=>X5 fun A L M t (k:Nat)=>A8 (n=(k:Int)) (aI N.CH N.CS N.CT H A L M) (A.a=h) ((bb (sD M.ro) (.inr z)).isSome=true) (iz (.str r)=true) (M.ts[k]?=some t) (eZ r (fK t z)=true) (Q .aw H)
def Pf:aq P w K mg base (aR P w) 4 T.qr.f T.qr.d ["house","asker","number","right","reason"] (acZ T.cn):=by
 refine T.qr.F.br Rp (fun _ _ _ _ h=>LJ h fun _ _ _ _ _ _=>rfl) fun _ A _ s H vs Q E hr h=>LJ h fun hh z n r rs h=>?_;obtain ⟨AA,L,M,t,k,rfl,i,rfl,hz,yA,ht,hm,q⟩:=h;obtain ⟨bG,gc,gh,bF,aG⟩:=i.h;refine aY (b:=aN Be) ((ah (aW (cX (cO (bf T.aE T.gU.h (sH T) hr.m T.gU.b .nil aQ (ac 0) (aa (ac 1) (aa (ac 2) (aa (ac 3) ae)))))) (ah (rE sU rfl rfl T.rh T.rO T.wY (xt T) hr.m T.me.b (aa (ac 4) ae))) cr))) ?_;refine stI [some (V.ref AA.a),some (V.str z),some (V.int (k:Int)),some (V.str r),some (V.str rs)] ?_;left;refine (mI gh aG (Ic i hz yA ht ?_));rw [hm];exact bZ q
def RD (N:Cn):Sp:=tY fun h z n H Q E=>X5 fun A L M t (k:Nat)=>A7 (n=(k:Int)) (aI N.CH N.CS N.CT H A L M) (A.a=h) ((bb (sD M.ro) (.inr z)).isSome=true) (M.ts[k]?=some t) (eZ ("w":Str) (fK t z)=true) (Q .aw H)
def acR:aq P w K mg base (aR P w) 5 T.pN.f T.pN.d ["house","asker","folder"] (RD T.cn):=by
 refine T.pN.F.br Qd (fun _ _ _ _ h=>jk h fun _ _ _ _=>rfl) fun _ A _ s H vs Q E hr h=>jk h fun hh z n h=>?_;obtain ⟨AA,L,M,t,k,rfl,i,rfl,hz,ht,hm,q⟩:=h;refine aY (b:=aN De) ((ah (aL (bg (Pf T) hr.m T.qr.m T.qr.F.kp T.qr.b .nil aQ (aa (ac 0) (aa (ac 1) (aa (ac 2) (aa ap (aa ap ae))))))))) ?_;refine stI [some (V.ref AA.a),some (V.str z),some (V.int (k:Int))] ?_;left;exact ⟨AA,L,M,t,k,rfl,i,rfl,hz,by symm,ht,hm,q⟩
def abU (N:Cn):Sp:=AH fun h x H Q _=>X8 fun A L M a t dx nm (k:Nat)=>A7 (aI N.CH N.CS N.CT H A L M) (A.a=h) (H x=some (.ins N.CE dx (u4 k nm))) (isNm nm=true) (L[k]?=some a) (M.ts[k]?=some t) (∀ H',ag H H'->Q ((bb (sD t.bU) (.inr (Tx.S nm))).getD .aw) H')
def Sb:T.pW.k P w base 5 (abU T.cn):=by
 refine T.pW.F.ok aaP (fun _ _ _ _ h=>uU h fun _ _ _=>rfl) fun _ A _ s H vs Q E hr h=>uU h fun hh x h=>?_;obtain ⟨AA,L,M,a,t,dx,nm,k,i,rfl,hx,hn,ha,ht,q⟩:=h;obtain ⟨bG,gc,gh,bF,aG⟩:=i.h;obtain ⟨h1,h2,h3,h4⟩:=LA hn;refine aY (b:=aN C2) ((ah (aK (bB T.aE T.fS.h (Lp T) hr.m T.fS.b .nil aB (ac 0) (aa (bd T.nX T.xl (ac 1)) (aa (bd T.nX T.CZ (ac 1)) ae)))))) ?_;refine stI [some (V.ref AA.a),some (V.ref x)] ?_;left;exact (mI gh aG ⟨x,_,_,_,rfl,hx,rfl,x,_,_,_,rfl,hx,rfl,AA,L,M,k,a,t,i,rfl,rfl,ha,ht,LX hn,by rw [Tx.dD];omega,q⟩)
def Qe (N:Cn):Sp:=AH fun h x H Q E=>X8 fun A L M a t dx nm (k:Nat)=>A8 (aI N.CH N.CS N.CT H A L M) (A.a=h) (H x=some (.ins N.CE dx (u4 k nm))) (isNm nm=true) (L[k]?=some a) (M.ts[k]?=some t) (bb (sD t.bU) (.inr (Tx.S nm))=none) (∀ H',ag H H'->Q .aw H')
def acY:aq P w K mg base (aR P w) 6 T.pd.f T.pd.d ["house","seat"] (Qe T.cn):=by
 refine T.pd.F.br aaM (fun _ _ _ _ h=>uU h fun _ _ _=>rfl) fun _ A _ s H vs Q E hr h=>uU h fun hh x h=>?_;obtain ⟨AA,L,M,a,t,dx,nm,k,i,rfl,hx,hn,ha,ht,hv,q⟩:=h;refine aY (b:=aN z9) ((ah (aW (bw Iq (bn (Sb T) hr.m T.pW.m T.pW.F.kp T.pW.b .nil aB (aa (ac 0) (aa (ac 1) ae))) aw) (ah (rE sU rfl rfl T.rh T.rO T.wY (xt T) hr.m T.me.b (aa ap ae))) cr))) ?_;refine stI [some (V.ref AA.a),some (V.ref x)] ?_;left;refine ⟨AA,L,M,a,t,dx,nm,k,i,rfl,hx,hn,ha,ht,fun H1 s1=>?_⟩;rw [hv];exact ⟨by trivial,bZ (q H1 s1)⟩
structure Hu (d:Wd) (t:List Nat) (f:Nat) (nm:List Nat) (a:Ta) (tf:Th):Prop where
 g:J9 d t f nm
 n:isNm nm=true
 a:d.L[f]?=some a
 t:d.M.ts[f]?=some tf
 w:eZ ("w":Str) (fK tf d.z)=true
 v:bb (sD tf.bU) (.inr (Tx.S nm))=none
def Uy (N:Cn):Sp:=wL fun h z pt H Q _=>X9 fun A L M root t f nm a tf=>A7 (pt=Tx.S t) (ig t) (aI N.CH N.CS N.CT H A L M) (A.a=h) ((bb (sD M.ro) (.inr z)).isSome=true) (Hu ⟨L,M,z,true,root⟩ t f nm a tf) (∀ x dx H',H x=none->ag H H'->H' x=some (.ins N.CE dx (u4 f nm))->Q (.ref x) H')
def ql:aq P w K mg base (aR P w) 14 T.en.f T.en.d ["house","asker","path"] (Uy T.cn):=by
 refine T.en.F.br KP (fun _ _ _ _ h=>pz h fun _ _ _ _=>rfl) fun _ A _ s H vs Q E hr h=>pz h fun hh z pt h=>?_;obtain ⟨AA,L,M,root,t,f,nm,a,tf,rfl,sp,i,rfl,hzz,g,q⟩:=h;refine aY (b:=aN DG) ((ad (aO 3 KP.nd (bg (abq T) hr.m T.iB.m T.iB.F.kp T.iB.b .nil aQ (aa (ac 0) (aa (ac 1) (aa (ac 2) ae)))))
 (ad (aL (bg (acR T) hr.m T.pN.m T.pN.F.kp T.pN.b .nil aQ (aa (ac 0) (aa (ac 1) (aa (bd T.nX T.xl (ac 3)) ae)))))
 (ad (aL (bg (acY T) hr.m T.pd.m T.pd.F.kp T.pd.b .nil aQ (aa (ac 0) (aa (ac 3) ae))))
 (ah (aK (ac 3))))))) ?_
 refine stI [some (V.ref AA.a),some (V.str z),some (V.str (Tx.S t)),none] ?_;right;refine ⟨AA,L,M,root,t,f,nm,rfl,sp,i,rfl,g.g,fun x dx H1 fx s1 hx=>ai ?_⟩;left;refine ⟨x,_,_,_,rfl,hx,rfl,AA,L,M,_,_,rfl,i.same s1,rfl,hzz,g.t,g.w,ai ?_⟩;left;exact ⟨AA,L,M,_,_,dx,_,_,i.same s1,rfl,hx,g.n,g.a,g.t,g.v,fun H2 s2=>q x dx H2 fx (s1.trans s2) (s2 _ _ hx)⟩
def Sz:Sp:=lF fun z H Q _=>z.length<=60/\Q (.bl true) H
def OX:Sp:=lF fun z H Q _=>z.length<=60/\Q .aw H
def abd:T.il.k P w base 1 Sz:=by
 refine T.il.F.ok Kb (fun _ _ _ _ h=>fZ h fun _ _=>rfl) fun _ A _ s H vs Q E hr h=>fZ h fun z h=>?_;obtain ⟨hz,q⟩:=h;refine ⟨_,((ah (aK (pH (bJ iG T.dA du (aa (ac 0) (aa (gY (.ty "str") T.jh jX rfl) ae))) (kt (ii kS (bJ (gN (K:=K) rfl) T.gv IR (aa (ac 0) ae)) (em (.int 60) T.LQ ⟨_,rfl⟩))))))).h,?_⟩;refine stI [some (V.str z)] ?_;left;refine ⟨by decide,cz ⟨fits (by omega),?_⟩⟩;rw [xz (show (z.length:Int)<=60 by omega)];exact q
def CU:T.gj.k P w base 2 OX:=by
 refine T.gj.F.ok Gj (fun _ _ _ _ h=>fZ h fun _ _=>rfl) fun _ A _ s H vs Q E hr h=>fZ h fun z h=>?_;obtain ⟨hz,q⟩:=h;refine ⟨_,((ah (aW (cX (cO (bn (abd T) hr.m T.il.m T.il.F.kp T.il.b .nil aB (aa (ac 0) ae)))) (ah ck) cr))).h,?_⟩;refine stI [some (V.str z)] ?_;left;exact ⟨hz,bZ q⟩
def My:T.nT.k P w mg base 4 (OW T.aJ T.aM):=by
 refine T.nT.F.ok YV (fun _ _ _ _ h=>KJ h fun _ _ _ _ _ _=>rfl) fun _ A _ s H vs Q E hr h=>KJ h fun x ow tx mi re h=>?_;obtain ⟨dt,ml,rs,at',ib,q⟩:=h;obtain ⟨fs,c,hx,bh,sf⟩:=at'.o;refine ⟨_,((ah (aK (bB T.bx T.kE.h (zJ T) hr.m T.kE.b .nil aB (ac 0) (aa (em (.str "file") T.Dm ⟨_,rfl⟩) (aa (ac 1) (aa (ac 3) (aa (ac 4) (aa (ac 2) ae))))))))).h,?_⟩;refine stI [some (.ref x),some ow,some tx,some mi,some re] ?_;left;exact ⟨x,dt,fs,rfl,hx,(sf _).trans rfl,dt,ml,rs,at',ib,q⟩
def P0:T.jm.k P w mg base 3 (iw T.aD T.aJ T.aM Ad.a XR):=by
 refine T.jm.F.ok Mn (fun _ _ _ _ h=>cL h fun _ _ _=>rfl) fun _ A _ s H vs Q E hr h=>cL h fun x n h=>?_;obtain ⟨AA,L,M,k,a,t,i,rfl,rfl,ha,aS,q⟩:=h;obtain ⟨fs,c,hx,bh,sf⟩:=i.h;obtain ⟨gs,c2,ht,dN,sg⟩:=i.t;have cK:=eJ i ha aS;obtain ⟨ks,ho,ia,so⟩:=cK.o;refine ⟨_,((ah (aK (bd T.cC T.vd (bf T.bx T.bS.h (eB T) hr.m T.bS.b .nil dJ (bd T.aE T.cP (ac 0)) (aa (ac 1) ae)))))).h,?_⟩;refine stI [some (V.ref AA.a),some (V.int (k:Int))] ?_;left;exact ⟨AA.a,_,_,.ref AA.t,rfl,hx,(sf _).trans rfl,AA.t,_,_,rfl,ht,(sg _).trans rfl,iV i ha aS (fI ho so rfl q)⟩
section
variable {CH CS CT:Addr} {H H':Hp} {A:Ad} {L:List Ta} {M:Hs}
def aI.some (i:aI CH CS CT H A L M):∀ b∈A.w++L.flatMap Ta.l,∃ o,H b=.some o:=fun b hb=>by
 rcases _O.mp hb with h | h
 ·simp only [Ad.w,pi,ss,AC] at h;rcases h with rfl | rfl | rfl | rfl | rfl | rfl | rfl | rfl
  ·obtain ⟨_,_,e,_⟩:=i.h;exact ⟨_,e⟩
  ·obtain ⟨_,_,e,_⟩:=i.t;exact ⟨_,e⟩
  ·exact ⟨_,i.ml⟩
  ·exact ⟨_,i.ro⟩
  ·exact ⟨_,i.st⟩
  ·exact ⟨_,i.tr⟩
  ·exact ⟨_,i.ov⟩
  ·exact ⟨_,i.un⟩
 ·obtain ⟨a,ha,hb⟩:=List.mem_flatMap.mp h;obtain ⟨k,hk⟩:=_G ha;have cb:k < M.ts.length:=by rw [<- i.len];exact (sK.mp hk).1
  obtain ⟨a',e1,t⟩:=i.th k _ (mo cb);rw [hk] at e1;cases e1;simp only [Ta.l,pi,ss,AC] at hb;rcases hb with rfl | rfl | rfl
  ·obtain ⟨_,e,_⟩:=t.o;exact ⟨_,e⟩
  ·exact ⟨_,t.nm⟩
  ·exact ⟨_,t.pl⟩
def aI.add {th dH nm pl:Addr} {ks:List (Str×V)} {kd ow mi re tx:Str} (i:aI CH CS CT H A L M) (f1:H th=none) (f2:H nm=none) (f3:H pl=none) (at':lJ CS H' A.t A.dt A.ml ((L.map fun a=>V.ref a.th)++[.ref th])) (aS:H' th=Option.some (.ins CT dH ks)) (kl:ks.length<=40)
  (sk:dB ks (rS (.int (L.length:Nat)) (.str kd) (.str ow) (.str mi) (.str re) (.str tx) (.ref nm) (.ref pl))) (cM:H' nm=Option.some (.dK [])) (cf:H' pl=Option.some (.dT [])) (kp:Kp [A.t,A.ml] H H') :
  aI CH CS CT H' A (L++[⟨th,dH,nm,pl⟩]) { M with ts:=M.ts++[⟨kd,ow,mi,re,tx,[],[]⟩] }:=by
 have nd:=i.nd;have sm:=i.some;have nw:∀ b∈A.w++L.flatMap Ta.l,b≠th/\b≠nm/\b≠pl:=fun b hb=>by
  obtain ⟨o,e⟩:=sm b hb;exact ⟨bo e f1,bo e f2,bo e f3⟩
 have h12:th≠nm:=gO aS cM (by nofun);have h13:th≠pl:=gO aS cf (by nofun);have h23:nm≠pl:=gO cM cf (by nofun);have n0:=nd;rw [Gc] at n0;obtain ⟨n1,n2,n3⟩:=n0;simp only [Ad.w,Fr,pi,ss,AC,_F] at n1;have kA:∀ b∈[A.a,A.ro,A.st,A.tr,A.ov,A.un],b ∉ [A.t,A.ml]:=by
  intro b hb hm;simp only [pi,ss,AC] at hb hm;rcases hb with rfl | rfl | rfl | rfl | rfl | rfl <;> rcases hm with h | h
  ·exact n1.1.1 h
  ·exact n1.1.2.1 h
  ·exact n1.2.1.2.1 h.symm
  ·exact n1.2.2.1.1 h.symm
  ·exact n1.2.1.2.2.1 h.symm
  ·exact n1.2.2.1.2.1 h.symm
  ·exact n1.2.1.2.2.2.1 h.symm
  ·exact n1.2.2.1.2.2.1 h.symm
  ·exact n1.2.1.2.2.2.2.1 h.symm
  ·exact n1.2.2.1.2.2.2.1 h.symm
  ·exact n1.2.1.2.2.2.2.2 h.symm
  ·exact n1.2.2.1.2.2.2.2 h.symm
 refine ⟨?_,at'.o,?_,by simp [i.len],fun j t e=>?_,kp _ _ (kA _ (by simp)) i.ro,kp _ _ (kA _ (by simp)) i.st,kp _ _ (kA _ (by simp)) i.tr,kp _ _ (kA _ (by simp)) i.ov,kp _ _ (kA _ (by simp)) i.un,?_⟩
 ·obtain ⟨fs,c,e,r⟩:=i.h;exact ⟨fs,c,kp _ _ (kA _ (by simp)) e,r⟩
 ·rw [at'.ml];simp
 ·have e':(M.ts++[(⟨kd,ow,mi,re,tx,[],[]⟩:Th)])[j]?=.some t:=e;by_cases hj:j < M.ts.length
  ·rw [FM hj] at e';obtain ⟨a,e1,h1⟩:=i.th j t e';refine ⟨a,by rw [FM (by rw [i.len];exact hj)];exact e1,h1.keep kp fun b hb hm=>?_⟩;have oW:=mv e1 hb;simp only [pi,ss,AC] at hm;rcases hm with rfl | rfl
   ·exact n3 _ (by simp [Ad.w]) _ oW rfl
   ·exact n3 _ (by simp [Ad.w]) _ oW rfl
  ·rw [Ev (by omega)] at e';have hj0:j - M.ts.length=0:=by
    rcases Nat.eq_zero_or_pos (j - M.ts.length) with h | h
    ·exact h
    ·rw [XV (by simp;omega)] at e';cases e'
   rw [hj0] at e';cases e';have hjl:j=L.length:=by rw [i.len];omega
   subst hjl;exact ⟨_,by rw [Ev (ul _),Nat.sub_self];rfl,⟨⟨ks,aS,kl,sk⟩,cM,cf⟩⟩
 ·rw [List.flatMap_append,<- List.append_assoc,Gc];refine ⟨nd,?_,fun b hb c hc e=>?_⟩
  ·simp only [Tl,List.flatMap_nil,_7,Ta.l,Fr,pi,ss,AC,_F,not_false_eq_true,Jad,and_true];exact ⟨⟨h12,h13⟩,h23⟩
  ·obtain ⟨q1,q2,q3⟩:=nw b hb;simp only [Tl,List.flatMap_nil,_7,Ta.l,pi,ss,AC] at hc;rcases hc with h | h | h
   ·exact q1 (e.trans h)
   ·exact q2 (e.trans h)
   ·exact q3 (e.trans h)
end
def Mw (CH CS CT CE:Addr):Sp:=K0 fun h x n H Q _=>Jq fun A L M (f:Nat) (k:Nat) af tf ak tk dx nm=>Cd (aI CH CS CT H A L M) (A.a=h) (H x=some (.ins CE dx (aA "name" (.str nm) (aA "folder" (.int (f:Int)) [])))) (n=(k:Int)) (L[f]?=some af) (M.ts[f]?=some tf) (L[k]?=some ak) (M.ts[k]?=some tk) (f≠k) (bb (sD tf.bU) (.inr nm)=none) (tf.bU.length<=500) (tk.df=[]) (∀ H',aI CH CS CT H' A L { M with ts:=(M.ts.set f { tf with bU:=tf.bU++[(nm,k)] }).set k { tk with df:=[(f,nm)] } }->Kp [A.t,af.nm,ak.pl] H H'->Q (.int (k:Int)) H')
def qh:T.ej.k P w base 6 (Mw T.aD T.aJ T.aM T.lO):=by
 refine T.ej.F.ok Y4 (fun _ _ _ _ h=>Jx h fun _ _ _ _=>rfl) fun _ A _ s H vs Q E hr h=>Jx h fun hh x n h=>?_;obtain ⟨AA,L,M,f,k,af,tf,ak,tk,dx,nm,i,rfl,hx,rfl,ke,qY,gH,fA,dQ,hv,hl,cf,q⟩:=h;obtain ⟨bG,gc,gh,bF,aG⟩:=i.h;obtain ⟨gs,c2,ht,dN,sg⟩:=i.t;refine aY (b:=aN B1) ((ad (aL (bB T.bx T.sY.h (aaq T) hr.m T.sY.b .nil aB (bd T.aE T.cP (ac 0)) (aa (bd T.nX T.xl (ac 1)) (aa (bd T.nX T.CZ (ac 1)) (aa (ac 2) ae)))))
 (ah (aK (ac 2))))) ?_
 refine stI [some (V.ref AA.a),some (V.ref x),some (V.int (k:Int))] ?_;right;exact (fI gh aG rfl (mI ht sg ⟨x,_,_,_,rfl,hx,rfl,x,_,_,_,rfl,hx,rfl,AA,L,M,f,k,af,tf,ak,tk,i,rfl,rfl,rfl,ke,qY,gH,fA,dQ,hv,hl,cf,q⟩))
def rN (CH CS CT:Addr) (A:Ad) (L:List Ta) (M:Hs) (f:Nat) (t0:Th) (a0:Ta) (nm kd ow mi re tx:Str) (H:Hp) (Q:VK):Prop :=
 ∀ a H',aI CH CS CT H' A (L++[a]) { M with ts:=M.ts.set f { t0 with bU:=t0.bU++[(nm,M.ts.length)] }++[⟨kd,ow,mi,re,tx,[],[(f,nm)]⟩] }->Kp [A.t,A.ml,a0.nm] H H'->Q (.int (M.ts.length:Nat)) H'
def K1 {α:Type} {y b:α}:∀ r:List α,(r++[y]).set r.length b=r++[b]
 | []=>rfl
 | c::r=>by simp only [List.cons_append,FS,List.set_cons_succ];rw [K1 r]
def VP {α:Type}:∀ {xs:List α} {f:Nat} {y a b:α},f < xs.length->((xs++[y]).set f a).set xs.length b=xs.set f a++[b]:=fun {xs f y a b} h=>by
 rw [List.set_append_left _ _ h];have:=K1 (y:=y) (b:=b) (xs.set f a)
 rwa [List.length_set] at this
def Ak {CH CS CT CE:Addr} {H:Hp} {A:Ad} {L:List Ta} {M:Hs} {f:Nat} {z nm kd mi re tx:Str} {a0:Ta} {t0:Th} {x dx:Addr} {Q:VK} {E:XK} (i:aI CH CS CT H A L M) (qZ:L[f]?=some a0) (Nz:M.ts[f]?=some t0) (hx:H x=some (.ins CE dx (aA "name" (.str nm) (aA "folder" (.int (f:Int)) [])))) (hv:bb (sD t0.bU) (.inr nm)=none) (hl:t0.bU.length<=400)
  (nx1:x≠A.t) (mp:rN CH CS CT A L M f t0 a0 nm kd z mi re tx H Q):si CS CT A.t A.dt A.ml (L.map fun a=>V.ref a.th) (.str kd) (.str z) (.str mi) (.str re) (.str tx) H (fun v H'=>Mw CH CS CT CE [.ref A.a,.ref x,v] H' Q E):=by
 intro th dH nm' pl ks H' f1 f2 f3 at' aS kl sk cM cf kp;have nx2:x≠A.ml:=gO hx i.ml (by nofun);have hlen:(L.map fun a=>V.ref a.th).length=L.length:=pp _;rw [hlen] at sk ⊢;have i2:=i.add f1 f2 f3 at' aS kl sk cM cf kp;have h0:f < M.ts.length:=(sK.mp Nz).1;have EV:=i.len;have e0:(M.ts++[(⟨kd,z,mi,re,tx,[],[]⟩:Th)])[f]?=some t0:=by rw [FM h0];exact Nz
 have ek:(M.ts++[(⟨kd,z,mi,re,tx,[],[]⟩:Th)])[L.length]?=some ⟨kd,z,mi,re,tx,[],[]⟩:=by rw [EV,Ev (ul _),Nat.sub_self];rfl
 refine ⟨A,L++[⟨th,dH,nm',pl⟩],_,f,L.length,a0,t0,⟨th,dH,nm',pl⟩,⟨kd,z,mi,re,tx,[],[]⟩,dx,nm,i2,rfl,kp _ _ (by simp [nx1,nx2]) hx,rfl,by rw [FM (by omega)];exact qZ,e0,by rw [Ev (ul _),Nat.sub_self];rfl,ek,by omega,hv,by omega,rfl,fun H2 i3 k3=>?_⟩;have:=mp ⟨th,dH,nm',pl⟩ H2 (by
  have e:=i3;dsimp only at e;rw [EV] at e;rw [VP h0] at e;exact e) (fun b o hb e=>?_)
 ·rw [EV];exact this
 ·simp only [pi,ss,AC,_F] at hb;have nbp:b≠pl:=bo e f3;exact k3 _ _ (by simp [hb.1,hb.2.2,nbp]) (kp _ _ (by simp [hb.1,hb.2.1]) e)
def B7 {CH CS CT:Addr} {H:Hp} {A:Ad} {L:List Ta} {M:Hs} (i:aI CH CS CT H A L M):lJ CS H A.t A.dt A.ml (L.map fun a=>V.ref a.th):=⟨i.t,i.ml⟩
def rN.of {CH CS CT:Addr} {H H1:Hp} {A:Ad} {L:List Ta} {M:Hs} {f:Nat} {t0:Th} {a0:Ta} {nm kd ow mi re tx:Str} {Q:VK} (s:ag H H1) (m:rN CH CS CT A L M f t0 a0 nm kd ow mi re tx H Q):rN CH CS CT A L M f t0 a0 nm kd ow mi re tx H1 Q:=fun a H' i k=>m a H' i ((Kp.of s).trans k)
def aa1 (K:ν):Sp:=lF fun pt H Q _=>X1 fun t=>A4 (pt=Tx.S t) (ig t) (t.length<=120) (∀ H',ag H H'->Q .aw H')
def Mb:T.iF.k P w base 4 (aa1 K):=by
 refine T.iF.F.ok IB (fun _ _ _ _ h=>fZ h fun _ _=>rfl) fun _ A _ s H vs Q E hr h=>fZ h fun pt h=>?_;obtain ⟨t,rfl,pt,hl,q⟩:=h;refine aY (b:=aN vh) ((ad (aL (bn (fL T) hr.m T.bq.m T.bq.F.kp T.bq.b .nil aB (aa (ac 0) ae)))
 (ah (aW (bw B4 (bJ (gN (K:=K) rfl) T.gv IR (aa (ac 0) ae)) (em (.int 120) T.Hn ⟨_,rfl⟩)) (ah ck) cr)))) ?_
 refine stI [some (V.str (Tx.S t))] ?_;right;refine ⟨t,rfl,pt.l1,pt.l2,pt.all,fun H1 l p s1 _ _ _=>?_⟩;left;refine ⟨by rw [Tx.dD];exact fits (by omega),?_⟩;rw [Tx.dD,tz (show ¬ (t.length:Int) > 120 by omega)];exact bZ (q _ s1)
def JS:T.nI.k P w mg base 4 (aao T.aJ T.aM):=by
 refine T.nI.F.ok Zo (fun _ _ _ _ h=>pe h fun _ _ _ _=>rfl) fun _ A _ s H vs Q E hr h=>pe h fun x ow tx h=>?_;obtain ⟨dt,ml,rs,at',ib,q⟩:=h;obtain ⟨fs,c,hx,bh,sf⟩:=at'.o;refine ⟨_,((ah (aK (bB T.bx T.kE.h (zJ T) hr.m T.kE.b .nil aB (ac 0) (aa (em (.str "lead") T.Vb ⟨_,rfl⟩) (aa (ac 1) (aa ap (aa ap (aa (ac 2) ae))))))))).h,?_⟩;refine stI [some (.ref x),some ow,some tx] ?_;left;exact ⟨x,dt,fs,rfl,hx,(sf _).trans rfl,dt,ml,rs,at',ib,q⟩
structure wN (N:Cn) (H:Hp) (A:Ad) (L:List Ta) (M:Hs) (z:Str) (t:List Nat) (kd mi re tx:Str) (Q:VK) (E:XK):Prop where
 i:aI N.CH N.CS N.CT H A L M
 p:ig t
 hz:(bb (sD M.ro) (.inr z)).isSome=true
 vv:mi∈er
 xB:re∈er
 hL:L.length<=400
 hl:∀ (f:Nat) t0,M.ts[f]?=some t0->t0.bU.length<=400
 r:∃ root f nm a0 t0,Hu ⟨L,M,z,true,root⟩ t f nm a0 t0/\rN N.CH N.CS N.CT A L M f t0 a0 (Tx.S nm) kd z mi re tx H Q
def aae (N:Cn):Sp:=Me fun h z pt mi re H Q E=>X4 fun A L M t=>A3 (pt=Tx.S t) (wN N H A L M z t "folder" mi re "" Q E) (A.a=h)
def VL (N:Cn):Sp:=HI fun h z pt tx mi re H Q E=>X4 fun A L M t=>A4 (pt=Tx.S t) (wN N H A L M z t "file" mi re tx Q E) (A.a=h) (tx.length<=60)
def Yj:aq P w K mg base (aR P w) 15 T.yz T.qW ["house","asker","path","mine","rest"] (aae T.cn):=by
 refine T.pV.br wj (fun vs H Q E h=>?_) (fun _ A _ s H vs Q E hr h=>?_)
 ·exact IQ h fun _ _ _ _ _ _=>rfl
 ·refine IQ h fun hh z pt mi re h=>?_;obtain ⟨AA,L,M,t,rfl,pr,rfl⟩:=h;obtain ⟨bG,gc,gh,bF,aG⟩:=pr.i.h;obtain ⟨root,f,nm,a0,t0,g,q⟩:=pr.r;refine aY (b:=aN nZ) ((ad (aL (bf T.aE T.cJ.h (gi T) hr.m T.cJ.b .nil aQ (ac 0) (aa (ac 1) ae)))
  (ad (aL (bn (fL T) hr.m T.bq.m T.bq.F.kp T.bq.b .nil aB (aa (ac 2) ae)))
  (ad (aL (bn (nH T) hr.m T.cA.m T.cA.F.kp T.cA.b .nil aB (aa (ac 3) ae)))
  (ad (aL (bn (nH T) hr.m T.cA.m T.cA.F.kp T.cA.b .nil aB (aa (ac 4) ae)))
  (ad (aO 5 wj.nd (bg (ql T) hr.m T.en.m T.en.F.kp T.en.b .nil aQ (aa (ac 0) (aa (ac 1) (aa (ac 2) ae)))))
  (ah (aK (bn (qh T) hr.m T.ej.m T.ej.F.kp T.ej.b .nil aB (aa (ac 0) (aa (ac 5) (aa (bB T.bx T.kY.h (Cr T) hr.m T.kY.b .nil aB (bd T.aE T.cP (ac 0)) (aa (ac 1) (aa (ac 3) (aa (ac 4) ae)))) ae)))))))))))) ?_
  refine stI [some (V.ref AA.a),some (V.str z),some (V.str (Tx.S t)),some (V.str mi),some (V.str re),none] ?_;right;refine (mI gh aG (eS pr.i pr.hz (ai ?_)));left;refine ⟨t,rfl,pr.p.l1,pr.p.l2,pr.p.all,fun H1 l p s1 _ hl hp=>ai ?_⟩;left;refine ⟨pr.vv,ai ?_⟩;left;refine ⟨pr.xB,ai ?_⟩;left;refine ⟨AA,L,M,root,t,f,nm,a0,t0,rfl,pr.p,pr.i.same s1,rfl,pr.hz,g,fun x dx H2 fx s2 hx=>?_⟩;left;have i2:=pr.i.same (s1.trans s2);obtain ⟨Oe,Nh,uz,Nb,uy⟩:=i2.h;obtain ⟨gs,c2,ht,dN,sg⟩:=i2.t;obtain ⟨_,_,hZ,_⟩:=(pr.i.same s1).t;refine (fI uz uy rfl (mI ht sg ⟨AA.dt,AA.ml,_,B7 i2,by rw [pp];have:=pr.hL;omega,Ak i2 g.a g.t hx g.v (pr.hl _ _ g.t) (wP (bo hZ fx)) (q.of (s1.trans s2))⟩))
def RL:aq P w K mg base (aR P w) 15 T.yi T.qN ["house","asker","path","text","mine","rest"] (VL T.cn):=by
 refine T.pf.br vF (fun vs H Q E h=>?_) (fun _ A _ s H vs Q E hr h=>?_)
 ·exact GH h fun _ _ _ _ _ _ _=>rfl
 ·refine GH h fun hh z pt tx mi re h=>?_;obtain ⟨AA,L,M,t,rfl,pr,rfl,htx⟩:=h;obtain ⟨bG,gc,gh,bF,aG⟩:=pr.i.h;obtain ⟨root,f,nm,a0,t0,g,q⟩:=pr.r;refine aY (b:=aN ng) ((ad (aL (bf T.aE T.cJ.h (gi T) hr.m T.cJ.b .nil aQ (ac 0) (aa (ac 1) ae)))
  (ad (aL (bn (fL T) hr.m T.bq.m T.bq.F.kp T.bq.b .nil aB (aa (ac 2) ae)))
  (ad (aL (bn (nH T) hr.m T.cA.m T.cA.F.kp T.cA.b .nil aB (aa (ac 4) ae)))
  (ad (aL (bn (nH T) hr.m T.cA.m T.cA.F.kp T.cA.b .nil aB (aa (ac 5) ae)))
  (ad (aL (bn (CU T) hr.m T.gj.m T.gj.F.kp T.gj.b .nil aB (aa (ac 3) ae)))
  (ad (aO 6 vF.nd (bg (ql T) hr.m T.en.m T.en.F.kp T.en.b .nil aQ (aa (ac 0) (aa (ac 1) (aa (ac 2) ae)))))
  (ah (aK (bn (qh T) hr.m T.ej.m T.ej.F.kp T.ej.b .nil aB (aa (ac 0) (aa (ac 6) (aa (bB T.bx T.nT.h (My T) hr.m T.nT.b .nil aB (bd T.aE T.cP (ac 0)) (aa (ac 1) (aa (ac 3) (aa (ac 4) (aa (ac 5) ae))))) ae))))))))))))) ?_
  refine stI [some (V.ref AA.a),some (V.str z),some (V.str (Tx.S t)),some (V.str tx),some (V.str mi),some (V.str re),none] ?_;right;refine (mI gh aG (eS pr.i pr.hz (ai ?_)));left;refine ⟨t,rfl,pr.p.l1,pr.p.l2,pr.p.all,fun H1 l p s1 _ hl hp=>ai ?_⟩;left;refine ⟨pr.vv,ai ?_⟩;left;refine ⟨pr.xB,ai ?_⟩;left;refine ⟨htx,ai ?_⟩;left;refine ⟨AA,L,M,root,t,f,nm,a0,t0,rfl,pr.p,pr.i.same s1,rfl,pr.hz,g,fun x dx H2 fx s2 hx=>?_⟩;left;have i2:=pr.i.same (s1.trans s2);obtain ⟨Oe,Nh,uz,Nb,uy⟩:=i2.h;obtain ⟨gs,c2,ht,dN,sg⟩:=i2.t;obtain ⟨_,_,hZ,_⟩:=(pr.i.same s1).t;refine (fI uz uy rfl (mI ht sg ⟨AA.dt,AA.ml,_,B7 i2,by rw [pp];have:=pr.hL;omega,Ak i2 g.a g.t hx g.v (pr.hl _ _ g.t) (wP (bo hZ fx)) (q.of (s1.trans s2))⟩))
def aa8 (N:Cn):Sp:=Fj fun h z pt tx H Q E=>X5 fun A L M t tl=>A6 (pt=Tx.S t) (tx=Tx.S tl) (wN N H A L M z t "lead" "" "" tx Q E) (A.a=h) (ig tl) (tl.length<=120)
def acK:aq P w K mg base (aR P w) 15 T.iq.f T.iq.d ["house","asker","path","lead"] (aa8 T.cn):=by
 refine T.iq.F.br v7 (fun _ _ _ _ h=>Kg h fun _ _ _ _ _=>rfl) fun _ A _ s H vs Q E hr h=>Kg h fun hh z pt tx h=>?_;obtain ⟨AA,L,M,t,tl,rfl,rfl,pr,rfl,ptl,hl120⟩:=h;obtain ⟨bG,gc,gh,bF,aG⟩:=pr.i.h;obtain ⟨root,f,nm,a0,t0,g,q⟩:=pr.r;refine aY (b:=aN vj) ((ad (aL (bf T.aE T.cJ.h (gi T) hr.m T.cJ.b .nil aQ (ac 0) (aa (ac 1) ae)))
 (ad (aL (bn (fL T) hr.m T.bq.m T.bq.F.kp T.bq.b .nil aB (aa (ac 2) ae)))
 (ad (aL (bn (Mb T) hr.m T.iF.m T.iF.F.kp T.iF.b .nil aB (aa (ac 3) ae)))
 (ad (aO 4 v7.nd (bg (ql T) hr.m T.en.m T.en.F.kp T.en.b .nil aQ (aa (ac 0) (aa (ac 1) (aa (ac 2) ae)))))
 (ah (aK (bn (qh T) hr.m T.ej.m T.ej.F.kp T.ej.b .nil aB (aa (ac 0) (aa (ac 4) (aa (bB T.bx T.nI.h (JS T) hr.m T.nI.b .nil aB (bd T.aE T.cP (ac 0)) (aa (ac 1) (aa (ac 3) ae))) ae))))))))))) ?_
 refine stI [some (V.ref AA.a),some (V.str z),some (V.str (Tx.S t)),some (V.str (Tx.S tl)),none] ?_;right;refine (mI gh aG (eS pr.i pr.hz (ai ?_)));left;refine ⟨t,rfl,pr.p.l1,pr.p.l2,pr.p.all,fun H1 l p s1 _ hl hp=>ai ?_⟩;left;refine ⟨tl,rfl,ptl,hl120,fun H1' s1'=>ai ?_⟩
 replace s1:=s1.trans s1'
 clear hl hp;generalize H1'=H1 at s1 ⊢;left;refine ⟨AA,L,M,root,t,f,nm,a0,t0,rfl,pr.p,pr.i.same s1,rfl,pr.hz,g,fun x dx H2 fx s2 hx=>?_⟩;left;have i2:=pr.i.same (s1.trans s2);obtain ⟨Oe,Nh,uz,Nb,uy⟩:=i2.h;obtain ⟨gs,c2,ht,dN,sg⟩:=i2.t;obtain ⟨_,_,hZ,_⟩:=(pr.i.same s1).t;refine (fI uz uy rfl (mI ht sg ⟨AA.dt,AA.ml,_,B7 i2,by rw [pp];have:=pr.hL;omega,Ak i2 g.a g.t hx g.v (pr.hl _ _ g.t) (wP (bo hZ fx)) (q.of (s1.trans s2))⟩))
section
variable {M:Hs} {L:List Ta} {z:Str} {r:Nat} {t0 t1:Th} {nm:Str} {last:Bool}
def adr (hL:L.length=M.ts.length) {k:Nat} {t:Th} (h:M.ts[k]?=some t):∃ a,L[k]?=some a :=
 ⟨_,mo (by rw [hL];exact (sK.mp h).1)⟩
def ei (hu:M.un=[]) (ho:M.ov=[]) (k:Nat):gx M k k [] :=
 ⟨⟨0,by unfold pG;rw [hu];exact ⟨rfl,rfl⟩⟩,0,by unfold oE;rw [ho];exact ⟨rfl,rfl⟩,Do _⟩
def Dh {k:Nat}:jy r [k]=decide (k=r):=by
 unfold jy;by_cases h:k=r
 ·simp [h]
 ·simp [h]
def HL (hL:L.length=M.ts.length) (hu:M.un=[]) (ho:M.ov=[]) (h0:M.ts[0]?=some t0):jt M L 0 0 0 []:=by
 obtain ⟨a,ha⟩:=adr hL h0;unfold jt;exact ⟨0,[],a,t0,ha,h0,ei hu ho 0,by rw [Dh,AT (xz rfl)]⟩
def Je (hL:L.length=M.ts.length) (hu:M.un=[]) (ho:M.ov=[]) (h0:M.ts[0]?=some t0):kF M L 0 0 0 true:=by
 obtain ⟨a,ha⟩:=adr hL h0;unfold kF;exact ⟨0,[],a,t0,ha,h0,ei hu ho 0,by rw [AT (show 0=eR 0 [] from rfl),Dh,AT (xz rfl)]⟩
def Gv (hL:L.length=M.ts.length) (hu:M.un=[]) (ho:M.ov=[]) (hz:bb (sD M.ro) (.inr z)=some (.int ((0:Nat):Int))) (h0:M.ts[0]?=some t0) (hk:t0.kd=("folder":Str)) (hg:eZ ("g":Str) (fK t0 z)=true):rK ⟨L,M,z,last,0⟩ [(".":Str)] 0 []:=by
 obtain ⟨a,ha⟩:=adr hL h0;exact ⟨hz,⟨0,[],a,t0,1,_,ha,h0,ei hu ho 0,⟨0,Je hL hu ho h0⟩,.step (l:=[]) rfl (.dot ⟨⟨a,ha⟩,h0,hk,hg⟩ rfl) (.done rfl),⟨a,t0,ha,h0,hk,⟨0,HL hL hu ho h0⟩,by decide,nofun⟩,rfl⟩,by decide⟩
def ZW (hL:L.length=M.ts.length) (hu:M.un=[]) (ho:M.ov=[]) (hz:bb (sD M.ro) (.inr z)=some (.int ((0:Nat):Int))) (h0:M.ts[0]?=some t0) (hk:t0.kd=("folder":Str)) (hg:eZ ("g":Str) (fK t0 z)=true) (h1:M.ts[1]?=some t1) (uQ:t1.kd=("folder":Str)) (hg1:eZ ("g":Str) (fK t1 z)=true) (hp:t1.df=[(0,nm)]) (hv:bb (sD t0.bU) (.inr nm)=some (.int ((1:Nat):Int))) (hn:fO (.str nm)=true) (hl:nm.length<=8) (d1:nm≠("..":Str)) (d2:nm≠(".":Str)):rK ⟨L,M,z,last,0⟩ [nm,(".":Str)] 1 [nm]:=by
 obtain ⟨a,ha⟩:=adr hL h0;obtain ⟨b,hb⟩:=adr hL h1;refine ⟨hz,⟨0,[],a,t0,2,_,ha,h0,ei hu ho 0,⟨0,Je hL hu ho h0⟩,.step (l:=[.inr (".":Str)]) rfl (.go ⟨⟨a,ha⟩,h0,hk,hg⟩ d1 d2 hn (by omega) hv hb h1 uQ (ei hu ho 1)) (.step (l:=[]) rfl (.dot ⟨⟨b,hb⟩,h1,uQ,hg1⟩ rfl) (.done rfl)),⟨b,t1,hb,h1,uQ,⟨1,?_⟩,by simp,fun s hs=>by rw [EQ.mp hs];exact hl⟩,rfl⟩,by simp⟩;unfold jt;exact ⟨1,[],b,t1,hb,h1,ei hu ho 1,by rw [Dh,zn nofun];exact ⟨b,t1,0,nm,hb,h1,hp,[],rfl,HL hL hu ho h0⟩⟩
end
def fj {P:Program} {w:World} {K:ν} {mg:Str->Option Value} {base:Heap} {CX:dj} {k:Nat} {f:Addr} {fd:FuncData} {ps:List Str} {sp sp':Sp} (F:aq P w K mg base CX k f fd ps sp) (F':aq P w K mg base CX k f fd ps sp'):aq P w K mg base CX k f fd ps (fun vs H Q E=>sp vs H Q E\/sp' vs H Q E) :=
 ⟨fun vs H Q E h=>h.elim (F.len vs H Q E) (F'.len vs H Q E),fun A outer s H args us vs Q E hr he hb hv h=>h.elim (F.run A outer s H args us vs Q E hr he hb hv) (F'.run A outer s H args us vs Q E hr he hb hv)⟩
def ff (H:Hp):V->Prop
 | .str z=>z.length=0\/(2000 < z.length/\z.length<=3000)\/(1<=z.length/\z.length<=1000/\(Tx.words 47 z.cps.toList).all ef=false)
 | x=>∃ T,clsName H x=some T
def JX {H H':Hp} {x:V} (s:ag H H') (h:ff H x):ff H' x:=by
 cases x with
 | str z=>exact h
 | _=>obtain ⟨T,h⟩:=h;exact ⟨T,iD s h⟩
def T2 (C:Addr):Sp:=my fun x H _ E=>ff H x/\∀ H',ag H H'->E (.ref C) none H'
def jQ:aq P w K mg base (aR P w) 3 T.bq.f T.bq.d ["path"] (T2 T.bN):=by
 refine T.bq.F.br vb (fun _ _ _ _ h=>gC h fun _ _=>rfl) fun _ A _ s H vs Q E hr h=>gC h fun x h=>?_;obtain ⟨Er,q⟩:=h;refine ⟨_,((ad (aW (gk (io (cX (cO (bJ iG T.dA du (aa (ac 0) (aa (gY (.ty "str") T.jh jX rfl) ae))))) (i0 (cX (xj kS kS bi (bJ (gN (K:=K) rfl) T.gv IR (aa (ac 0) ae)) (em (.int 2000) T.Ib ⟨_,rfl⟩)))))) (ah (jx jG rfl T.u0 T.BC (aa ap ae))) cr)
 (ad (HQ 1 rfl vb.nd (x:=("part":Str)) (lG (K:=K) rfl (ot PySem.F.slot_str_split PySem.F.type_str_split Lq (ac 0) (aa ap ae))) (fun _ _ _ _=>by exact (pP (bw fk (ac 0) ap))) (fun _ _ _ _=>by exact (hX 0 (show List.Nodup (["part"]:List Str) by decide))) (fun _ _ _ _=>by exact (ac 0)) (.of rfl (by exact trivial) (by walk_at "c") rfl (by exact trivial)))
 (ad (aW (cX (cO (bJ (As (K:=K) rfl rfl) T.zj Dn (aa (AG rfl (x:=("part":Str)) (lG (K:=K) rfl (ac 1)) (fun _ _ _ _=>by exact AF) (fun _ _ _ _=>by exact (hX 0 (show List.Nodup (["part"]:List Str) by decide))) (fun _ _ _ _=>by exact (bn (GS T) hr.m T.kU.m T.kU.F.kp T.kU.b .nil aB (aa (ac 0) ae))) (.of rfl (by exact trivial) (by walk_at "c") rfl (by exact trivial))) ae)))) (ah (jx jG rfl T.u0 T.BC (aa ap ae))) cr)
 (ad (aW (gk (Dv.w_and (bw (JY hr.mT) (ac 1) (db ae)) (vM (cO (ot PySem.F.slot_str_endswith PySem.F.type_str_endswith J0 (ac 0) (aa ap ae)))))) (ah (aL (dU wf wn dW (ac 1) (aa ap ae)))) cr)
 (ah (aK (jp (aa (ot PySem.F.slot_str_startswith PySem.F.type_str_startswith KQ (ac 0) (aa ap ae)) (aa (ac 1) ae)))))))))).h,?_⟩
 refine stI [some x,none] ?_;have yu:Str.ofString "/" = Tx.S [47]:=by symm
 have e0:Str.ofString "" = Tx.S []:=by symm
 have uG:∃ T',clsName H x=some T':=by
  cases x with
  | str z=>exact ⟨_,rfl⟩
  | _=>exact Er
 obtain ⟨ty,h1⟩:=uG;by_cases eD:mP x=false
 ·refine aX (fun _ _=>False) ?_ (fun _ _ z=>z.elim);left;simp only [h1,nk h1,eD,Bool.not_false,Ja8];exact ⟨jS _ rfl,fits (by simp),q H (ag.refl H)⟩
 ·obtain ⟨z,rfl⟩:∃ z,x=.str z:=by
   cases x with
   | str z=>exact ⟨z,rfl⟩
   | _=>exact absurd rfl eD
  obtain ⟨t,rfl⟩:∃ t,z=Tx.S t:=⟨_,(Tx.K4 z).symm⟩;simp only [ff,Tx.dD,Tx.jV] at Er;by_cases hlen:t.length=0\/2000 < t.length
  ·refine aX (fun _ _=>False) ?_ (fun _ _ z=>z.elim);left;simp only [Tx.dD];refine ⟨jS _ rfl,bZ ⟨wE (show t.length<=3000 by omega) (by decide),?_⟩⟩;by_cases h0:t.length=0
   ·rw [tz (show ¬ (1:Int)<=(t.length:Int) by omega)];exact bZ (cz ⟨fits (by simp),q H (ag.refl H)⟩)
   ·rw [xz (show (1:Int)<=(t.length:Int) by omega),tz (show ¬ (t.length:Int)<=2000 by omega)];exact cz (cz ⟨fits (by simp),q H (ag.refl H)⟩)
  ·obtain ⟨t1,t2,iP⟩:1<=t.length/\t.length<=1000/\(Tx.words 47 t).all ef=false:=by
    rcases Er with h | h | h
    ·exact absurd (.inl h) hlen
    ·exact absurd (.inr h.1) hlen
    ·exact h
   right;simp only [Tx.dD,yu,e0];refine ⟨jS _ rfl,bZ ⟨wE t2 (by decide),?_⟩⟩;rw [xz (show (1:Int)<=(t.length:Int) by omega),xz (show (t.length:Int)<=2000 by omega)];refine cz (bZ (ai ?_));left;have ky:=Tx.zH 47 t;refine ⟨rfl,by rw [Tx.dD];exact wE t2 (by decide),?_,?_⟩
   ·rw [Tx.yN,Tx.mG,Tx.Du,Tx.tO,pp];exact wE (show _<=2001 by omega) (by decide)
   intro l hl;rw [Tx.F6 t 47 (by decide)];refine eV hl fun H1 s1 b1=>?_;refine ⟨⟨_,aH.of b1⟩,wo nz id (aH.of b1) (by rw [pp,pp];exact wE (show _<=2001 by omega) (by decide)) ?_ ?_ ?_⟩
   ·intro x hx H2 _ R hR;obtain ⟨z,_,rfl⟩:=Ix.mp hx;left;exact hR H2 (ag.refl H2)
   ·intro x hx _ H2 _ R hR;left;exact hR H2 (ag.refl H2)
   intro H2 s2 l2 eN;rw [Jl];refine eV eN fun H3 s3 b3=>?_;have Es:ag H H3:=(s1.trans s2).trans s3;have mV:(Tx.words 47 t).length<=2001:=wE (SC _ _) (by omega);refine aX (fun _ _=>False) ?_ (fun _ _ z=>z.elim);left;refine ⟨⟨_,aH.of b3⟩,wo (fun _=>true) tZ (aH.of b3) (by rw [pp,pp];exact wE mV (by decide)) ?_ ?_ ?_⟩
   ·intro x _ H4 _ R hR;exact hR H4 (ag.refl H4)
   ·intro x hx _ H4 _ R hR;obtain ⟨z,hz,rfl⟩:=Ix.mp hx;obtain ⟨w',hw,rfl⟩:=Ix.mp hz;left;refine ⟨w',rfl,wE (Tx.Z7 47 t w' hw) t2,fun H5 s5=>?_⟩;have:=hR H5 s5;simp only [tZ,Tx.jV] at this;exact this
   intro H4 s4 l4 oK;rw [FV];refine ⟨_,aH.of ay,_,rfl,?_⟩;have ea:((Tx.words 47 t).map ef).all id=false:=by rw [List.all_map];exact iP
   rw [ea];exact cz ⟨fits (by simp),q _ ((Es.trans s4).trans (ag.upd oK))⟩
def qi:V->Bool
 | .str z=>er.contains z
 | _=>false
def acw (C:Addr):Sp:=my fun v H _ E=>A3 (∃ T,clsName H v=some T) (qi v=false) (E (.ref C) none H)
def WX:T.iE.k P w base 1 (fun vs H Q _=>∃ v,vs=[v]/\(∃ T,clsName H v=some T)/\qi v=false/\Q (.bl false) H):=by
 refine T.iE.F.ok GR (fun vs H Q E h=>?_) (fun _ A _ s H vs Q E hr h=>?_)
 ·obtain ⟨v,rfl,_⟩:=h;rfl
 ·obtain ⟨v,rfl,⟨ty,cm⟩,hv,q⟩:=h;refine ⟨_,((ah (aK (pH (bJ iG T.dA du (aa (ac 0) (aa (gY (.ty "str") T.jh jX rfl) ae))) (kt (ii (qB (K:=K) rfl) (ac 0) (em (.ref T.yw) T.KN rfl))))))).h,?_⟩;refine stI [some v] ?_;left;simp only [cm,nk cm];refine ⟨jS _ rfl,?_⟩;cases v with
  | str z =>
   simp only [mP,Ja8];refine ⟨_,.inr (T.uW H),rfl,rfl,?_⟩;have e:dX (V.str z) [V.str "",V.str "l",V.str "g",V.str "w",V.str "lg",V.str "lw",V.str "gw",V.str "lgw"]=false:=by
    rw [show [V.str "",V.str "l",V.str "g",V.str "w",V.str "lg",V.str "lw",V.str "gw",V.str "lgw"]=er.map V.str from rfl];cases h:dX (V.str z) (er.map V.str) with
    | false=>rfl
    | true =>
     unfold dX at h;rw [List.any_map,List.any_eq_true] at h;obtain ⟨y,hy,he⟩:=h;have he':(y == z)=true:=he;have e2:y=z:=by simpa using he'
     subst e2;have:er.contains y=true:=List.elem_iff.mpr hy;rw [show qi (V.str y)=er.contains y from rfl,this] at hv;cases hv
   rw [e];exact q
  | _=>exact q
def AD:aq P w K mg base (aR P w) 2 T.cA.f T.cA.d ["text"] (acw T.bV):=by
 refine T.cA.F.br Jw (fun _ _ _ _ h=>gC h fun _ _=>rfl) fun _ A _ s H vs Q E hr h=>gC h fun v h=>?_;obtain ⟨hc,hv,q⟩:=h;refine ⟨_,((ah (aW (cX (cO (bn (WX T) hr.m T.iE.m T.iE.F.kp T.iE.b .nil aB (aa (ac 0) ae)))) (ah (jx jG rfl T.zL T.FC (aa ap ae))) cr))).h,?_⟩;refine stI [some v] ?_;left;exact ⟨v,rfl,hc,hv,cz ⟨fits (by simp),q⟩⟩
def kT:V->Bool
 | .str z=>decide (60 < z.length) && decide (z.length<=1000)
 | _=>true
def Tz (C:Addr):Sp:=my fun v H _ E=>A3 (∃ T,clsName H v=some T) (kT v=true) (E (.ref C) none H)
def SA:T.il.k P w base 1 (fun vs H Q _=>∃ v,vs=[v]/\(∃ T,clsName H v=some T)/\kT v=true/\Q (.bl false) H):=by
 refine T.il.F.ok Kb (fun vs H Q E h=>?_) (fun _ A _ s H vs Q E hr h=>?_)
 ·obtain ⟨v,rfl,_⟩:=h;rfl
 ·obtain ⟨v,rfl,⟨ty,cm⟩,hv,q⟩:=h;refine ⟨_,((ah (aK (pH (bJ iG T.dA du (aa (ac 0) (aa (gY (.ty "str") T.jh jX rfl) ae))) (kt (ii kS (bJ (gN (K:=K) rfl) T.gv IR (aa (ac 0) ae)) (em (.int 60) T.LQ ⟨_,rfl⟩))))))).h,?_⟩;refine stI [some v] ?_;left;simp only [cm,nk cm];refine ⟨jS _ rfl,?_⟩;cases v with
  | str z =>
   simp only [mP,Ja8];have hv':(decide (60 < z.length) && decide (z.length<=1000))=true:=hv;simp only [Ch,LT] at hv';refine ⟨fits hv'.2,?_⟩;rw [tz (show ¬ (z.length:Int)<=60 by omega)];exact q
  | _=>exact q
def Lh:aq P w K mg base (aR P w) 2 T.gj.f T.gj.d ["text"] (Tz T.cw):=by
 refine T.gj.F.br Gj (fun _ _ _ _ h=>gC h fun _ _=>rfl) fun _ A _ s H vs Q E hr h=>gC h fun v h=>?_;obtain ⟨hc,hv,q⟩:=h;refine ⟨_,((ah (aW (cX (cO (bn (SA T) hr.m T.il.m T.il.F.kp T.il.b .nil aB (aa (ac 0) ae)))) (ah (jx jG rfl T.HM T.XN (aa ap ae))) cr))).h,?_⟩;refine stI [some v] ?_;left;exact ⟨v,rfl,hc,hv,cz ⟨fits (by simp),q⟩⟩
def zS (H:Hp) (v:V):Prop:=ff H v\/∃ t,v=.str (Tx.S t)/\ig t/\120 < t.length/\t.length<=1000
def Vt:aq P w K mg base (aR P w) 4 T.iF.f T.iF.d ["path"] (fun vs H Q E=>∃ v,vs=[v]/\zS H v/\∀ H',ag H H'->E (.ref T.bN) none H'):=by
 have eE:=fj (fL (P:=P) (w:=w) (base:=base) T).cx (jQ (P:=P) (w:=w) (base:=base) T);refine T.iF.F.br IB (fun vs H Q E h=>?_) (fun _ A _ s H vs Q E hr h=>?_)
 ·obtain ⟨v,rfl,_⟩:=h;rfl
 ·obtain ⟨v,rfl,hb,q⟩:=h;refine aY (b:=aN vh) ((ad (aL (bg eE hr.m T.bq.m T.bq.F.kp T.bq.b .nil aQ (aa (ac 0) ae)))
   (ah (aW (bw B4 (bJ (gN (K:=K) rfl) T.gv IR (aa (ac 0) ae)) (em (.int 120) T.Hn ⟨_,rfl⟩)) (ah (jx jG rfl T.u0 T.BC (aa ap ae))) cr)))) ?_
  refine stI [some v] ?_;rcases hb with hb | ⟨t,rfl,pt,hl,eN⟩
  ·refine aX (fun _ _=>False) ?_ (fun _ _ z=>z.elim);left;exact .inr ⟨hb,q⟩
  ·right;refine .inl ⟨t,rfl,pt.l1,pt.l2,pt.all,fun H1 l p s1 _ _ _=>?_⟩;left;refine ⟨by rw [Tx.dD];exact fits (by omega),?_⟩;rw [Tx.dD,xz (show (t.length:Int) > 120 by omega)];exact cz ⟨fits (by simp),q _ s1⟩
section
variable (T:Tx K mg) (H:Hp) (M:Hs)
inductive ed (va vp:V):Addr->Prop
 | ee:(∃ ty,clsName H va=some ty)->(∀ z,va=.str z->bb (sD M.ro) (.inr z)=none)->ed va vp T.bW
 | path {z}:va=.str z->(bb (sD M.ro) (.inr z)).isSome=true->ff H vp->ed va vp T.bN
structure fV (va vp:V) (z:Str) (t:List Nat):Prop where
 a:va=.str z
 z:(bb (sD M.ro) (.inr z)).isSome=true
 p:vp=.str (Tx.S t)
 t:ig t
inductive iy (vm vr:V):Prop
 | BP:(∃ ty,clsName H vm=some ty)->qi vm=false->iy vm vr
 | rest {y}:vm=.str y->y∈er->(∃ ty,clsName H vr=some ty)->qi vr=false->iy vm vr
end
def Wr:aq P w K mg base (aR P w) 15 T.yz T.qW ["house","asker","path","mine","rest"] (fun vs H Q E=>∃ A L M va vp vm vr C,vs=[.ref A.a,va,vp,vm,vr]/\aI T.aD T.aJ T.aM H A L M/\(ed T H M va vp C\/∃ z t,fV M va vp z t/\iy H vm vr/\C=T.bV)/\∀ H',ag H H'->E (.ref C) none H'):=by
 have eE:=fj (fL (P:=P) (w:=w) (base:=base) T).cx (jQ (P:=P) (w:=w) (base:=base) T);have m3:=fj (nH (P:=P) (w:=w) (base:=base) T).cx (AD (P:=P) (w:=w) (base:=base) T);refine T.pV.br wj (fun vs H Q E h=>?_) (fun _ A _ s H vs Q E hr h=>?_)
 ·obtain ⟨_,_,_,_,_,_,_,_,rfl,_⟩:=h;rfl
 ·obtain ⟨AA,L,M,va,vp,vm,vr,C,rfl,i,hb,q⟩:=h;obtain ⟨bG,gc,gh,bF,aG⟩:=i.h;refine aY (b:=aN nZ) ((ad (aL (bf T.aE T.cJ.h (gi T) hr.m T.cJ.b .nil aQ (ac 0) (aa (ac 1) ae)))
   (ad (aL (bg eE hr.m T.bq.m T.bq.F.kp T.bq.b .nil aQ (aa (ac 2) ae)))
   (ad (aL (bg m3 hr.m T.cA.m T.cA.F.kp T.cA.b .nil aQ (aa (ac 3) ae)))
   (ad (aL (bg m3 hr.m T.cA.m T.cA.F.kp T.cA.b .nil aQ (aa (ac 4) ae)))
   (ad (aO 5 wj.nd (bg (ql T) hr.m T.en.m T.en.F.kp T.en.b .nil aQ (aa (ac 0) (aa (ac 1) (aa (ac 2) ae)))))
   (ah (aK (bn (qh T) hr.m T.ej.m T.ej.F.kp T.ej.b .nil aB (aa (ac 0) (aa (ac 5) (aa (bB T.bx T.kY.h (Cr T) hr.m T.kY.b .nil aB (bd T.aE T.cP (ac 0)) (aa (ac 1) (aa (ac 3) (aa (ac 4) ae)))) ae)))))))))))) ?_
  refine stI [some (V.ref AA.a),some va,some vp,some vm,some vr,none] ?_;rcases hb with (⟨hc,hn⟩ | ⟨rfl,hz,hb⟩) | ⟨z,t,⟨rfl,hz,rfl,pt⟩,hb,rfl⟩
  ·refine aX (fun _ _=>False) ?_ (fun _ _ z=>z.elim);left;exact (mI gh aG ⟨AA,L,M,i,rfl,hc,fun z e hz=>(by rw [hn z e] at hz;cases hz),fun _=>q H (ag.refl H)⟩)
  ·right;refine (mI gh aG (eS i hz ?_));refine aX (fun _ _=>False) ?_ (fun _ _ z=>z.elim);left;exact .inr ⟨hb,q⟩
  ·right;refine (mI gh aG (eS i hz (ai ?_)));left;refine .inl ⟨t,rfl,pt.l1,pt.l2,pt.all,fun H1 l p s1 _ _ _=>?_⟩;rcases hb with ⟨⟨ty,hc⟩,hm⟩ | ⟨rfl,hm,⟨ty,hc⟩,hr'⟩
   ·refine aX (fun _ _=>False) ?_ (fun _ _ z=>z.elim);left;exact .inr ⟨⟨ty,iD s1 hc⟩,hm,q _ s1⟩
   ·right;refine .inl ⟨hm,?_⟩;refine aX (fun _ _=>False) ?_ (fun _ _ z=>z.elim);left;exact .inr ⟨⟨ty,iD s1 hc⟩,hr',q _ s1⟩
def acI:aq P w K mg base (aR P w) 15 T.yi T.qN ["house","asker","path","text","mine","rest"] (fun vs H Q E=>∃ A L M va vp vx vm vr C,vs=[.ref A.a,va,vp,vx,vm,vr]/\aI T.aD T.aJ T.aM H A L M/\(ed T H M va vp C\/∃ z t,fV M va vp z t/\(iy H vm vr/\C=T.bV\/∃ y y',vm=.str y/\y∈er/\vr=.str y'/\y'∈er/\(∃ ty,clsName H vx=some ty)/\kT vx=true/\C=T.cw))/\∀ H',ag H H'->E (.ref C) none H'):=by
 have eE:=fj (fL (P:=P) (w:=w) (base:=base) T).cx (jQ (P:=P) (w:=w) (base:=base) T);have m3:=fj (nH (P:=P) (w:=w) (base:=base) T).cx (AD (P:=P) (w:=w) (base:=base) T);have EU:=fj (CU (P:=P) (w:=w) (base:=base) T).cx (Lh (P:=P) (w:=w) (base:=base) T);refine T.pf.br vF (fun vs H Q E h=>?_) (fun _ A _ s H vs Q E hr h=>?_)
 ·obtain ⟨_,_,_,_,_,_,_,_,_,rfl,_⟩:=h;rfl
 ·obtain ⟨AA,L,M,va,vp,vx,vm,vr,C,rfl,i,hb,q⟩:=h;obtain ⟨bG,gc,gh,bF,aG⟩:=i.h;refine aY (b:=aN ng) ((ad (aL (bf T.aE T.cJ.h (gi T) hr.m T.cJ.b .nil aQ (ac 0) (aa (ac 1) ae)))
   (ad (aL (bg eE hr.m T.bq.m T.bq.F.kp T.bq.b .nil aQ (aa (ac 2) ae)))
   (ad (aL (bg m3 hr.m T.cA.m T.cA.F.kp T.cA.b .nil aQ (aa (ac 4) ae)))
   (ad (aL (bg m3 hr.m T.cA.m T.cA.F.kp T.cA.b .nil aQ (aa (ac 5) ae)))
   (ad (aL (bg EU hr.m T.gj.m T.gj.F.kp T.gj.b .nil aQ (aa (ac 3) ae)))
   (ad (aO 6 vF.nd (bg (ql T) hr.m T.en.m T.en.F.kp T.en.b .nil aQ (aa (ac 0) (aa (ac 1) (aa (ac 2) ae)))))
   (ah (aK (bn (qh T) hr.m T.ej.m T.ej.F.kp T.ej.b .nil aB (aa (ac 0) (aa (ac 6) (aa (bB T.bx T.nT.h (My T) hr.m T.nT.b .nil aB (bd T.aE T.cP (ac 0)) (aa (ac 1) (aa (ac 3) (aa (ac 4) (aa (ac 5) ae))))) ae))))))))))))) ?_
  refine stI [some (V.ref AA.a),some va,some vp,some vx,some vm,some vr,none] ?_;rcases hb with (⟨hc,hn⟩ | ⟨rfl,hz,hb⟩) | ⟨z,t,⟨rfl,hz,rfl,pt⟩,hb⟩
  ·refine aX (fun _ _=>False) ?_ (fun _ _ z=>z.elim);left;exact (mI gh aG ⟨AA,L,M,i,rfl,hc,fun z e hz=>(by rw [hn z e] at hz;cases hz),fun _=>q H (ag.refl H)⟩)
  ·right;refine (mI gh aG (eS i hz ?_));refine aX (fun _ _=>False) ?_ (fun _ _ z=>z.elim);left;exact .inr ⟨hb,q⟩
  ·right;refine (mI gh aG (eS i hz (ai ?_)));left;refine .inl ⟨t,rfl,pt.l1,pt.l2,pt.all,fun H1 l p s1 _ _ _=>?_⟩;rcases hb with ⟨⟨⟨ty,hc⟩,hm⟩ | ⟨rfl,hm,⟨ty,hc⟩,hr'⟩,rfl⟩ | ⟨y,y',rfl,hm,rfl,hr',⟨ty,hc⟩,hx,rfl⟩
   ·refine aX (fun _ _=>False) ?_ (fun _ _ z=>z.elim);left;exact .inr ⟨⟨ty,iD s1 hc⟩,hm,q _ s1⟩
   ·right;refine .inl ⟨hm,?_⟩;refine aX (fun _ _=>False) ?_ (fun _ _ z=>z.elim);left;exact .inr ⟨⟨ty,iD s1 hc⟩,hr',q _ s1⟩
   ·right;refine .inl ⟨hm,ai ?_⟩;left;refine .inl ⟨hr',?_⟩;refine aX (fun _ _=>False) ?_ (fun _ _ z=>z.elim);left;exact .inr ⟨⟨ty,iD s1 hc⟩,hx,q _ s1⟩
def RK:aq P w K mg base (aR P w) 15 T.iq.f T.iq.d ["house","asker","path","lead"] (fun vs H Q E=>∃ A L M va vp vl C,vs=[.ref A.a,va,vp,vl]/\aI T.aD T.aJ T.aM H A L M/\(ed T H M va vp C\/∃ z t,fV M va vp z t/\zS H vl/\C=T.bN)/\∀ H',ag H H'->E (.ref C) none H'):=by
 have eE:=fj (fL (P:=P) (w:=w) (base:=base) T).cx (jQ (P:=P) (w:=w) (base:=base) T);have G_check_lead:=fj (Mb (P:=P) (w:=w) (base:=base) T).cx (Vt (P:=P) (w:=w) (base:=base) T);refine T.iq.F.br v7 (fun vs H Q E h=>?_) (fun _ A _ s H vs Q E hr h=>?_)
 ·obtain ⟨_,_,_,_,_,_,_,rfl,_⟩:=h;rfl
 ·obtain ⟨AA,L,M,va,vp,vl,C,rfl,i,hb,q⟩:=h;obtain ⟨bG,gc,gh,bF,aG⟩:=i.h;refine aY (b:=aN vj) ((ad (aL (bf T.aE T.cJ.h (gi T) hr.m T.cJ.b .nil aQ (ac 0) (aa (ac 1) ae)))
   (ad (aL (bg eE hr.m T.bq.m T.bq.F.kp T.bq.b .nil aQ (aa (ac 2) ae)))
   (ad (aL (bg G_check_lead hr.m T.iF.m T.iF.F.kp T.iF.b .nil aQ (aa (ac 3) ae)))
   (ad (aO 4 v7.nd (bg (ql T) hr.m T.en.m T.en.F.kp T.en.b .nil aQ (aa (ac 0) (aa (ac 1) (aa (ac 2) ae)))))
   (ah (aK (bn (qh T) hr.m T.ej.m T.ej.F.kp T.ej.b .nil aB (aa (ac 0) (aa (ac 4) (aa (bB T.bx T.nI.h (JS T) hr.m T.nI.b .nil aB (bd T.aE T.cP (ac 0)) (aa (ac 1) (aa (ac 3) ae))) ae))))))))))) ?_
  refine stI [some (V.ref AA.a),some va,some vp,some vl,none] ?_;rcases hb with (⟨hc,hn⟩ | ⟨rfl,hz,hb⟩) | ⟨z,t,⟨rfl,hz,rfl,pt⟩,hb,rfl⟩
  ·refine aX (fun _ _=>False) ?_ (fun _ _ z=>z.elim);left;exact (mI gh aG ⟨AA,L,M,i,rfl,hc,fun z e hz=>(by rw [hn z e] at hz;cases hz),fun _=>q H (ag.refl H)⟩)
  ·right;refine (mI gh aG (eS i hz ?_));refine aX (fun _ _=>False) ?_ (fun _ _ z=>z.elim);left;exact .inr ⟨hb,q⟩
  ·right;refine (mI gh aG (eS i hz (ai ?_)));left;refine .inl ⟨t,rfl,pt.l1,pt.l2,pt.all,fun H1 l p s1 _ _ _=>?_⟩;refine aX (fun _ _=>False) ?_ (fun _ _ z=>z.elim);left;refine .inr ⟨vl,rfl,?_,fun H' s'=>q _ (s1.trans s')⟩;rcases hb with hb | hb
   ·exact .inl (JX s1 hb)
   ·exact .inr hb
def UR:Sp:=IW fun _ _ H Q _=>∀ r:Int,0<=r->Q (.int r) H
def abt:T.qp.k P w base 1 UR:=by
 refine T.qp.F.ok z0 (fun _ _ _ _ h=>KH h fun _ _ _=>rfl) fun _ A _ s H vs Q E hr h=>KH h fun y z h=>?_;refine ⟨_,((ad (aO 2 z0.nd (dL ij (dL mq (dL gT (dL gT (ac 0) (dL mq bi (ac 1))) bi) bi) bi))
 (ad (aO 2 z0.nd (dL ij (dL mq (ac 2) (dL gT (dL nG (ac 2) bi) bi)) bi))
 (ah (aK (dL ij (dL mq (ac 2) (dL gT (dL nG (ac 2) bi) bi)) bi)))))).h,?_⟩
 refine stI [some (.int y),some (.int z),none] ?_;right;refine ⟨.inl ⟨by decide,by decide⟩,.inr ⟨by decide,by decide⟩,by decide,ai ?_⟩;left;generalize hm:(y+7919 * z+1) * 48271 % 2147483647=m;have m0:0<=m:=by rw [<- hm];exact Pi _ (by decide)
 have m1:m < 2147483647:=by rw [<- hm];exact No _ (by decide)
 refine ⟨⟨by decide,by decide⟩,.inl ⟨by omega,by omega⟩,by decide,?_⟩;left;generalize hn:m * (m / 1009+69621) % 2147483647=n;have n0:0<=n:=by rw [<- hn];exact Pi _ (by decide)
 have n1:n < 2147483647:=by rw [<- hn];exact No _ (by decide)
 refine ⟨⟨by decide,by decide⟩,.inl ⟨by omega,by omega⟩,by decide,?_⟩;exact h _ (Pi _ (by decide))
def Rb:Sp:=LG fun _ H Q _=>∀ l a b c,H l=none->Q (.ref l) (upd H l (.lst [.int a,.int b,.int c]))
def adp:T.pT.k P w base 1 Rb:=by
 refine T.pT.F.ok O7 (fun _ _ _ _ h=>K5 h fun _ _=>rfl) fun _ A _ s H vs Q E hr h=>K5 h fun y h=>?_;refine ⟨_,((ad (aW (bw yQ (ac 0) (dL GI bi bi)) (ah (aK (db (aa bi (aa (dL ij (ac 0) bi) (aa bi ae)))))) cr)
 (ah (aK (db (aa (ac 0) (aa (dL ij (ac 0) bi) (aa bi ae)))))))).h,?_⟩
 refine stI [some (.int y)] ?_;right;refine ⟨by constructor <;> decide,sJ (fun _=>⟨by decide,fits (by simp),fun p hp=>h _ _ _ _ hp⟩) (fun _=>⟨by decide,fits (by simp),fun p hp=>h _ _ _ _ hp⟩)⟩
def BK:Sp:=og fun st b H Q _=>X3 fun x y z=>A4 (H st=some (.lst [.int x,.int y,.int z])) (0 < b) (b<=1000) (∀ d x' y' z' H',0<=d->d < b->H' st=some (.lst [.int x',.int y',.int z'])->cg st H H'->Q (.int d) H')
def mQ:T.cZ.k P w base 2 BK:=by
 refine T.cZ.F.ok HE (fun _ _ _ _ h=>cL h fun _ _ _=>rfl) fun _ A _ s H vs Q E hr h=>cL h fun st b h=>?_;obtain ⟨x,y,z,h1,o6,DN,q⟩:=h;refine ⟨_,((ad (aW (bw B4 (dl (bI (K:=K) rfl) (ac 0) bi) bi) (ad (aO 2 HE.nd (dL ij (dl (bI (K:=K) rfl) (ac 0) bi) (ac 1)))
 (ad (Cu (dL nG (dl (bI (K:=K) rfl) (ac 0) bi) (ac 1)) (y2 (ac 0) bi Aa))
 (ah (aK (ac 2))))) cr)
 (ad (Cu (dL gT (dl (bI (K:=K) rfl) (ac 0) bi) bi) (y2 (ac 0) bi Aa))
 (ah (aK (dL ij (bn (abt T) hr.m T.qp.m T.qp.F.kp T.qp.b .nil aB (aa (dl (bI (K:=K) rfl) (ac 0) bi) (aa (dl (bI (K:=K) rfl) (ac 0) bi) ae))) (ac 1))))))).h,?_⟩
 refine stI [some (.ref st),some (.int b),none] ?_;right;simp only [bR,h1,ly];refine sJ (fun _=>?_) (fun _=>?_)
 ·right;simp only [bR,h1,ly];refine ⟨o6,ai ?_⟩;left;simp only [bR,h1,ly,FS,YJ,List.set_cons_zero];refine ⟨⟨o6,by omega⟩,?_⟩;exact q _ _ _ _ _ (Pi _ (by omega)) (No _ o6) ay cg.upd
 ·right;simp only [bR,h1,GU,FS,_8,Rc,List.set_cons_zero,List.set_cons_succ];left;simp only [bR,ay,Ga,GU];intro r r0;refine ⟨o6,?_⟩;exact q _ _ _ _ _ (Pi _ (by omega)) (No _ o6) ay cg.upd
def Dr (st:Addr) (H:Hp):Prop:=∃ x y z:Int,H st=some (.lst [.int x,.int y,.int z])
def Dr.same {st:Addr} {H H':Hp} (h:Dr st H) (s:ag H H'):Dr st H':=let ⟨x,y,z,e⟩:=h;⟨x,y,z,s _ _ e⟩
def Dr.ne {st p:Addr} {H:Hp} (h:Dr st H) (hp:H p=none):p≠st:=let ⟨x,y,z,e⟩:=h;fun q=>by rw [q,e] at hp;cases hp
def tI {st:Addr} {b:Int} {H:Hp} {Q:VK} {E:XK} (h:Dr st H) (o6:0 < b) (DN:b<=1000) (q:∀ d H',0<=d->d < b->Dr st H'->cg st H H'->Q (.int d) H'):BK [.ref st,.int b] H Q E:=by
 obtain ⟨x,y,z,e⟩:=h;exact ⟨x,y,z,e,o6,DN,fun d x' y' z' H' d0 d1 e' k=>q d H' d0 d1 ⟨x',y',z',e'⟩ k⟩
def pick {xs:List V} {d:Int} (h0:0<=d) (h1:d < xs.length):∃ v∈xs,eC xs d=some v:=by
 obtain ⟨n,rfl⟩:=_l h0;have hn:n < xs.length:=by omega
 exact ⟨xs[n],_H hn,lK (mo hn)⟩
def vQ {H:Hp} {st:Addr} {xs:List V} {Q:VK} {E:XK} {b:Int} (h:Dr st H) (hb:b=xs.length) (hn:xs.length<=1000) (h0:0 < xs.length) (q:∀ v H',v∈xs->Dr st H'->cg st H H'->Q v H') :
  xs.length<=sizeLine/\∀ p,H p=none->BK [.ref st,.int b] (upd H p (.lst xs)) (fun y H2=>pO K (.ref p) y H2 Q) E:=by
 refine ⟨fits hn,fun p hp=>?_⟩;refine eV hp fun H1 s1 b1=>?_;have np:=h.ne hp;refine tI (h.same s1) (by omega) (by omega) fun d H2 d0 d1 h2 k2=>?_;obtain ⟨v,hv,e⟩:=pick (xs:=xs) d0 (by omega);simp only [pO,bR,k2 _ _ np b1,e];exact q v H2 hv h2 ((s1.keep st).trans k2)
def Zz:T.js.k P w mg base 3 (iw T.aD T.aJ T.aM Ad.t LW):=by
 refine T.js.F.ok Hv (fun _ _ _ _ h=>cL h fun _ _ _=>rfl) fun _ A _ s H vs Q E hr h=>cL h fun x n h=>?_;obtain ⟨AA,L,M,k,a,t,i,rfl,rfl,ha,aS,q⟩:=h;obtain ⟨fs,c,hx,bh,sf⟩:=i.h;obtain ⟨gs,c2,ht,dN,sg⟩:=i.t;have cK:=eJ i ha aS;obtain ⟨ks,ho,ia,so⟩:=cK.o;refine ⟨_,((ah (aK (bJ (FL (K:=K) rfl rfl) T.wJ uY (aa (bd T.cC T.pj (bf T.bx T.bS.h (eB T) hr.m T.bS.b .nil dJ (ac 0) (aa (ac 1) ae))) ae))))).h,?_⟩;refine stI [some (V.ref AA.t),some (V.int (k:Int))] ?_;left;refine (mI ht sg (iV i ha aS ⟨a.th,_,_,.ref a.nm,rfl,ho,(so _).trans rfl,.inr (.inl ⟨a.nm,_,t.bU.map (·.1),rfl,cK.nm,by unfold sD;rw [_v,_v];rfl,by rw [pp];exact q.1,q.2⟩)⟩))
def WJ:T.jI.k P w mg base 3 (iw T.aD T.aJ T.aM Ad.a Yg):=by
 refine T.jI.F.ok xy (fun _ _ _ _ h=>cL h fun _ _ _=>rfl) fun _ A _ s H vs Q E hr h=>cL h fun x n h=>?_;obtain ⟨AA,L,M,k,a,t,i,rfl,rfl,ha,aS,q⟩:=h;obtain ⟨fs,c,hx,bh,sf⟩:=i.h;obtain ⟨gs,c2,ht,dN,sg⟩:=i.t;have cK:=eJ i ha aS;obtain ⟨ks,ho,ia,so⟩:=cK.o;refine ⟨_,((ad (aO 2 xy.nd (bf T.bx T.bS.h (eB T) hr.m T.bS.b .nil dJ (bd T.aE T.cP (ac 0)) (aa (ac 1) ae)))
 (ah (aK (jp (aa (bd T.cC T.wu (ac 2)) (aa (bd T.cC T.vy (ac 2)) ae))))))).h,?_⟩
 refine stI [some (V.ref AA.a),some (V.int (k:Int)),none] ?_;right;refine ⟨AA.a,_,_,.ref AA.t,rfl,hx,(sf _).trans rfl,AA.t,_,_,rfl,ht,(sg _).trans rfl,iV i ha aS ?_⟩;left;exact (fI ho so rfl (fI ho so rfl ⟨fits (by simp),q⟩))
def UT:T.jU.k P w mg base 4 (iw T.aD T.aJ T.aM Ad.a LW):=by
 refine T.jU.F.ok Ht (fun _ _ _ _ h=>cL h fun _ _ _=>rfl) fun _ A _ s H vs Q E hr h=>cL h fun x n h=>?_;obtain ⟨AA,L,M,k,a,t,i,rfl,rfl,ha,aS,q⟩:=h;obtain ⟨fs,c,hx,bh,sf⟩:=i.h;obtain ⟨gs,c2,ht,dN,sg⟩:=i.t;have cK:=eJ i ha aS;obtain ⟨ks,ho,ia,so⟩:=cK.o;refine ⟨_,((ah (aK (bB T.bx T.js.h (Zz T) hr.m T.js.b .nil aB (bd T.aE T.cP (ac 0)) (aa (ac 1) ae))))).h,?_⟩;refine stI [some (V.ref AA.a),some (V.int (k:Int))] ?_;left;exact ⟨AA.a,_,_,.ref AA.t,rfl,hx,(sf _).trans rfl,AA.t,_,_,rfl,ht,(sg _).trans rfl,AA,L,M,k,a,t,i,rfl,rfl,ha,aS,q⟩
abbrev C4:lH:=fun _ _ _ _ _ t H Q=>(t.df=[]/\∀ l,H l=none->Q (.ref l) (upd H l (.lst [])))\/∃ f z,t.df=[(f,z)]/\∀ y l,H y=some (.tup [.int (f:Nat),.str z])->H l=none->Q (.ref l) (upd H l (.lst [.ref y]))
def abi:T.jK.k P w mg base 3 (iw T.aD T.aJ T.aM Ad.t C4):=by
 refine T.jK.F.ok IH (fun _ _ _ _ h=>cL h fun _ _ _=>rfl) fun _ A _ s H vs Q E hr h=>cL h fun x n h=>?_;obtain ⟨AA,L,M,k,a,t,i,rfl,rfl,ha,aS,q⟩:=h;obtain ⟨fs,c,hx,bh,sf⟩:=i.h;obtain ⟨gs,c2,ht,dN,sg⟩:=i.t;have cK:=eJ i ha aS;obtain ⟨ks,ho,ia,so⟩:=cK.o;refine ⟨_,((ah (aK (bJ (FZ rfl) T.wJ uY (aa (bd T.cC T.oq (bf T.bx T.bS.h (eB T) hr.m T.bS.b .nil dJ (ac 0) (aa (ac 1) ae))) ae))))).h,?_⟩;refine stI [some (V.ref AA.t),some (V.int (k:Int))] ?_;left;refine (mI ht sg (iV i ha aS ⟨a.th,_,_,.ref a.pl,rfl,ho,(so _).trans rfl,a.pl,_,rfl,cK.pl,?_⟩));rcases q with ⟨e,q⟩ | ⟨f,z,e,q⟩
 ·rw [e];exact .inl ⟨rfl,q⟩
 ·rw [e];exact .inr ⟨_,_,rfl,q⟩
def ads:T.jP.k P w mg base 4 (iw T.aD T.aJ T.aM Ad.a C4):=by
 refine T.jP.F.ok Ll (fun _ _ _ _ h=>cL h fun _ _ _=>rfl) fun _ A _ s H vs Q E hr h=>cL h fun x n h=>?_;obtain ⟨AA,L,M,k,a,t,i,rfl,rfl,ha,aS,q⟩:=h;obtain ⟨fs,c,hx,bh,sf⟩:=i.h;obtain ⟨gs,c2,ht,dN,sg⟩:=i.t;have cK:=eJ i ha aS;obtain ⟨ks,ho,ia,so⟩:=cK.o;refine ⟨_,((ah (aK (bB T.bx T.jK.h (abi T) hr.m T.jK.b .nil aB (bd T.aE T.cP (ac 0)) (aa (ac 1) ae))))).h,?_⟩;refine stI [some (V.ref AA.a),some (V.int (k:Int))] ?_;left;exact ⟨AA.a,_,_,.ref AA.t,rfl,hx,(sf _).trans rfl,AA.t,_,_,rfl,ht,(sg _).trans rfl,AA,L,M,k,a,t,i,rfl,rfl,ha,aS,q⟩
def acJ:T.jF.k P w mg base 3 (iw T.aD T.aJ T.aM Ad.a abr):=by
 refine T.jF.F.ok Mp (fun _ _ _ _ h=>cL h fun _ _ _=>rfl) fun _ A _ s H vs Q E hr h=>cL h fun x n h=>?_;obtain ⟨AA,L,M,k,a,t,i,rfl,rfl,ha,aS,q⟩:=h;obtain ⟨fs,c,hx,bh,sf⟩:=i.h;obtain ⟨gs,c2,ht,dN,sg⟩:=i.t;have cK:=eJ i ha aS;obtain ⟨ks,ho,ia,so⟩:=cK.o;refine ⟨_,((ah (aK (bd T.cC T.y3 (bf T.bx T.bS.h (eB T) hr.m T.bS.b .nil dJ (bd T.aE T.cP (ac 0)) (aa (ac 1) ae)))))).h,?_⟩;refine stI [some (V.ref AA.a),some (V.int (k:Int))] ?_;left;exact ⟨AA.a,_,_,.ref AA.t,rfl,hx,(sf _).trans rfl,AA.t,_,_,rfl,ht,(sg _).trans rfl,iV i ha aS (fI ho so rfl q)⟩
def mm (H:Hp) (t:Th) (pl:Addr):Prop:=t.df=[]/\H pl=some (.lst [])\/∃ f z y,t.df=[(f,z)]/\H pl=some (.lst [.ref y])/\H y=some (.tup [.int (f:Nat),.str z])
def mm.keep {H H':Hp} {t:Th} {l pl:Addr} {xs:List V} (h:mm H t pl) (hl:H l=some (.lst xs)) (n:pl≠l) (k:cg l H H'):mm H' t pl:=by
 rcases h with ⟨e,e3⟩ | ⟨f,z,y,e,e3,e5⟩
 ·exact .inl ⟨e,k _ _ n e3⟩
 ·exact .inr ⟨f,z,y,e,k _ _ n e3,k _ _ (fun z=>by rw [z,hl] at e5;cases e5) e5⟩
structure jO (H:Hp) (N:Addr->Prop) (t:Th) (a:Addr):Prop where
 e:∃ ri pl nm,H a=some (.lst [.str t.kd,.str t.ow,.ref ri,.str t.tx,.ref pl,.ref nm])/\H ri=some (.tup [.str t.mi,.str t.re])/\mm H t pl/\H nm=some (.lst ((g9 (t.bU.map (·.1))).map V.str))/\¬ N a/\¬ N pl/\¬ N nm
def jO.keep {H H':Hp} {N:Addr->Prop} {l:Addr} {t:Th} {a:Addr} {xs:List V} (h:jO H N t a) (hN:N l) (hl:H l=some (.lst xs)) (k:cg l H H'):jO H' N t a:=by
 obtain ⟨ri,pl,nm,e1,e2,e3,e4,n1,n2,n3⟩:=h;have ne:∀ {b},¬ N b->b≠l:=fun n z=>n (z ▸ hN);exact ⟨ri,pl,nm,k _ _ (ne n1) e1,k _ _ (fun z=>by rw [z,hl] at e2;cases e2) e2,e3.keep hl (ne n2) k,k _ _ (ne n3) e4,n1,n2,n3⟩
def NF (H:Hp) (l:Addr):Addr->Prop:=fun b=>b=l\/∃ o,H b=some o
def NF.no {H H1:Hp} {l b:Addr} (s:ag H H1) (n:b≠l) (h:H1 b=none):¬ NF H l b:=fun z=>z.elim n fun ⟨o,e⟩=>by rw [s _ _ e] at h;cases h
def abQ (k:Nat):fC (k+1) (-1)=some k:=by
 unfold fC;split
 ·omega
 ·split
  ·congr 1;omega
  ·omega
def placesOk {CH CS CT:Addr} {A:Ad} {L:List Ta} {M:Hs} {n:Nat} {m:Int} {a:Ta} {t:Th} {H:Hp} {R:VK} {E:XK} (i:aI CH CS CT H A L M) (hm:m=(n:Int)) (ha:L[n]?=some a) (ht:M.ts[n]?=some t) (hp:t.df=[]\/∃ f z,t.df=[(f,z)]) (r:∀ pl H',ag H H'->H pl=none->mm H' t pl->R (.ref pl) H') :
  iw CH CS CT Ad.a C4 [.ref A.a,.int m] H R E:=by
 refine ⟨A,L,M,n,a,t,i,rfl,hm,ha,ht,?_⟩;rcases hp with e | ⟨f,z,e⟩
 ·exact .inl ⟨e,fun l hl=>r l _ (ag.upd hl) hl (.inl ⟨e,ay⟩)⟩
 ·exact .inr ⟨f,z,e,fun y l hy hl=>r l _ (ag.upd hl) hl (.inr ⟨f,z,y,e,ay,(ag.upd hl) _ _ hy⟩)⟩
def O5 (CH CS CT:Addr):Sp:=mw fun x H Q _=>X3 fun A L M=>A6 (aI CH CS CT H A L M) (A.a=x) (L.length=M.ts.length) (M.ts.length<=60) (∀ (k:Nat) (t:Th),M.ts[k]?=some t->t.bU.length < 64/\(t.df=[]\/∃ f z,t.df=[(f,z)])) (∀ (l:Addr) (H':Hp) (rs:List Addr),ag H H'->H l=none->H' l=some (.lst (rs.map V.ref))->rs.length=M.ts.length->rs.Nodup->(∀ (k:Nat) (a:Addr) (t:Th),rs[k]?=some a->M.ts[k]?=some t->jO H' (NF H l) t a)->Q (.ref l) H')
def Lv:T.kP.k P w base 5 (O5 T.aD T.aJ T.aM):=by
 refine T.kP.F.ok Cq (fun _ _ _ _ h=>fX h fun _ _=>rfl) fun _ A _ s H vs Q E hr h=>fX h fun x h=>?_;obtain ⟨AA,L,M,i,rfl,hL,hM,hT,q⟩:=h;refine aY (b:=aN Dq) ((ad (aO 1 Cq.nd (db ae))
 (ad (Ao _c rfl (K6 T.G1 (aa (qC T.aE T.oB.h (Gg T) hr.m T.oB.b .nil aB (ac 0)) ae)) (hX 2 Cq.nd) (ad (aL (dU wf wn dW (ac 1) (aa (db (aa (bB T.aE T.fN.h (vU T) hr.m T.fN.b .nil aB (ac 0) (aa (ac 2) ae)) (aa (bB T.aE T.jm.h (P0 T) hr.m T.jm.b .nil aB (ac 0) (aa (ac 2) ae)) (aa (bB T.aE T.jI.h (WJ T) hr.m T.jI.b .nil aB (ac 0) (aa (ac 2) ae)) (aa (bB T.aE T.jF.h (acJ T) hr.m T.jF.b .nil aB (ac 0) (aa (ac 2) ae)) ae))))) ae)))
 (ah (Cu (dL gT (dl (bI (K:=K) rfl) (ac 1) (im hV bi)) (db (aa (bB T.aE T.jP.h (ads T) hr.m T.jP.b .nil aB (ac 0) (aa (ac 2) ae)) (aa (bB T.aE T.jU.h (UT T) hr.m T.jU.b .nil aB (ac 0) (aa (ac 2) ae)) ae)))) (y2 (ac 1) (im hV bi) Aa)))))
 (ah (aK (ac 1)))))) ?_
 refine stI [some (V.ref AA.a),none,none] ?_;right;refine ⟨fits (by simp),fun l hl=>?_⟩;refine eV hl fun H1 s1 b1=>?_;refine aX (fun σ' H'=>∃ rs:List Addr,∃ t2,σ'=[some (V.ref AA.a),some (V.ref l),t2]/\ag H H'/\H' l=some (.lst (rs.map V.ref))/\rs.length=M.ts.length/\rs.Nodup/\∀ (k:Nat) (a:Addr) (t:Th),rs[k]?=some a->M.ts[k]?=some t->jO H' (NF H l) t a) ?_ ?_
 ·left;have i1:=i.same s1;obtain ⟨oS,c1,cu,dZ,fG⟩:=i1.h;refine mI cu fG ⟨AA,L,M,i1,rfl,⟨by omega,by omega⟩,?_⟩;refine WZ (fun n σ' H'=>∃ rs:List Addr,∃ t2,σ'=[some (V.ref AA.a),some (V.ref l),t2]/\ag H H'/\H' l=some (.lst (rs.map V.ref))/\rs.length=n/\rs.Nodup/\∀ (k:Nat) (a:Addr) (t:Th),rs[k]?=some a->M.ts[k]?=some t->jO H' (NF H l) t a) ⟨[],_,rfl,s1,b1,rfl,.nil,fun k a t h=>by cases h⟩ ?_ ?_
  ·rintro n σ' H2 hn ⟨rs,t2,rfl,s2,b2,ib,lP,lV⟩;have hn':n < M.ts.length:=by simpa using hn
   have ht:M.ts[n]?=some M.ts[n]:=mo hn';have ha:L[n]?=some (L[n]'(by omega)):=mo (by omega);right;simp only [b2];have e0:(0:Int)+(n:Int)=(n:Int):=by omega
   have i2:=i.same s2;obtain ⟨m5,c2,dg,_,cW⟩:=i2.h;refine mI dg cW ⟨AA,L,M,n,_,_,i2,rfl,e0,ha,ht,?_⟩;refine mI dg cW ⟨AA,L,M,n,_,_,i2,rfl,e0,ha,ht,?_⟩;refine mI dg cW ⟨AA,L,M,n,_,_,i2,rfl,e0,ha,ht,fun ri hri=>?_⟩;generalize ht':M.ts[n]=t at ht ⊢;refine eV hri fun H3 s3 b3=>?_;have i3:=i2.same s3;obtain ⟨uL,c3,o8,_,oM⟩:=i3.h;refine mI o8 oM ⟨AA,L,M,n,_,_,i3,rfl,e0,ha,ht,?_⟩;refine ⟨fits (by simp),fun p hp=>?_⟩;refine eV hp fun H4 s4 b4=>?_;have Ot:=s4 _ _ (s3 _ _ b2);simp only [Ot];refine ⟨lh (by simp;omega),?_⟩;have yn:p≠l:=fun z=>by rw [z,s3 _ _ b2] at hp;cases hp
   have b5:upd H4 l (.lst (rs.map V.ref++[V.ref p])) l=some (.lst (rs.map V.ref++[V.ref p])):=ay;have k5:cg l H4 (upd H4 l (.lst (rs.map V.ref++[V.ref p]))):=cg.upd;generalize upd H4 l (.lst (rs.map V.ref++[V.ref p]))=H5 at b5 k5 ⊢;have Ol:∀ c o,H c=some o->c≠l:=fun c o e z=>by rw [z,hl] at e;cases e
   have s5:ag H H5:=fun c o e=>k5 c o (Ol c o e) (((s2.trans s3).trans s4) c o e);have b5p:=k5 _ _ yn b4;have b5r:=k5 _ _ (fun z=>by rw [z,b2] at hri;cases hri) (s4 _ _ b3);simp only [bR,b5,qe];have i5:=i.same s5;obtain ⟨D9,c5,ur,_,sf5⟩:=i5.h;refine mI ur sf5 (placesOk i5 e0 ha ht (hT n t ht).2 fun pl H6 s6 cf p6=>?_);have npl':pl≠l:=fun z=>by rw [z,b5] at cf;cases cf
   have i6:=i5.same s6;obtain ⟨fs6,c6,uv,_,sf6⟩:=i6.h;refine mI uv sf6 ⟨AA,L,M,n,_,_,i6,rfl,e0,ha,ht,(hT n t ht).1,fun nm cM=>?_⟩;have Ow:nm≠l:=fun z=>by rw [z,s6 _ _ b5] at cM;cases cM
   refine eV cM fun H7 s7 b7=>?_;refine ⟨fits (by simp),fun p2 m9=>?_⟩;refine eV m9 fun H8 s8 b8=>?_;have oU:=(s6.trans s7).trans s8;have b8p:=oU _ _ b5p;have Oh:=oU _ _ b5;simp only [b8p,b8];refine ⟨fits (by simp),fun p3 i9=>?_⟩;have s9:=ag.upd (o:=.lst ([V.str t.kd,V.str t.ow,V.ref ri,V.str t.tx]++[V.ref pl,V.ref nm])) i9;have b9:upd H8 p3 (.lst ([V.str t.kd,V.str t.ow,V.ref ri,V.str t.tx]++[V.ref pl,V.ref nm])) p3=some (.lst [V.str t.kd,V.str t.ow,V.ref ri,V.str t.tx,V.ref pl,V.ref nm]):=ay;generalize upd H8 p3 (.lst ([V.str t.kd,V.str t.ow,V.ref ri,V.str t.tx]++[V.ref pl,V.ref nm]))=H9 at s9 b9 ⊢;have Ei:=s9 _ _ Oh;simp only [Ei];rw [show fC (rs.map V.ref++[V.ref p]).length (-1)=some rs.length by rw [LE,pp];exact abQ _];have es:(rs.map V.ref++[V.ref p]).set rs.length (V.ref p3)=(rs++[p3]).map V.ref:=by
    rw [List.set_append_right _ _ (by rw [pp];exact ul _),pp,Nat.sub_self,NE];rfl
   have OJ:p3≠l:=fun z=>by rw [z,Oh] at i9;cases i9
   dsimp only;rw [es];have hnd':(rs++[p3]).Nodup:=by
    rw [Gc];refine ⟨lP,by simp,fun a ha b hb z=>?_⟩;rw [EQ.mp hb] at z;obtain ⟨k,hk,e⟩:=TD ha;have kz:M.ts[k]?=some (M.ts[k]'(by omega)):=mo (by omega);obtain ⟨_,_,_,r,_,_,_,ral,_⟩:=lV k a _ (by rw [mo hk,e]) kz;have r8:=oU _ _ (k5 _ _ (fun z=>ral (.inl z)) (s4 _ _ (s3 _ _ r)));rw [z,i9] at r8;cases r8
   have kQ:cg l H9 (upd H9 l (.lst ((rs++[p3]).map V.ref))):=cg.upd;refine ⟨rs++[p3],_,rfl,fun c o e=>kQ c o (Ol c o e) (s9 _ _ (oU _ _ (s5 c o e))),ay,by rw [LE,ib];rfl,hnd',fun k a t' hk hq'=>?_⟩;generalize upd H9 l (.lst ((rs++[p3]).map V.ref))=oQ at kQ ⊢;rcases Nat.lt_or_ge k rs.length with cb | gG
   ·have r:=lV k a t' (by rw [FM cb] at hk;exact hk) hq';exact (((r.keep (.inl rfl) b2 ((s3.trans s4).keep l)).keep (.inl rfl) Ot k5).keep (.inl rfl) b5 ((oU.trans s9).keep l)).keep (.inl rfl) Ei kQ
   ·rw [Ev gG] at hk;have hk0:k - rs.length=0:=by
     have:=(sK.mp hk).1;simp at this;omega
    have hkn:k=n:=by omega
    rw [hk0] at hk;cases hk;subst hkn;rw [ht] at hq';cases hq';exact ⟨ri,pl,nm,kQ _ _ OJ b9,kQ _ _ (fun z=>by rw [z,b2] at hri;cases hri) (s9 _ _ (oU _ _ b5r)),(p6.keep (s6 _ _ b5) npl' (((s7.trans s8).trans s9).keep l)).keep Ei npl' kQ,kQ _ _ Ow (s9 _ _ (s8 _ _ b7)),NF.no (s5.trans oU) OJ i9,NF.no s5 npl' cf,NF.no (s5.trans s6) Ow cM⟩
  ·rintro σ' H2 ⟨rs,t2,rfl,s2,b2,ib,lP,lV⟩;exact ⟨rs,t2,rfl,s2,b2,by simpa using ib,lP,lV⟩
 ·rintro σ' H2 ⟨rs,t2,rfl,s2,b2,ib,lP,lV⟩;exact q l H2 rs s2 hl b2 ib lP lV
def DE.flat {K:ν} {H:Hp} {v:V} (h:cU v=true):∀ n,DE K H n v v
 | 0=>⟨h,h,IT h⟩
 | _+1=>.inl ⟨h,h,IT h⟩
def DE.wZ {K:ν} {H:Hp} {xs:List V} {n:Nat} (h:xs.all cU=true):∀ i (h1:i < xs.length) (h2:i < xs.length),DE K H n xs[i] xs[i]:=fun i h1 _=>DE.flat (IO.mp h _ (_H h1)) n
def Kq (zs:List Str):(zs.map V.str).all cU=true:=by
 rw [IO];intro v hv;obtain ⟨k,_,rfl⟩:=Ix.mp hv;rfl
def mm.de {K:ν} {H:Hp} {t:Th} {p q:Addr} {n:Nat} (h:mm H t p) (h':mm H t q):DE K H (n+2) (.ref p) (.ref q):=by
 rcases h with ⟨e,a1⟩ | ⟨f,z,y,e,a1,a2⟩
 ·rcases h' with ⟨_,b1⟩ | ⟨f',z',y',e',_,_⟩
  ·exact .inr ⟨_,_,_,_,rfl,rfl,.inl ⟨aH.of a1,aH.of b1⟩,rfl,DE.wZ rfl⟩
  ·rw [e] at e';cases e'
 ·rcases h' with ⟨e',_⟩ | ⟨f',z',y',e',b1,b2⟩
  ·rw [e] at e';cases e'
  ·rw [e] at e';cases e';refine .inr ⟨_,_,_,_,rfl,rfl,.inl ⟨aH.of a1,aH.of b1⟩,rfl,fun i h1 h2=>?_⟩
   match i,h1 with
   | 0,_=>exact .inr ⟨_,_,_,_,rfl,rfl,.inr ⟨bT.of a2,bT.of b2⟩,rfl,DE.wZ rfl⟩
def jO.de {K:ν} {H:Hp} {N N':Addr->Prop} {t:Th} {a b:Addr} {n:Nat} (h:jO H N t a) (h':jO H N' t b):DE K H (n+3) (.ref a) (.ref b):=by
 obtain ⟨ri,pl,nm,a1,a2,a3,a4,_⟩:=h;obtain ⟨ri',pl',nm',b1,b2,b3,b4,_⟩:=h';refine .inr ⟨_,_,_,_,rfl,rfl,.inl ⟨aH.of a1,aH.of b1⟩,rfl,fun i h1 h2=>?_⟩
 match i,h1 with
 | 0,_=>exact DE.flat (v:=.str t.kd) rfl _
 | 1,_=>exact DE.flat (v:=.str t.ow) rfl _
 | 2,_=>exact .inr ⟨_,_,_,_,rfl,rfl,.inr ⟨bT.of a2,bT.of b2⟩,rfl,DE.wZ rfl⟩
 | 3,_=>exact DE.flat (v:=.str t.tx) rfl _
 | 4,_=>exact a3.de b3
 | 5,_=>exact .inr ⟨_,_,_,_,rfl,rfl,.inl ⟨aH.of a4,aH.of b4⟩,rfl,DE.wZ (Kq _)⟩
structure iK (H:Hp) (N:Addr->Prop) (ts:List Th) (l:Addr):Prop where
 e:∃ rs:List Addr,H l=some (.lst (rs.map V.ref))/\rs.length=ts.length/\rs.Nodup/\N l/\∀ (k:Nat) (a:Addr) (t:Th),rs[k]?=some a->ts[k]?=some t->jO H N t a
def iK.same {H H':Hp} {N:Addr->Prop} {ts:List Th} {l:Addr} (h:iK H N ts l) (s:ag H H'):iK H' N ts l:=by
 obtain ⟨rs,e,el,nd,nl,r⟩:=h;exact ⟨rs,s _ _ e,el,nd,nl,fun k a t h1 h2=>(r k a t h1 h2).keep nl e (s.keep l)⟩
def iK.eq {K:ν} {H:Hp} {N N':Addr->Prop} {ts:List Th} {l l':Addr} {Q:VK} (h:iK H N ts l) (h':iK H N' ts l') (q:Q (.bl true) H):Ce K 4 (.ref l) (.ref l') H Q:=by
 obtain ⟨rs,e,el,_,_,r⟩:=h;obtain ⟨rs',e',el',_,_,r'⟩:=h';refine ⟨_,_,.inl ⟨aH.of e,aH.of e'⟩,by rw [pp,pp,el,el'],fun i h1 h2=>?_,q⟩;rw [pp] at h1 h2;have ht:ts[i]?=some (ts[i]'(by omega)):=mo (by omega);rw [_m,_m];exact (r i _ _ (mo h1) ht).de (n:=1) (r' i _ _ (mo h2) ht)
def sd (M:Hs) (H:Hp) (v:V):Prop:=(∃ T,clsName H v=some T)/\∀ k:Nat,v=.int k->¬ k < M.ts.length
def jo (T:Tx K mg) (sel:Ad->Addr):Sp:=fun vs H _ E=>∃ A L M v,vs=[.ref (sel A),v]/\aI T.aD T.aJ T.aM H A L M/\sd M H v/\E (.ref T.bH) none H
def LU (T:Tx K mg) (sel:Ad->Addr):Sp:=fun vs H _ E=>∃ A L M v z,vs=[.ref (sel A),v,.str z]/\aI T.aD T.aJ T.aM H A L M/\sd M H v/\fO (.str z)=true/\z.length<=1000/\∀ H',ag H H'->E (.ref T.bH) none H'
def mJ {T:Tx K mg} {H:Hp} {A:Ad} {L:List Ta} {M:Hs} {v:V} {Q:VK} {E:XK} (i:aI T.aD T.aJ T.aM H A L M) (h:sd M H v) (q:E (.ref T.bH) none H):BY T.aD T.aJ T.aM T.bH [.ref A.t,v] H Q E :=
 ⟨A,L,M,i,rfl,h.1,fun k a t e _ ht=>absurd (sK.mp ht).1 (h.2 k e),fun _=>q⟩
def Q3:aq P w K mg base (aR P w) 3 T.fN.f T.fN.d ["self","number"] (jo T Ad.a):=by
 refine T.fN.F.br FH (fun vs H Q E ⟨_,_,_,_,e,_⟩=>by rw [e];rfl) (fun cdv A outer s H vs Q E hr ⟨AA,L,M,v,e,i,hb,q⟩=>?_);subst e;obtain ⟨bG,gc,gh,bF,aG⟩:=i.h;obtain ⟨dC,hc,hh,gJ,cS⟩:=i.t;refine aY (b:=aN Bz) ((ah (aK (bd T.cC T.xD (bf T.bx T.bS.h (eB T) hr.m T.bS.b .nil aQ (bd T.aE T.cP (ac 0)) (aa (ac 1) ae)))))) ?_;refine stI [some (V.ref AA.a),some v] ?_;left;exact (fI gh aG rfl (mI hh cS (mJ i hb q)))
def acp:aq P w K mg base (aR P w) 3 T.jm.f T.jm.d ["self","number"] (jo T Ad.a):=by
 refine T.jm.F.br Mn (fun vs H Q E ⟨_,_,_,_,e,_⟩=>by rw [e];rfl) (fun cdv A outer s H vs Q E hr ⟨AA,L,M,v,e,i,hb,q⟩=>?_);subst e;obtain ⟨bG,gc,gh,bF,aG⟩:=i.h;obtain ⟨dC,hc,hh,gJ,cS⟩:=i.t;refine aY (b:=aN Az) ((ah (aK (bd T.cC T.vd (bf T.bx T.bS.h (eB T) hr.m T.bS.b .nil aQ (bd T.aE T.cP (ac 0)) (aa (ac 1) ae)))))) ?_;refine stI [some (V.ref AA.a),some v] ?_;left;exact (fI gh aG rfl (mI hh cS (mJ i hb q)))
def abH:aq P w K mg base (aR P w) 3 T.jF.f T.jF.d ["self","number"] (jo T Ad.a):=by
 refine T.jF.F.br Mp (fun vs H Q E ⟨_,_,_,_,e,_⟩=>by rw [e];rfl) (fun cdv A outer s H vs Q E hr ⟨AA,L,M,v,e,i,hb,q⟩=>?_);subst e;obtain ⟨bG,gc,gh,bF,aG⟩:=i.h;obtain ⟨dC,hc,hh,gJ,cS⟩:=i.t;refine aY (b:=aN BL) ((ah (aK (bd T.cC T.y3 (bf T.bx T.bS.h (eB T) hr.m T.bS.b .nil aQ (bd T.aE T.cP (ac 0)) (aa (ac 1) ae)))))) ?_;refine stI [some (V.ref AA.a),some v] ?_;left;exact (fI gh aG rfl (mI hh cS (mJ i hb q)))
def abb:aq P w K mg base (aR P w) 3 T.jI.f T.jI.d ["self","number"] (jo T Ad.a):=by
 refine T.jI.F.br xy (fun vs H Q E ⟨_,_,_,_,e,_⟩=>by rw [e];rfl) (fun cdv A outer s H vs Q E hr ⟨AA,L,M,v,e,i,hb,q⟩=>?_);subst e;obtain ⟨bG,gc,gh,bF,aG⟩:=i.h;obtain ⟨dC,hc,hh,gJ,cS⟩:=i.t;refine aY (b:=aN Bk) ((ad (aO 2 xy.nd (bf T.bx T.bS.h (eB T) hr.m T.bS.b .nil aQ (bd T.aE T.cP (ac 0)) (aa (ac 1) ae)))
   (ah (aK (jp (aa (bd T.cC T.wu (ac 2)) (aa (bd T.cC T.vy (ac 2)) ae))))))) ?_
 refine stI [some (V.ref AA.a),some v,none] ?_;refine aX (fun _ _=>False) ?_ (fun _ _ z=>z.elim);left;exact (fI gh aG rfl (mI hh cS (mJ i hb q)))
def V0:aq P w K mg base (aR P w) 3 T.js.f T.js.d ["self","number"] (jo T Ad.t):=by
 refine T.js.F.br Hv (fun vs H Q E ⟨_,_,_,_,e,_⟩=>by rw [e];rfl) (fun cdv A outer s H vs Q E hr ⟨AA,L,M,v,e,i,hb,q⟩=>?_);subst e;obtain ⟨bG,gc,gh,bF,aG⟩:=i.h;obtain ⟨dC,hc,hh,gJ,cS⟩:=i.t;refine aY (b:=aN yO) ((ah (aK (bJ (FL (K:=K) rfl rfl) T.wJ uY (aa (bd T.cC T.pj (bf T.bx T.bS.h (eB T) hr.m T.bS.b .nil aQ (ac 0) (aa (ac 1) ae))) ae))))) ?_;refine stI [some (V.ref AA.t),some v] ?_;left;exact mI hh cS (mJ i hb q)
def WA:aq P w K mg base (aR P w) 4 T.jU.f T.jU.d ["self","number"] (jo T Ad.a):=by
 refine T.jU.F.br Ht (fun vs H Q E ⟨_,_,_,_,e,_⟩=>by rw [e];rfl) (fun cdv A outer s H vs Q E hr ⟨AA,L,M,v,e,i,hb,q⟩=>?_);subst e;obtain ⟨bG,gc,gh,bF,aG⟩:=i.h;obtain ⟨dC,hc,hh,gJ,cS⟩:=i.t;refine aY (b:=aN Bt) ((ah (aK (bf T.bx T.js.h (V0 T) hr.m T.js.b .nil aQ (bd T.aE T.cP (ac 0)) (aa (ac 1) ae))))) ?_;refine stI [some (V.ref AA.a),some v] ?_;left;exact (fI gh aG rfl (mI hh cS ⟨AA,L,M,v,rfl,i,hb,q⟩))
def abz:aq P w K mg base (aR P w) 3 T.jK.f T.jK.d ["self","number"] (jo T Ad.t):=by
 refine T.jK.F.br IH (fun vs H Q E ⟨_,_,_,_,e,_⟩=>by rw [e];rfl) (fun cdv A outer s H vs Q E hr ⟨AA,L,M,v,e,i,hb,q⟩=>?_);subst e;obtain ⟨bG,gc,gh,bF,aG⟩:=i.h;obtain ⟨dC,hc,hh,gJ,cS⟩:=i.t;refine aY (b:=aN BD) ((ah (aK (bJ (FZ rfl) T.wJ uY (aa (bd T.cC T.oq (bf T.bx T.bS.h (eB T) hr.m T.bS.b .nil aQ (ac 0) (aa (ac 1) ae))) ae))))) ?_;refine stI [some (V.ref AA.t),some v] ?_;left;exact mI hh cS (mJ i hb q)
def QD:aq P w K mg base (aR P w) 4 T.jP.f T.jP.d ["self","number"] (jo T Ad.a):=by
 refine T.jP.F.br Ll (fun vs H Q E ⟨_,_,_,_,e,_⟩=>by rw [e];rfl) (fun cdv A outer s H vs Q E hr ⟨AA,L,M,v,e,i,hb,q⟩=>?_);subst e;obtain ⟨bG,gc,gh,bF,aG⟩:=i.h;obtain ⟨dC,hc,hh,gJ,cS⟩:=i.t;refine aY (b:=aN Cp) ((ah (aK (bf T.bx T.jK.h (abz T) hr.m T.jK.b .nil aQ (bd T.aE T.cP (ac 0)) (aa (ac 1) ae))))) ?_;refine stI [some (V.ref AA.a),some v] ?_;left;exact (fI gh aG rfl (mI hh cS ⟨AA,L,M,v,rfl,i,hb,q⟩))
def V8:aq P w K mg base (aR P w) 3 T.jf.f T.jf.d ["self","number"] (jo T Ad.t):=by
 refine T.jf.F.br Fo (fun vs H Q E ⟨_,_,_,_,e,_⟩=>by rw [e];rfl) (fun cdv A outer s H vs Q E hr ⟨AA,L,M,v,e,i,hb,q⟩=>?_);subst e;obtain ⟨bG,gc,gh,bF,aG⟩:=i.h;obtain ⟨dC,hc,hh,gJ,cS⟩:=i.t;refine aY (b:=aN yZ) ((ah (aK (Dv.minD rfl T.Iv (bd T.cC T.oq (bf T.bx T.bS.h (eB T) hr.m T.bS.b .nil aQ (ac 0) (aa (ac 1) ae))))))) ?_;refine stI [some (V.ref AA.t),some v] ?_;left;exact mI hh cS (mJ i hb q)
def Tf:aq P w K mg base (aR P w) 4 T.iH.f T.iH.d ["self","number"] (jo T Ad.a):=by
 refine T.iH.F.br Jp (fun vs H Q E ⟨_,_,_,_,e,_⟩=>by rw [e];rfl) (fun cdv A outer s H vs Q E hr ⟨AA,L,M,v,e,i,hb,q⟩=>?_);subst e;obtain ⟨bG,gc,gh,bF,aG⟩:=i.h;obtain ⟨dC,hc,hh,gJ,cS⟩:=i.t;refine aY (b:=aN Cy) ((ah (aK (bf T.bx T.jf.h (V8 T) hr.m T.jf.b .nil aQ (bd T.aE T.cP (ac 0)) (aa (ac 1) ae))))) ?_;refine stI [some (V.ref AA.a),some v] ?_;left;exact (fI gh aG rfl (mI hh cS ⟨AA,L,M,v,rfl,i,hb,q⟩))
def Lz:aq P w K mg base (aR P w) 3 T.gD.f T.gD.d ["self","folder","name"] (LU T Ad.t):=by
 refine T.gD.F.br MB (fun vs H Q E ⟨_,_,_,_,_,e,_⟩=>by rw [e];rfl) (fun cdv A outer s H vs Q E hr ⟨AA,L,M,v,z,e,i,hb,hz,hl,q⟩=>?_);subst e;obtain ⟨bG,gc,gh,bF,aG⟩:=i.h;obtain ⟨dC,hc,hh,gJ,cS⟩:=i.t;refine aY (b:=aN DA) ((ah (aK (zb (eA hr) (bd T.cC T.pj (bf T.bx T.bS.h (eB T) hr.m T.bS.b .nil aQ (ac 0) (aa (ac 1) ae))) (ac 2))))) ?_;refine stI [some (V.ref AA.t),some v,some (V.str z)] ?_;left;exact mI hh cS (mJ i hb (q _ (ag.refl _)))
def wt (H:Hp) (v:V):Prop:=(∃ T,clsName H v=some T)/\Bq v/\fO v=false
def aaG (T:Tx K mg):Sp:=fun vs H _ E=>∃ v,vs=[v]/\wt H v/\∀ H',ag H H'->E (.ref T.cB) none H'
def aaY:aq P w K mg base (aR P w) 2 T.eg.f T.eg.d ["text"] (aaG T):=by
 refine T.eg.F.br LR (fun vs H Q E ⟨_,e,_⟩=>by rw [e];rfl) (fun cdv A outer s H vs Q E hr ⟨v,e,hb,q⟩=>?_);subst e;refine aY (b:=aN ze) ((ah (aW (cX (cO (bn (rp T) hr.m T.fc.m T.fc.F.kp T.fc.b .nil aB (aa (ac 0) ae)))) (ah (jx jG rfl T.Kt T.W4 (aa ap ae))) cr))) ?_;refine stI [some v] ?_;left;refine ⟨hb.1,hb.2.1,fun H' s'=>?_⟩;rw [hb.2.2];exact cz ⟨fits (by simp),q H' s'⟩
def yH:aq P w K mg base (aR P w) 4 T.fS.f T.fS.d ["self","number","name"] (fun vs H Q E=>LU T Ad.a vs H Q E\/∃ A L M v n,vs=[.ref A.a,v,n]/\aI T.aD T.aJ T.aM H A L M/\wt H n/\∀ H',ag H H'->E (.ref T.cB) none H'):=by
 have NO:=fj (xk (P:=P) (w:=w) (base:=base) T).cx (aaY (P:=P) (w:=w) (base:=base) T);refine T.fS.F.br Gi (fun vs H Q E h=>by rcases h with ⟨_,_,_,_,_,e,_⟩ | ⟨_,_,_,_,_,e,_⟩ <;> rw [e] <;> rfl) (fun _ A _ s H vs Q E hr h=>?_);rcases h with ⟨AA,L,M,v,z,e,i,hb,hz,hl,q⟩ | ⟨AA,L,M,v,n,e,i,hb,q⟩
 ·subst e;refine aY (b:=aN uR) ((ad (aL (bg NO hr.m T.eg.m T.eg.F.kp T.eg.b .nil aQ (aa (ac 2) ae)))
   (ah (aK (bf T.bx T.gD.h (Lz T) hr.m T.gD.b .nil aQ (bd T.aE T.cP (ac 0)) (aa (ac 1) (aa (ac 2) ae))))))) ?_
  refine stI [some (V.ref AA.a),some v,some (V.str z)] ?_;right;refine .inl ⟨⟨_,rfl⟩,hl,hz,fun H1 s1=>?_⟩;have i1:=i.same s1;obtain ⟨bG,gc,gh,bF,aG⟩:=i1.h;obtain ⟨dC,hc,hh,gJ,cS⟩:=i1.t;obtain ⟨ty,hc1⟩:=hb.1;left;exact (fI gh aG rfl (mI hh cS ⟨AA,L,M,v,z,rfl,i1,⟨⟨ty,iD s1 hc1⟩,hb.2⟩,hz,hl,fun H' s'=>q H' (s1.trans s')⟩))
 ·subst e;refine aY (b:=aN uR) ((ad (aL (bg NO hr.m T.eg.m T.eg.F.kp T.eg.b .nil aQ (aa (ac 2) ae)))
   (ah (aK (bf T.bx T.gD.h (Lz T) hr.m T.gD.b .nil aQ (bd T.aE T.cP (ac 0)) (aa (ac 1) (aa (ac 2) ae))))))) ?_
  refine stI [some (V.ref AA.a),some v,some n] ?_;refine aX (fun _ _=>False) ?_ (fun _ _ z=>z.elim);left;exact .inr ⟨n,rfl,hb,q⟩
def kR (M:Hs) (H:Hp) (v:V):Prop:=(∃ T,clsName H v=some T)/\∀ z,v=.str z->bb (sD M.ro) (.inr z)=none
def IS (T:Tx K mg):Sp:=fun vs H _ E=>∃ A L M v,vs=[.ref A.a,v]/\aI T.aD T.aJ T.aM H A L M/\kR M H v/\E (.ref T.bW) none H
def V2:aq P w K mg base (aR P w) 2 T.gy.f T.gy.d ["self","asker"] (IS T):=by
 refine T.gy.F.br Ir (fun vs H Q E ⟨_,_,_,_,e,_⟩=>by rw [e];rfl) (fun cdv A outer s H vs Q E hr ⟨AA,L,M,v,e,i,hb,q⟩=>?_);subst e;obtain ⟨bG,gc,gh,bF,aG⟩:=i.h;refine aY (b:=aN Aw) ((ad (aL (bf T.aE T.cJ.h (gi T) hr.m T.cJ.b .nil aQ (ac 0) (aa (ac 1) ae)))
   (ah (aK (ph (eA hr) (bd T.aE T.pw (ac 0)) (ac 1)))))) ?_
 refine stI [some (V.ref AA.a),some v] ?_;refine aX (fun _ _=>False) ?_ (fun _ _ z=>z.elim);left;exact mI gh aG ⟨AA,L,M,i,rfl,hb.1,fun z e hz=>(by rw [hb.2 z e] at hz;cases hz),fun _=>q⟩
def VZ:aq P w K mg base (aR P w) 2 T.jq.f T.jq.d ["self","asker"] (IS T):=by
 refine T.jq.F.br Md (fun vs H Q E ⟨_,_,_,_,e,_⟩=>by rw [e];rfl) (fun cdv A outer s H vs Q E hr ⟨AA,L,M,v,e,i,hb,q⟩=>?_);subst e;obtain ⟨bG,gc,gh,bF,aG⟩:=i.h;refine aY (b:=aN B9) ((ad (aL (bf T.aE T.cJ.h (gi T) hr.m T.cJ.b .nil aQ (ac 0) (aa (ac 1) ae)))
   (ah (aK (ph (eA hr) (bd T.aE T.CB (ac 0)) (ac 1)))))) ?_
 refine stI [some (V.ref AA.a),some v] ?_;refine aX (fun _ _=>False) ?_ (fun _ _ z=>z.elim);left;exact mI gh aG ⟨AA,L,M,i,rfl,hb.1,fun z e hz=>(by rw [hb.2 z e] at hz;cases hz),fun _=>q⟩
def Ah (M:Hs) (H:Hp) (v:V):Prop:=(∃ T,clsName H v=some T)/\∀ z,v=.str z->bb (sD M.tr) (.inr z)=none
def Ap (T:Tx K mg):Sp:=fun vs H _ E=>∃ A L M v,vs=[.ref A.a,v]/\aI T.aD T.aJ T.aM H A L M/\Ah M H v/\E (.ref T.cD) none H
def Yl:aq P w K mg base (aR P w) 1 T.sM.f T.sM.d ["self","tree"] (Ap T):=by
 refine T.sM.F.br ab6 (fun vs H Q E ⟨_,_,_,_,e,_⟩=>by rw [e];rfl) (fun cdv A outer s H vs Q E hr ⟨AA,L,M,v,e,i,hb,q⟩=>?_);subst e;obtain ⟨bG,gc,gh,bF,aG⟩:=i.h;refine aY (b:=aN Cs) ((ah (aW (gk (io (cX (cO (bJ iG T.dA du (aa (ac 1) (aa (gY (.ty "str") T.jh jX rfl) ae))))) (i0 (GZ (eA hr) (ac 1) (bd T.aE T.vV (ac 0)))))) (ah (jx jG rfl T.Hh T.Sx (aa ap ae))) cr))) ?_;refine stI [some (V.ref AA.a),some v] ?_;obtain ⟨ty,cm⟩:=hb.1;left;simp only [cm,nk cm];refine ⟨jS _ rfl,?_⟩;cases v with
 | str z =>
  simp only [mP,_y,FB,Ty];refine ⟨AA.a,_,_,.ref AA.tr,rfl,gh,(aG _).trans rfl,AA.tr,_,rfl,dS.k (k:=.inr z) i.tr,?_⟩;rw [hb.2 z rfl];exact cz ⟨fits (by simp),q⟩
 | _=>exact ⟨fits (by simp),q⟩
def Lg:aq P w K mg base (aR P w) 2 T.nh.f T.nh.d ["self","tree"] (Ap T):=by
 refine T.nh.F.br aas (fun vs H Q E ⟨_,_,_,_,e,_⟩=>by rw [e];rfl) (fun cdv A outer s H vs Q E hr ⟨AA,L,M,v,e,i,hb,q⟩=>?_);subst e;obtain ⟨bG,gc,gh,bF,aG⟩:=i.h;refine aY (b:=aN CQ) ((ad (aL (bf T.aE T.sM.h (Yl T) hr.m T.sM.b .nil aQ (ac 0) (aa (ac 1) ae)))
   (ah (aK (ph (eA hr) (bd T.aE T.vV (ac 0)) (ac 1)))))) ?_
 refine stI [some (V.ref AA.a),some v] ?_;refine aX (fun _ _=>False) ?_ (fun _ _ z=>z.elim);left;exact mI gh aG ⟨AA,L,M,v,rfl,i,hb,q⟩
def WQ:aq P w K mg base (aR P w) 3 T.tL.f T.tL.d ["self","tree"] (Ap T):=by
 refine T.tL.F.br R4 (fun vs H Q E ⟨_,_,_,_,e,_⟩=>by rw [e];rfl) (fun cdv A outer s H vs Q E hr ⟨AA,L,M,v,e,i,hb,q⟩=>?_);subst e;obtain ⟨bG,gc,gh,bF,aG⟩:=i.h;refine aY (b:=aN CP) ((ah (aK (zb (eA hr) (bd T.aE T.xC (ac 0)) (bf T.aE T.nh.h (Lg T) hr.m T.nh.b .nil aQ (ac 0) (aa (ac 1) ae)))))) ?_;refine stI [some (V.ref AA.a),some v] ?_;left;exact (fI gh aG rfl ⟨AA.un,rfl,.inl ⟨_,.inl i.un⟩,mI gh aG ⟨AA,L,M,v,rfl,i,hb,q⟩⟩)
def kX (T:Tx K mg):Sp:=fun vs H _ E=>∃ A L M va vp C,vs=[.ref A.a,va,vp]/\aI T.aD T.aJ T.aM H A L M/\ed T H M va vp C/\∀ H',ag H H'->E (.ref C) none H'
def GQ (T:Tx K mg):Sp:=fun vs H _ E=>∃ A L M va vp l C,vs=[.ref A.a,va,vp,l]/\aI T.aD T.aJ T.aM H A L M/\ed T H M va vp C/\∀ H',ag H H'->E (.ref C) none H'
def acr:aq P w K mg base (aR P w) 4 T.pa.f T.pa.d ["house","asker","path","last"] (GQ T):=by
 have eE:=fj (fL (P:=P) (w:=w) (base:=base) T).cx (jQ (P:=P) (w:=w) (base:=base) T);refine T.pa.F.br IL (fun vs H Q E ⟨_,_,_,_,_,_,_,e,_⟩=>by rw [e];rfl) (fun cdv A outer s H vs Q E hr ⟨AA,L,M,va,vp,l,C,e,i,hb,q⟩=>?_);subst e;obtain ⟨bG,gc,gh,bF,aG⟩:=i.h;refine aY (b:=aN Cj) ((ad (aL (bf T.aE T.cJ.h (gi T) hr.m T.cJ.b .nil aQ (ac 0) (aa (ac 1) ae)))
   (ad (aO 4 IL.nd (bg eE hr.m T.bq.m T.bq.F.kp T.bq.b .nil aQ (aa (ac 2) ae)))
   (ah ck)))) ?_
 refine stI [some (V.ref AA.a),some va,some vp,some l,none] ?_;cases hb with
  | ee hc hn =>
   refine aX (fun _ _=>False) ?_ (fun _ _ z=>z.elim);left;exact mI gh aG ⟨AA,L,M,i,rfl,hc,fun z e hz=>(by rw [hn z e] at hz;cases hz),fun _=>q H (ag.refl H)⟩
  | path hz hz' hb =>
   subst hz;right;refine mI gh aG (eS i hz' ?_);refine aX (fun _ _=>False) ?_ (fun _ _ z=>z.elim);left;exact .inr ⟨hb,q⟩
def ZN:aq P w K mg base (aR P w) 5 T.Ep T.yo ["house","asker","path","last"] (GQ T):=by
 refine T.vq.br aby (fun vs H Q E ⟨_,_,_,_,_,_,_,e,_⟩=>by rw [e];rfl) (fun cdv A outer s H vs Q E hr ⟨AA,L,M,va,vp,l,C,e,i,hb,q⟩=>?_);subst e;refine aY (b:=aN sG) ((ah (aK (bd T.aU T.nu (bg (acr T) hr.m T.pa.m T.pa.F.kp T.pa.b .nil aQ (aa (ac 0) (aa (ac 1) (aa (ac 2) (aa (ac 3) ae))))))))) ?_;refine stI [some (V.ref AA.a),some va,some vp,some l] ?_;left;exact ⟨AA,L,M,va,vp,l,C,rfl,i,hb,q⟩
def Gz:aq P w K mg base (aR P w) 9 T.kK.f T.kK.d ["house","asker","path"] (kX T):=by
 refine T.kK.F.br V1 (fun vs H Q E ⟨_,_,_,_,_,_,e,_⟩=>by rw [e];rfl) (fun cdv A outer s H vs Q E hr ⟨AA,L,M,va,vp,C,e,i,hb,q⟩=>?_);subst e;refine aY (b:=aN zM) ((ah (aK (bg (Ds T) hr.m T.ik.m T.ik.F.kp T.ik.b .nil aQ (aa (bg (ZN T) hr.m T.adn T.vq.kp T.AS (.cons (show RelV (.bl true) _ from rfl) .nil) aQ (aa (ac 0) (aa (ac 1) (aa (ac 2) ae)))) ae))))) ?_;refine stI [some (V.ref AA.a),some va,some vp] ?_;left;exact ⟨AA,L,M,va,vp,_,C,rfl,i,hb,q⟩
def SK:aq P w K mg base (aR P w) 10 T.qg.f T.qg.d ["house","asker","path"] (kX T):=by
 refine T.qg.F.br J1 (fun vs H Q E ⟨_,_,_,_,_,_,e,_⟩=>by rw [e];rfl) (fun cdv A outer s H vs Q E hr ⟨AA,L,M,va,vp,C,e,i,hb,q⟩=>?_);subst e;refine aY (b:=aN yJ) ((ad (aO 3 J1.nd (bg (Gz T) hr.m T.kK.m T.kK.F.kp T.kK.b .nil aQ (aa (ac 0) (aa (ac 1) (aa (ac 2) ae)))))
   (ad ck
   (ah ck)))) ?_
 refine stI [some (V.ref AA.a),some va,some vp,none] ?_;refine aX (fun _ _=>False) ?_ (fun _ _ z=>z.elim);left;exact ⟨AA,L,M,va,vp,C,rfl,i,hb,q⟩
def Zw:aq P w K mg base (aR P w) 10 T.pC.f T.pC.d ["house","asker","path"] (kX T):=by
 refine T.pC.F.br Mc (fun vs H Q E ⟨_,_,_,_,_,_,e,_⟩=>by rw [e];rfl) (fun cdv A outer s H vs Q E hr ⟨AA,L,M,va,vp,C,e,i,hb,q⟩=>?_);subst e;refine aY (b:=aN C5) ((ad (aO 3 Mc.nd (bg (Gz T) hr.m T.kK.m T.kK.F.kp T.kK.b .nil aQ (aa (ac 0) (aa (ac 1) (aa (ac 2) ae)))))
   (ad ck
   (ah ck)))) ?_
 refine stI [some (V.ref AA.a),some va,some vp,none] ?_;refine aX (fun _ _=>False) ?_ (fun _ _ z=>z.elim);left;exact ⟨AA,L,M,va,vp,C,rfl,i,hb,q⟩
def Z2:aq P w K mg base (aR P w) 11 T.qw.f T.qw.d ["house","asker","path"] (kX T):=by
 refine T.qw.F.br JJ (fun vs H Q E ⟨_,_,_,_,_,_,e,_⟩=>by rw [e];rfl) (fun cdv A outer s H vs Q E hr ⟨AA,L,M,va,vp,C,e,i,hb,q⟩=>?_);subst e;refine aY (b:=aN zA) ((ad (aO 3 JJ.nd (bg (SK T) hr.m T.qg.m T.qg.F.kp T.qg.b .nil aQ (aa (ac 0) (aa (ac 1) (aa (ac 2) ae)))))
   (ad ck
   (ah ck)))) ?_
 refine stI [some (V.ref AA.a),some va,some vp,none] ?_;refine aX (fun _ _=>False) ?_ (fun _ _ z=>z.elim);left;exact ⟨AA,L,M,va,vp,C,rfl,i,hb,q⟩
def RE:aq P w K mg base (aR P w) 11 T.qE.f T.qE.d ["house","asker","path"] (kX T):=by
 refine T.qE.F.br J8 (fun vs H Q E ⟨_,_,_,_,_,_,e,_⟩=>by rw [e];rfl) (fun cdv A outer s H vs Q E hr ⟨AA,L,M,va,vp,C,e,i,hb,q⟩=>?_);subst e;refine aY (b:=aN AQ) ((ad (aO 3 J8.nd (bg (Zw T) hr.m T.pC.m T.pC.F.kp T.pC.b .nil aQ (aa (ac 0) (aa (ac 1) (aa (ac 2) ae)))))
   (ad ck
   (ah ck)))) ?_
 refine stI [some (V.ref AA.a),some va,some vp,none] ?_;refine aX (fun _ _=>False) ?_ (fun _ _ z=>z.elim);left;exact ⟨AA,L,M,va,vp,C,rfl,i,hb,q⟩
def abR:aq P w K mg base (aR P w) 4 T.iL.f T.iL.d ["path"] (fun vs H _ E=>∃ vp,vs=[vp]/\ff H vp/\∀ H',ag H H'->E (.ref T.bN) none H'):=by
 have eE:=fj (fL (P:=P) (w:=w) (base:=base) T).cx (jQ (P:=P) (w:=w) (base:=base) T);refine T.iL.F.br vW (fun vs H Q E ⟨_,e,_⟩=>by rw [e];rfl) (fun cdv A outer s H vs Q E hr ⟨vp,e,hb,q⟩=>?_);subst e;refine aY (b:=aN xb) ((ad (aO 1 vW.nd (dl (bI (K:=K) rfl) (bg eE hr.m T.bq.m T.bq.F.kp T.bq.b .nil aQ (aa (ac 0) ae)) bi))
   (ah (aW (gk (io (bw (zx hr.mT) (ac 1) (db ae)) (i0 (cX (cO (bn (rp T) hr.m T.fc.m T.fc.F.kp T.fc.b .nil aB (aa (dl (bI (K:=K) rfl) (ac 1) (im hV bi)) ae))))))) (ah (rE sU rfl rfl T.rh T.rO T.wY (xt T) hr.m T.me.b (aa ap ae))) cr)))) ?_
 refine stI [some vp,none] ?_;refine aX (fun _ _=>False) ?_ (fun _ _ z=>z.elim);left;exact .inr ⟨hb,q⟩
def aa3:aq P w K mg base (aR P w) 14 T.iB.f T.iB.d ["house","asker","path"] (fun vs H _ E=>∃ h a vp,vs=[h,a,vp]/\ff H vp/\∀ H',ag H H'->E (.ref T.bN) none H'):=by
 have eE:=fj (fL (P:=P) (w:=w) (base:=base) T).cx (jQ (P:=P) (w:=w) (base:=base) T);refine T.iB.F.br pZ (fun vs H Q E ⟨_,_,_,e,_⟩=>by rw [e];rfl) (fun cdv A outer s H vs Q E hr ⟨hh,a,vp,e,hb,q⟩=>?_);subst e;refine aY (b:=aN wk) ((ad (aL (bg (abR T) hr.m T.iL.m T.iL.F.kp T.iL.b .nil aQ (aa (ac 2) ae)))
   (ad (aO 3 pZ.nd (bg eE hr.m T.bq.m T.bq.F.kp T.bq.b .nil aQ (aa (ac 2) ae)))
   (ad (aO 4 pZ.nd (bn (Jt T) hr.m T.kZ.m T.kZ.F.kp T.kZ.b .nil aB (aa (ac 0) (aa (ac 1) (aa (dl (bI (K:=K) rfl) (ac 3) bi) (aa (dL gT (Dv.slice (yY (K:=K) rfl) (dl (bI (K:=K) rfl) (ac 3) bi) Ab (Cb (im hV bi))) (db (aa ap ae))) (aa ge ae)))))))
   (ah (aK (li T.IA (LZ T) hr.m T.Ha T.pL.b .nil aB (aa (bg (Ds T) hr.m T.ik.m T.ik.F.kp T.ik.b .nil aQ (aa (bd T.aU T.nu (ac 4)) ae)) (aa (dl (bI (K:=K) rfl) (dl (bI (K:=K) rfl) (ac 3) bi) (im hV bi)) ae))))))))) ?_
 refine stI [some hh,some a,some vp,none,none] ?_;refine aX (fun _ _=>False) ?_ (fun _ _ z=>z.elim);left;exact ⟨vp,rfl,hb,q⟩
def ady:aq P w K mg base (aR P w) 15 T.pM.f T.pM.d ["house","asker","path"] (kX T):=by
 refine T.pM.F.br Gr (fun vs H Q E ⟨_,_,_,_,_,_,e,_⟩=>by rw [e];rfl) (fun cdv A outer s H vs Q E hr ⟨AA,L,M,va,vp,C,e,i,hb,q⟩=>?_);subst e;obtain ⟨bG,gc,gh,bF,aG⟩:=i.h;refine aY (b:=aN yG) ((ad (aL (bf T.aE T.cJ.h (gi T) hr.m T.cJ.b .nil aQ (ac 0) (aa (ac 1) ae)))
   (ad (aO 3 Gr.nd (bg (aa3 T) hr.m T.iB.m T.iB.F.kp T.iB.b .nil aQ (aa (ac 0) (aa (ac 1) (aa (ac 2) ae)))))
   (ad ck
   (ad ck
   (ad ck
   (ad ck
   (ah ck)))))))) ?_
 refine stI [some (V.ref AA.a),some va,some vp,none,none] ?_;cases hb with
 | ee hc hn =>
  refine aX (fun _ _=>False) ?_ (fun _ _ z=>z.elim);left;exact mI gh aG ⟨AA,L,M,i,rfl,hc,fun z e hz=>(by rw [hn z e] at hz;cases hz),fun _=>q H (ag.refl H)⟩
 | path hz hz' hb =>
  subst hz;right;refine mI gh aG (eS i hz' ?_);refine aX (fun _ _=>False) ?_ (fun _ _ z=>z.elim);left;exact ⟨_,_,vp,rfl,hb,q⟩
def YI:aq P w K mg base (aR P w) 15 T.px.f T.px.d ["house","asker","path","mine","rest"] (fun vs H _ E=>∃ A L M va vp vm vr C,vs=[.ref A.a,va,vp,vm,vr]/\aI T.aD T.aJ T.aM H A L M/\(ed T H M va vp C\/∃ z t,fV M va vp z t/\iy H vm vr/\C=T.bV)/\∀ H',ag H H'->E (.ref C) none H'):=by
 have eE:=fj (fL (P:=P) (w:=w) (base:=base) T).cx (jQ (P:=P) (w:=w) (base:=base) T);have m3:=fj (nH (P:=P) (w:=w) (base:=base) T).cx (AD (P:=P) (w:=w) (base:=base) T);refine T.px.F.br Up (fun vs H Q E h=>by obtain ⟨_,_,_,_,_,_,_,_,e,_⟩:=h;rw [e];rfl) (fun _ A _ s H vs Q E hr h=>?_);obtain ⟨AA,L,M,va,vp,vm,vr,C,rfl,i,hb,q⟩:=h;obtain ⟨bG,gc,gh,bF,aG⟩:=i.h;refine aY (b:=aN C7) ((ad (aL (bf T.aE T.cJ.h (gi T) hr.m T.cJ.b .nil aQ (ac 0) (aa (ac 1) ae)))
   (ad (aL (bg eE hr.m T.bq.m T.bq.F.kp T.bq.b .nil aQ (aa (ac 2) ae)))
   (ad (aL (bg m3 hr.m T.cA.m T.cA.F.kp T.cA.b .nil aQ (aa (ac 3) ae)))
   (ad (aL (bg m3 hr.m T.cA.m T.cA.F.kp T.cA.b .nil aQ (aa (ac 4) ae)))
   (ad ck
   (ad ck
   (ah ck)))))))) ?_
 refine stI [some (V.ref AA.a),some va,some vp,some vm,some vr,none] ?_;rcases hb with (⟨hc,hn⟩ | ⟨rfl,hz,hb⟩) | ⟨z,t,⟨rfl,hz,rfl,pt⟩,hb⟩
 ·refine aX (fun _ _=>False) ?_ (fun _ _ z=>z.elim);left;exact mI gh aG ⟨AA,L,M,i,rfl,hc,fun z e hz=>(by rw [hn z e] at hz;cases hz),fun _=>q H (ag.refl H)⟩
 ·right;refine mI gh aG (eS i hz ?_);refine aX (fun _ _=>False) ?_ (fun _ _ z=>z.elim);left;exact .inr ⟨hb,q⟩
 ·right;refine mI gh aG (eS i hz (ai ?_));left;refine .inl ⟨t,rfl,pt.l1,pt.l2,pt.all,fun H1 l p s1 _ _ _=>?_⟩;rcases hb with ⟨⟨⟨ty,hc⟩,hm⟩ | ⟨rfl,hm,⟨ty,hc⟩,hr'⟩,rfl⟩
  ·refine aX (fun _ _=>False) ?_ (fun _ _ z=>z.elim);left;exact .inr ⟨⟨ty,iD s1 hc⟩,hm,q _ s1⟩
  ·right;refine .inl ⟨hm,?_⟩;refine aX (fun _ _=>False) ?_ (fun _ _ z=>z.elim);left;exact .inr ⟨⟨ty,iD s1 hc⟩,hr',q _ s1⟩
def Qb:aq P w K mg base (aR P w) 15 T.pK.f T.pK.d ["house","asker","path","text"] (fun vs H _ E=>∃ A L M va vp vx C,vs=[.ref A.a,va,vp,vx]/\aI T.aD T.aJ T.aM H A L M/\(ed T H M va vp C\/∃ z t,fV M va vp z t/\(∃ ty,clsName H vx=some ty)/\kT vx=true/\C=T.cw)/\∀ H',ag H H'->E (.ref C) none H'):=by
 have eE:=fj (fL (P:=P) (w:=w) (base:=base) T).cx (jQ (P:=P) (w:=w) (base:=base) T);have EU:=fj (CU (P:=P) (w:=w) (base:=base) T).cx (Lh (P:=P) (w:=w) (base:=base) T);refine T.pK.F.br ZQ (fun vs H Q E h=>by obtain ⟨_,_,_,_,_,_,_,e,_⟩:=h;rw [e];rfl) (fun _ A _ s H vs Q E hr h=>?_);obtain ⟨AA,L,M,va,vp,vx,C,rfl,i,hb,q⟩:=h;obtain ⟨bG,gc,gh,bF,aG⟩:=i.h;refine aY (b:=aN yR) ((ad (aL (bf T.aE T.cJ.h (gi T) hr.m T.cJ.b .nil aQ (ac 0) (aa (ac 1) ae)))
   (ad (aL (bg eE hr.m T.bq.m T.bq.F.kp T.bq.b .nil aQ (aa (ac 2) ae)))
   (ad (aL (bg EU hr.m T.gj.m T.gj.F.kp T.gj.b .nil aQ (aa (ac 3) ae)))
   (ad ck
   (ad ck
   (ah ck))))))) ?_
 refine stI [some (V.ref AA.a),some va,some vp,some vx,none] ?_;rcases hb with (⟨hc,hn⟩ | ⟨rfl,hz,hb⟩) | ⟨z,t,⟨rfl,hz,rfl,pt⟩,hb⟩
 ·refine aX (fun _ _=>False) ?_ (fun _ _ z=>z.elim);left;exact mI gh aG ⟨AA,L,M,i,rfl,hc,fun z e hz=>(by rw [hn z e] at hz;cases hz),fun _=>q H (ag.refl H)⟩
 ·right;refine mI gh aG (eS i hz ?_);refine aX (fun _ _=>False) ?_ (fun _ _ z=>z.elim);left;exact .inr ⟨hb,q⟩
 ·right;refine mI gh aG (eS i hz (ai ?_));left;refine .inl ⟨t,rfl,pt.l1,pt.l2,pt.all,fun H1 l p s1 _ _ _=>?_⟩;obtain ⟨⟨ty,hc⟩,hx,rfl⟩:=hb;refine aX (fun _ _=>False) ?_ (fun _ _ z=>z.elim);left;exact .inr ⟨⟨ty,iD s1 hc⟩,hx,q _ s1⟩
def Qv:aq P w K mg base (aR P w) 4 T.pq.f T.pq.d ["house","asker","path","other"] (fun vs H _ E=>∃ A L M va vp vo C,vs=[.ref A.a,va,vp,vo]/\aI T.aD T.aJ T.aM H A L M/\(ed T H M va vp C\/∃ z t,fV M va vp z t/\ff H vo/\C=T.bN)/\∀ H',ag H H'->E (.ref C) none H'):=by
 have eE:=fj (fL (P:=P) (w:=w) (base:=base) T).cx (jQ (P:=P) (w:=w) (base:=base) T);refine T.pq.F.br Xv (fun vs H Q E h=>by obtain ⟨_,_,_,_,_,_,_,e,_⟩:=h;rw [e];rfl) (fun _ A _ s H vs Q E hr h=>?_);obtain ⟨AA,L,M,va,vp,vo,C,rfl,i,hb,q⟩:=h;obtain ⟨bG,gc,gh,bF,aG⟩:=i.h;refine aY (b:=aN yK) ((ad (aL (bf T.aE T.cJ.h (gi T) hr.m T.cJ.b .nil aQ (ac 0) (aa (ac 1) ae)))
   (ad (aL (bg eE hr.m T.bq.m T.bq.F.kp T.bq.b .nil aQ (aa (ac 2) ae)))
   (ah (aL (bg eE hr.m T.bq.m T.bq.F.kp T.bq.b .nil aQ (aa (ac 3) ae))))))) ?_
 refine stI [some (V.ref AA.a),some va,some vp,some vo] ?_;rcases hb with (⟨hc,hn⟩ | ⟨rfl,hz,hb⟩) | ⟨z,t,⟨rfl,hz,rfl,pt⟩,hb⟩
 ·refine aX (fun _ _=>False) ?_ (fun _ _ z=>z.elim);left;exact mI gh aG ⟨AA,L,M,i,rfl,hc,fun z e hz=>(by rw [hn z e] at hz;cases hz),fun _=>q H (ag.refl H)⟩
 ·right;refine mI gh aG (eS i hz ?_);refine aX (fun _ _=>False) ?_ (fun _ _ z=>z.elim);left;exact .inr ⟨hb,q⟩
 ·right;refine mI gh aG (eS i hz (ai ?_));left;refine .inl ⟨t,rfl,pt.l1,pt.l2,pt.all,fun H1 l p s1 _ _ _=>?_⟩;obtain ⟨hb,rfl⟩:=hb;left;exact .inr ⟨JX s1 hb,fun H' s'=>q H' (s1.trans s')⟩
def ade:aq P w K mg base (aR P w) 15 T.pF.f T.pF.d ["house","asker","path","other"] (fun vs H _ E=>∃ A L M va vp vo C,vs=[.ref A.a,va,vp,vo]/\aI T.aD T.aJ T.aM H A L M/\(ed T H M va vp C\/∃ z t,fV M va vp z t/\ff H vo/\C=T.bN)/\∀ H',ag H H'->E (.ref C) none H'):=by
 refine T.pF.F.br Zp (fun vs H Q E h=>by obtain ⟨_,_,_,_,_,_,_,e,_⟩:=h;rw [e];rfl) (fun _ A _ s H vs Q E hr h=>?_);obtain ⟨AA,L,M,va,vp,vo,C,rfl,h⟩:=h;refine aY (b:=aN yC) ((ad (aL (bg (Qv T) hr.m T.pq.m T.pq.F.kp T.pq.b .nil aQ (aa (ac 0) (aa (ac 1) (aa (ac 2) (aa (ac 3) ae))))))
   (ad ck
   (ad ck
   (ad ck
   (ad ck
   (ad ck
   (ad ck
   (ad ck
   (ah ck)))))))))) ?_
 refine stI [some (V.ref AA.a),some va,some vp,some vo,none,none] ?_;refine aX (fun _ _=>False) ?_ (fun _ _ z=>z.elim);left;exact ⟨AA,L,M,va,vp,vo,C,rfl,h⟩
def U2:gM K T.bW:=⟨T.UJ,T.Zc,T.ach,T.S4,T.Yi,T.P8,T.adH⟩
def adt:gM K T.bN:=⟨T.ZP,T.Tg,T.QY,T.abJ,T.RT,T.YM,T.YX⟩
def acv:gM K T.cB:=⟨T.RI,T.Qp,T.PX,T.XB,T.YF,T.Qh,T.acs⟩
def abY:gM K T.bV:=⟨T.Ul,T.aai,T.U8,T.Zq,T.aaz,T.Z4,T.Q9⟩
def TX:gM K T.cw:=⟨T.abg,T.adN,T.Wa,T.Sw,T.YC,T.Tu,T.WB⟩
def RA:gM K T.cD:=⟨T.Sr,T.acd,T.Vv,T.adJ,T.Z8,T.abm,T.Rh⟩
def adP:gM K T.bH:=⟨T.Sa,T.PR,T.Wf,T.XT,T.U1,T.Xh,T.acC⟩
structure jE (T:Tx K mg) (C:Addr) (j:Nat):Prop where
 z:gM K C
 l:W.subIn K (.ref C) (.ref T.jc)=some true
 v:W.kitOne K (.ref C) (.type "ValueError")=some true
 k0:W.kitOne K (.ref C) (.ref T.bW)=some (j == 0)
 k1:W.kitOne K (.ref C) (.ref T.bN)=some (j == 1)
 k2:W.kitOne K (.ref C) (.ref T.cB)=some (j == 2)
 k3:W.kitOne K (.ref C) (.ref T.bV)=some (j == 3)
 k4:W.kitOne K (.ref C) (.ref T.cw)=some (j == 4)
 k5:W.kitOne K (.ref C) (.ref T.cD)=some (j == 5)
 k6:W.kitOne K (.ref C) (.ref T.bH)=some (j == 6)
 k7:W.kitOne K (.ref C) (.ref T.kj)=some (j == 7)
 k8:W.kitOne K (.ref C) (.ref T.kg)=some (j == 8)
 k9:W.kitOne K (.ref C) (.ref T.gn)=some (j == 9)
 kQ:W.kitOne K (.ref C) (.ref T.gu)=some (j == 10)
def xg:jE T T.bW 0:=⟨U2 T,T.TM,T.Vu,T.XU,T.SO,T.acV,T.Ye,T.aan,T.Yr,T.Q5,T.YE,T.Yy,T.Um,T.UY⟩
def Mx:jE T T.bN 1:=⟨adt T,T.T3,T.XA,T.adD,T.QK,T.Yx,T.VJ,T.Xf,T.Sn,T.XQ,T.WU,T.Uv,T.XI,T.ab2⟩
def HB:jE T T.cB 2:=⟨acv T,T.ZO,T.Xw,T.adF,T.Ph,T.acP,T.aaQ,T.UH,T.UB,T.W2,T.V9,T.TJ,T.R3,T.Zd⟩
def Lw:jE T T.bV 3:=⟨abY T,T.S8,T.ab9,T.T4,T.abw,T.OV,T.T7,T.acD,T.aat,T.Rx,T.Te,T.abX,T.VX,T.WT⟩
def OK:jE T T.cw 4:=⟨TX T,T.WO,T.Ra,T.ZI,T.TK,T.ab7,T.XF,T.aam,T.Ri,T.Xx,T.Zj,T.Pp,T.Qs,T.Zf⟩
def Hi:jE T T.cD 5:=⟨RA T,T.aaD,T.Xg,T.Qw,T.VB,T.Xz,T.Ww,T.Vs,T.acF,T.ac6,T.Qq,T.UU,T.YB,T.QM⟩
def LK:jE T T.bH 6:=⟨adP T,T.ac8,T.R7,T.Y5,T.W3,T.WN,T.O0,T.XJ,T.Xc,T.Yk,T.acu,T.VC,T.WE,T.Sl⟩
def bX {σ:St}:fD [] σ []:=⟨rfl,nofun⟩
def az {j:Nat} {ix:List Nat} {σ:St} {v:V} {vs:List V} (h:σ[j]?=some (some v)) (c:fD ix σ vs):fD (j::ix) σ (v::vs):=⟨PP (· + 1) c.1,fun i k u h1 h2=>by
 cases i with
 | zero=>cases h1;cases h2;exact h
 | succ i=>exact c.2 i k u h1 h2⟩
def aaf {tt:TT} {te:TE} {H:Hp} {Q:VK} {vs:List V} (m:Nat) (p:Nat->Bool) (f:Nat->V) (hm:m<=1000) (ht:∀ k,k < m->∀ R:Bool->Hp->Prop,R (p k) H->tt (some (.int (k:Int))::vs.map some) H R) (he:∀ k,k < m->∀ R:VK,R (f k) H->te (some (.int (k:Int))::vs.map some) H R)
  (q:∀ l,H l=none->Q (.ref l) (upd H l (.lst (((List.range m).filter p).map f)))):nR (kN 0 ((m:Int)).toNat) 1 vs (fT 0) tt te Q H:=by
 have hsz:m<=sizeLine:=fits hm;refine ⟨fun i zs k H1=>H1=H/\zs=((List.range i).filter p).map f/\i<=m/\k=m - i,⟨_,rfl,rfl,Do _,rfl⟩,?_⟩;rintro i zs k H1 ⟨rfl,rfl,hi,rfl⟩;have hlen:(((List.range i).filter p).map f).length<=i:=by rw [pp];exact wE (SC _ _) (by simp)
 refine ⟨by omega,?_⟩;by_cases h:i < m
 ·refine .inr ⟨show i < ((m:Int)).toNat by omega,by omega,?_⟩;rintro v H' ⟨rfl,rfl⟩ σ0 hσ0;obtain ⟨a,rfl⟩:=xF hσ0;have e0:(0+(i:Int))=(i:Int):=by omega
  refine ⟨⟨[some (.int (0+(i:Int)))],rfl,rfl⟩,?_⟩;rw [e0];refine ht i h _ ?_;cases hp:p i with
  | true =>
   rw [AT rfl];exact he i h _ ⟨m - (i+1),by omega,rfl,by rw [List.range_succ,_R,NE];simp [hp],h,rfl⟩
  | false =>
   rw [zn (by decide)];exact ⟨m - (i+1),by omega,rfl,by rw [List.range_succ,_R,NE];simp [hp],h,rfl⟩
 ·have e:i=m:=by omega
  subst e;exact .inl ⟨show ((i:Int)).toNat<=i by omega,fun l hl=>q l hl⟩
def gE:List Str:=["asker","path","name","rights","text","tree","thing","hold","row","way","deed"]
def Sf {j:Nat} (h:j < 11) (f:Nat->V):((List.range 11).filter (fun k=>j == k)).map f=[f j]:=by
 have H:∀ j < 11,(List.range 11).filter (fun k=>j == k)=[j]:=by decide
 rw [H j h];rfl
def vO (T:Tx K mg) (Q:VK):XK:=fun C od H'=>∃ c j,C=.ref c/\jE T c j/\∃ wd:Str,(j,wd)∈[(0,("asker":Str)),(1,"path"),(2,"name"),(3,"rights"),(4,"text"),(5,"tree"),(6,"thing")]/\∀ H2,ag H' H2->Q (.str wd) H2
def CJ (T:Tx K mg) (wish:bE):bE:=fun H Q _=>wish H (fun _ _=>False) (vO T Q)
def iR:sr P w K mg base (aR P w) 19 T.cy.f T.cy.d ["_law_ask"] (zX P w K mg base 18 (CJ T)):=by
 refine T.cy.F.YO jl (fun outer s vs H Q E h=>?_) (fun _ A outer s H vs Q E hr h=>?_)
 ·obtain ⟨f,B,wish,rfl,_⟩:=h;rfl
 ·obtain ⟨fl,B,wish,rfl,D0,hB,hf,dm⟩:=h;have D:=D0.m
  replace hf:∀ (H:Hp) (Q:VK) (E:XK),(∃ (Q0:VK) (E0:XK),wish H Q0 E0/\(∀ v H',Q0 v H'->Q v H')/\∀ C od H',E0 C od H'->E C od H')->qu H fl:=fun H Q E ⟨_,_,z,_⟩=>hf H _ _ z
  refine aY (b:=aN CO) ((ad (aO 1 jl.nd aw)
   (ad (acU 2 (K:=K) rfl ⟨rfl,rfl,rfl⟩ jl.nd T.Vh T.TU T.PQ (fun _ _=>by exact (ah (aL (YK 0 D hB hf hr.m Us)))) (fun _=>by exact (ah (aO 1 jl.nd (ac 2)))))
   (ad (aO 3 jl.nd (db (aa (bJ (gR (K:=K) rfl) T.dA du (aa (ac 1) (aa (em (.ref T.bW) T.FD rfl) ae))) (aa (bJ (gR (K:=K) rfl) T.dA du (aa (ac 1) (aa (em (.ref T.bN) T.u0 rfl) ae))) (aa (bJ (gR (K:=K) rfl) T.dA du (aa (ac 1) (aa (em (.ref T.cB) T.Kt rfl) ae))) ae)))))
   (ad (aO 3 jl.nd (dL gT (ac 3) (db (aa (bJ (gR (K:=K) rfl) T.dA du (aa (ac 1) (aa (em (.ref T.bV) T.zL rfl) ae))) (aa (bJ (gR (K:=K) rfl) T.dA du (aa (ac 1) (aa (em (.ref T.cw) T.HM rfl) ae))) (aa (bJ (gR (K:=K) rfl) T.dA du (aa (ac 1) (aa (em (.ref T.cD) T.Hh rfl) ae))) ae))))))
   (ad (aO 3 jl.nd (dL gT (ac 3) (db (aa (bJ (gR (K:=K) rfl) T.dA du (aa (ac 1) (aa (em (.ref T.bH) T.Mi rfl) ae))) (aa (bJ (gR (K:=K) rfl) T.dA du (aa (ac 1) (aa (em (.ref T.kj) T.abN rfl) ae))) (aa (bJ (gR (K:=K) rfl) T.dA du (aa (ac 1) (aa (em (.ref T.kg) T.aaS rfl) ae))) ae))))))
   (ad (aO 3 jl.nd (dL gT (ac 3) (db (aa (bJ (gR (K:=K) rfl) T.dA du (aa (ac 1) (aa (em (.ref T.gn) T.FG rfl) ae))) (aa (bJ (gR (K:=K) rfl) T.dA du (aa (ac 1) (aa (em (.ref T.gu) T.rh rfl) ae))) ae)))))
   (ad (aO 4 jl.nd (db (aa ap (aa ap (aa ap (aa ap (aa ap (aa ap (aa ap (aa ap (aa ap (aa ap (aa ap ae)))))))))))))
   (ad (xA 5 rfl jl.nd (TN:=["_law_k"]) (caps:=["_law_some","_law_words"]) (ix:=[3,4]) (K6 T.G1 (aa bi ae)) (fun _ _ _ _=>by exact (pP (cO (dl (bI (K:=K) rfl) (ac 1) (ac 0))))) (fun _ _ _ _=>by exact (hX 0 (show List.Nodup (["_law_k","_law_some","_law_words"]:List Str) by decide))) (fun _ _ _ _=>by exact (dl (bI (K:=K) rfl) (ac 2) (ac 0))) (.of rfl (by exact ⟨rfl,rfl,trivial⟩) (by walk_at "c") rfl (by exact ⟨⟨rfl,rfl,rfl,rfl⟩,⟨rfl,rfl,rfl,rfl⟩,trivial⟩)))
   (ad (aW (gk (io (bw fk (bJ (gN (K:=K) rfl) T.gv IR (aa (ac 5) ae)) bi) (i0 (cX (cO (bJ (gR (K:=K) rfl) T.dA du (aa (ac 1) (aa (gY (.ty "ValueError") T.U0 WR rfl) ae)))))))) (ah (aK ap)) cr)
   (ah (aK (dl (bI (K:=K) rfl) (ac 5) bi))))))))))))) ?_
  refine stI [some (.ref fl),none,none,none,none,none] ?_;right;refine aX (fun σ' H'=>∃ ea c od j tt,∃ wd:Str,σ'=[some (.ref fl),some (.ref ea),tt,none,none,none]/\H' ea=some (mR ea c od)/\jE T c j/\(j,wd)∈[(0,("asker":Str)),(1,"path"),(2,"name"),(3,"rights"),(4,"text"),(5,"tree"),(6,"thing")]/\∀ H2,ag H' H2->Q (.str wd) H2) ?_ ?_
  ·refine ⟨fun σ' C od H'=>σ'=[some (.ref fl),some .aw,none,none,none,none]/\vO T Q C od H',?_,?_⟩
   ·left;exact ⟨by trivial,_,_,dm,fun v H' z=>z.elim,fun C od H' z=>⟨rfl,z⟩⟩
   ·rintro σ' C od H' ⟨rfl,z⟩;obtain ⟨c,j,e,xc,wd,hw,q⟩:=z;cases e;refine ⟨xc.l,fun ea EX=>?_⟩;have sE:=ag.upd (o:=mR ea C od) EX;left;exact ⟨ea,_,od,j,_,wd,rfl,ay,xc,hw,fun H2 s2=>q H2 (sE.trans s2)⟩
  ·rintro σ' H1 ⟨ea,cE,od,j,tt,wd,rfl,he,xc,hw,q⟩;have ty:∀ H2,ag H1 H2->rn K H2 (.ref ea) (.ref cE) true:=fun H2 s2=>.exc (s2 _ _ he) xc.z;right;refine ⟨_,_,_,(ty _ (ag.refl _)),.cls xc.k0,_,_,_,(ty _ (ag.refl _)),.cls xc.k1,_,_,_,(ty _ (ag.refl _)),.cls xc.k2,fits (by simp),fun p hp=>?_⟩;refine eV hp fun H2 s2 b2=>?_;right;refine ⟨_,_,_,(ty _ s2),.cls xc.k3,_,_,_,(ty _ s2),.cls xc.k4,_,_,_,(ty _ s2),.cls xc.k5,fits (by simp),fun p3 i9=>?_⟩;simp only [(ag.upd (o:=.lst [V.bl (j == 3),V.bl (j == 4),V.bl (j == 5)]) i9) _ _ b2,ay];refine ⟨fits (by simp),fun p4 uB=>?_⟩;have s4:=s2.trans ((ag.upd (o:=.lst [V.bl (j == 3),V.bl (j == 4),V.bl (j == 5)]) i9).trans (ag.upd (o:=.lst ([V.bl (j == 0),V.bl (j == 1),V.bl (j == 2)]++[V.bl (j == 3),V.bl (j == 4),V.bl (j == 5)])) uB));have b4:upd (upd H2 p3 (.lst [V.bl (j == 3),V.bl (j == 4),V.bl (j == 5)])) p4 (.lst ([V.bl (j == 0),V.bl (j == 1),V.bl (j == 2)]++[V.bl (j == 3),V.bl (j == 4),V.bl (j == 5)])) p4=some (.lst ([V.bl (j == 0),V.bl (j == 1),V.bl (j == 2)]++[V.bl (j == 3),V.bl (j == 4),V.bl (j == 5)])):=ay;generalize upd (upd H2 p3 (.lst [V.bl (j == 3),V.bl (j == 4),V.bl (j == 5)])) p4 (.lst ([V.bl (j == 0),V.bl (j == 1),V.bl (j == 2)]++[V.bl (j == 3),V.bl (j == 4),V.bl (j == 5)]))=H4 at s4 b4 ⊢;generalize lM:[V.bl (j == 0),V.bl (j == 1),V.bl (j == 2)]++[V.bl (j == 3),V.bl (j == 4),V.bl (j == 5)]=x4 at b4 ⊢;have oK:x4.length=6:=by rw [<- lM];rfl
   clear b2 s2 i9 uB hp;right;refine ⟨_,_,_,(ty _ s4),.cls xc.k6,_,_,_,(ty _ s4),.cls xc.k7,_,_,_,(ty _ s4),.cls xc.k8,fits (by simp),fun p5 uk=>?_⟩;simp only [(ag.upd (o:=.lst [V.bl (j == 6),V.bl (j == 7),V.bl (j == 8)]) uk) _ _ b4,ay];refine ⟨fits (by simp [oK]),fun p6 hp6=>?_⟩;have s6:=s4.trans ((ag.upd (o:=.lst [V.bl (j == 6),V.bl (j == 7),V.bl (j == 8)]) uk).trans (ag.upd (o:=.lst (x4++[V.bl (j == 6),V.bl (j == 7),V.bl (j == 8)])) hp6));have b6:upd (upd H4 p5 (.lst [V.bl (j == 6),V.bl (j == 7),V.bl (j == 8)])) p6 (.lst (x4++[V.bl (j == 6),V.bl (j == 7),V.bl (j == 8)])) p6=some (.lst (x4++[V.bl (j == 6),V.bl (j == 7),V.bl (j == 8)])):=ay;generalize upd (upd H4 p5 (.lst [V.bl (j == 6),V.bl (j == 7),V.bl (j == 8)])) p6 (.lst (x4++[V.bl (j == 6),V.bl (j == 7),V.bl (j == 8)]))=H6 at s6 b6 ⊢;generalize uv:x4++[V.bl (j == 6),V.bl (j == 7),V.bl (j == 8)]=x6 at b6 ⊢;have Nk:x6.length=9:=by rw [<- uv];simp [oK]
   clear b4 s4 uk hp6;right;refine ⟨_,_,_,(ty _ s6),.cls xc.k9,_,_,_,(ty _ s6),.cls xc.kQ,fits (by simp),fun p7 hp7=>?_⟩;simp only [(ag.upd (o:=.lst [V.bl (j == 9),V.bl (j == 10)]) hp7) _ _ b6,ay];refine ⟨fits (by simp [Nk]),fun p8 hp8=>?_⟩;have NA:x6++[V.bl (j == 9),V.bl (j == 10)]=(List.range 11).map fun i=>V.bl (j == i):=by rw [<- uv,<- lM];rfl
   rw [NA];have s8:=s6.trans ((ag.upd (o:=.lst [V.bl (j == 9),V.bl (j == 10)]) hp7).trans (ag.upd (o:=.lst ((List.range 11).map fun i=>V.bl (j == i))) hp8));have b8:upd (upd H6 p7 (.lst [V.bl (j == 9),V.bl (j == 10)])) p8 (.lst ((List.range 11).map fun i=>V.bl (j == i))) p8=some (.lst ((List.range 11).map fun i=>V.bl (j == i))):=ay;generalize upd (upd H6 p7 (.lst [V.bl (j == 9),V.bl (j == 10)])) p8 (.lst ((List.range 11).map fun i=>V.bl (j == i)))=H8 at s8 b8 ⊢;clear b6 s6 hp7 hp8 NA uv lM oK Nk;right;refine ⟨fits (by simp),fun p9 hp9=>?_⟩;have s9:=s8.trans (ag.upd (o:=.lst (gE.map V.str)) hp9);have b9:upd H8 p9 (.lst (gE.map V.str)) p9=some (.lst (gE.map V.str)):=ay;have c9:=(ag.upd (o:=.lst (gE.map V.str)) hp9) _ _ b8;change kH _ _ _ _ (upd H8 p9 (.lst (gE.map V.str)));generalize upd H8 p9 (.lst (gE.map V.str))=H9 at s9 b9 c9 ⊢;clear s8 b8 hp9;right;refine ⟨[.ref p8,.ref p9],az rfl (az rfl bX),⟨by decide,by decide⟩,aaf 11 (fun k=>j == k) (fun k=>V.str ((gE[k]?).getD "")) (by decide) (fun k hk R hR=>?_) (fun k hk R hR=>?_) (fun l hl=>?_)⟩
   ·rw [show ([V.ref p8,V.ref p9]:List V).map some=[some (V.ref p8),some (V.ref p9)] from rfl];left;simp only [bR,c9];rw [lK (j:=k) (v:=V.bl (j == k)) (by rw [Da,List.getElem?_range hk];rfl)];exact hR
   ·rw [show ([V.ref p8,V.ref p9]:List V).map some=[some (V.ref p8),some (V.ref p9)] from rfl];left;simp only [bR,b9];have hk':k < gE.length:=hk;rw [lK (j:=k) (v:=V.str ((gE[k]?).getD "")) (by rw [Da,mo hk'];rfl)];exact hR
   have hj:j < 11:=by
    simp only [pi,Prod.mk.injEq,ss,AC] at hw;omega
   rw [Sf hj];have mZ:=s9.trans (ag.upd (o:=.lst [V.str ((gE[j]?).getD "")]) hl);have uj:upd H9 l (.lst [V.str ((gE[j]?).getD "")]) l=some (.lst [V.str ((gE[j]?).getD "")]):=ay;generalize upd H9 l (.lst [V.str ((gE[j]?).getD "")])=oQ at mZ uj ⊢;clear s9 b9 c9 hl;right;simp only [bR,uj];refine fJ (by simp) ⟨_,_,_,ty _ mZ,.ty xc.v,fJ (by decide) ?_⟩;left;simp only [bR,uj,ly];have oR:(gE[j]?).getD "" = wd:=by
    simp only [pi,Prod.mk.injEq,ss,AC] at hw;rcases hw with ⟨rfl,rfl⟩ | ⟨rfl,rfl⟩ | ⟨rfl,rfl⟩ | ⟨rfl,rfl⟩ | ⟨rfl,rfl⟩ | ⟨rfl,rfl⟩ | ⟨rfl,rfl⟩ <;> symm
   rw [oR];exact q _ mZ
def HC:Stmt->Expr
 | .If (.Compare (.Call _ (e::_) _ _) _ _ _) _ _ _=>e
 | .Return (some (.Compare (.Call _ (e::_) _ _) _ _ _)) _=>e
 | .Return (some (.BoolOp _ (_::.Compare (.Call _ (e::_) _ _) _ _ _::_) _)) _=>e
 | .Assign _ (.List (e::_) _) _=>e
 | .Expr (.Call _ (e::_) _ _) _=>e
 | _=>.Constant .none 0 ⟨0,0,0,0⟩
def kM:Expr->Scope
 | .Lambda _ _ sc _=>sc
 | _=>ax tV
def CL:Expr->Arguments
 | .Lambda a _ _ _=>a
 | _=>fe tV
def rG:Expr->Expr
 | .Lambda _ b _ _=>b
 | e=>e
def LM (e:Expr) (cl:List (Str×Addr)):Lm:=⟨CL e,rG e,kM e,cl⟩
def fg {X:Cx} {k:Nat} {q:Str} {e:Expr} {cl:List (Str×Addr)} {ix:List Nat} {W:List V->bE} (N:List Str) (S:oA N (kM e) cl) (C:qb X N ix cl) (hb:∀ pm cd ct,bindArgs (PySem.W.kla_fn "<lambda>" q (CL e) (rG e) (kM e) cl pm cd ct) ⟨[],[]⟩=pure [])
  (h:∀ (f:Addr) (cdv:Value) (vs:List V) (A:Around) (outer:List Env) (s:Shared) (H:Hp) (Q:VK) (E:XK),bc k (A.deeper (PySem.W.envX q (kM e) s.heap.objs.size f cdv cl))->W vs H Q E->∃ t,PE (kD X.prog X.w X.K X.mg X.base N q (kM e) f cdv cl A outer s H E) (rG e) t/\t (vs.map some) H Q):∃ N',Cw X k q (LM e cl) ix W N':=⟨N,S,C,hb,h⟩
def lE {P:Program} {w:World} {K:ν} {mg:Str->Option Value} {base:Heap} {k:Nat} {q:Str} {e:Expr} {cl:List (Str×Addr)} {W:List V->bE} (N:List Str) (S:oA N (kM e) cl) (hs:∀ p∈cl,p.1∈N) (hb:∀ pm cd ct,bindArgs (PySem.W.kla_fn "<lambda>" q (CL e) (rG e) (kM e) cl pm cd ct) ⟨[],[]⟩=pure [])
  (h:∀ (f:Addr) (cdv:Value) (vs:List V) (A:Around) (outer:List Env) (s:Shared) (H:Hp) (Q:VK) (E:XK),bc k (A.deeper (PySem.W.envX q (kM e) s.heap.objs.size f cdv cl))->W vs H Q E->∃ t,PE (kD P w K mg base N q (kM e) f cdv cl A outer s H E) (rG e) t/\t (vs.map some) H Q):wb P w K mg base k q (LM e cl) W N:=⟨S,fun x c e=>hs _ (Db e),hb,h⟩
abbrev Ji:List Str:=["_law_house","_law_way","_law_asker","_law_path","_law_other","_law_mine","_law_rest","_law_text","_law_some"]
abbrev dk:Str := "_law_deed.<locals>.<lambda>"
abbrev lb (k:Nat):Expr:=HC ((aN rX).getD k (.Pass ⟨0,0,0,0⟩))
abbrev IX (n:Nat):List (Str×Addr):=[("_law_rest",n+6),("_law_path",n+3),("_law_mine",n+5),("_law_house",n+1),("_law_asker",n+2)]
def mL (n:Nat):Lm:=LM (lb 0) (IX n)
abbrev adA (n:Nat):List (Str×Addr):=[("_law_text",n+7),("_law_rest",n+6),("_law_path",n+3),("_law_mine",n+5),("_law_house",n+1),("_law_asker",n+2)]
def vN (n:Nat):Lm:=LM (lb 1) (adA n)
abbrev F4 (n:Nat):List (Str×Addr):=[("_law_path",n+3),("_law_other",n+4),("_law_house",n+1),("_law_asker",n+2)]
def vz (n:Nat):Lm:=LM (lb 2) (F4 n)
def xE (n:Nat):Lm:=LM (lb 3) (F4 n)
abbrev Cf (n:Nat):List (Str×Addr):=[("_law_path",n+3),("_law_house",n+1),("_law_asker",n+2)]
def vX (n:Nat):Lm:=LM (lb 4) (Cf n)
def xu (n:Nat):Lm:=LM (lb 5) (IX n)
def vL (n:Nat):Lm:=LM (lb 6) (Cf n)
abbrev Qi (n:Nat):List (Str×Addr):=[("_law_text",n+7),("_law_path",n+3),("_law_house",n+1),("_law_asker",n+2)]
def wX (n:Nat):Lm:=LM (lb 7) (Qi n)
def uS (n:Nat):Lm:=LM (lb 8) (Cf n)
abbrev Aq:List Str:=["_law_house","_law_cell","_law_asker","_law_number","_law_name","_law_right_here","_law_tree","_law_some"]
abbrev cN:Str := "_law_questions.<locals>.<lambda>"
abbrev fh (k:Nat):Expr:=HC ((aN qz).getD k (.Pass ⟨0,0,0,0⟩))
abbrev Fx (n:Nat):List (Str×Addr):=[("_law_house",n+1),("_law_asker",n+2)]
def GG (n:Nat):Lm:=LM (fh 5) (Fx n)
def Ly (n:Nat):Lm:=LM (fh 6) (Fx n)
abbrev adq (n:Nat):List (Str×Addr):=[("_law_right_here",n+5),("_law_number",n+4),("_law_house",n+1),("_law_asker",n+2)]
def Mv (n:Nat):Lm:=LM (fh 7) (adq n)
abbrev V3 (n:Nat):List (Str×Addr):=[("_law_right_here",n+5),("_law_number",n+4),("_law_house",n+1)]
def Ke (n:Nat):Lm:=LM (fh 8) (V3 n)
abbrev kJ (n:Nat):List (Str×Addr):=[("_law_number",n+4),("_law_house",n+1)]
def IP (n:Nat):Lm:=LM (fh 9) (kJ n)
abbrev Y6 (n:Nat):List (Str×Addr):=[("_law_number",n+4),("_law_name",n+3),("_law_house",n+1)]
def Jb (n:Nat):Lm:=LM (fh 10) (Y6 n)
abbrev Qn (n:Nat):List (Str×Addr):=[("_law_name",n+3),("_law_house",n+1)]
def Fp (n:Nat):Lm:=LM (fh 11) (Qn n)
abbrev J2 (n:Nat):List (Str×Addr):=[("_law_tree",n+6),("_law_house",n+1)]
def K2 (n:Nat):Lm:=LM (fh 12) (J2 n)
def Ij (n:Nat):Lm:=LM (fh 13) (J2 n)
def nQ (n:Nat):Lm:=LM (fh 14) (kJ n)
def AW (n:Nat):Lm:=LM (fh 15) (kJ n)
def An (n:Nat):Lm:=LM (fh 16) (kJ n)
def CV (n:Nat):Lm:=LM (fh 17) (kJ n)
def Cz (n:Nat):Lm:=LM (fh 18) (kJ n)
def zB (n:Nat):Lm:=LM (fh 19) (kJ n)
def B3 (n:Nat):Lm:=LM (fh 20) (kJ n)
def zT (n:Nat):Lm:=LM (fh 21) (kJ n)
def Ml (T:Tx K mg):Sp:=fun vs H _ E=>∃ A L M va vp vm vr C,vs=[.ref A.a,va,vp,vm,vr]/\aI T.aD T.aJ T.aM H A L M/\(ed T H M va vp C\/∃ z t,fV M va vp z t/\iy H vm vr/\C=T.bV)/\∀ H',ag H H'->E (.ref C) none H'
def aaX (T:Tx K mg):Sp:=fun vs H _ E=>∃ A L M va vp vx vm vr C,vs=[.ref A.a,va,vp,vx,vm,vr]/\aI T.aD T.aJ T.aM H A L M/\(ed T H M va vp C\/∃ z t,fV M va vp z t/\(iy H vm vr/\C=T.bV\/∃ y y',vm=.str y/\y∈er/\vr=.str y'/\y'∈er/\(∃ ty,clsName H vx=some ty)/\kT vx=true/\C=T.cw))/\∀ H',ag H H'->E (.ref C) none H'
def YS (T:Tx K mg):Sp:=fun vs H _ E=>∃ A L M va vp vl C,vs=[.ref A.a,va,vp,vl]/\aI T.aD T.aJ T.aM H A L M/\(ed T H M va vp C\/∃ z t,fV M va vp z t/\zS H vl/\C=T.bN)/\∀ H',ag H H'->E (.ref C) none H'
def SN (T:Tx K mg):Sp:=fun vs H _ E=>∃ A L M va vp vo C,vs=[.ref A.a,va,vp,vo]/\aI T.aD T.aJ T.aM H A L M/\(ed T H M va vp C\/∃ z t,fV M va vp z t/\ff H vo/\C=T.bN)/\∀ H',ag H H'->E (.ref C) none H'
def adK (T:Tx K mg):Sp:=fun vs H _ E=>∃ A L M va vp vx C,vs=[.ref A.a,va,vp,vx]/\aI T.aD T.aJ T.aM H A L M/\(ed T H M va vp C\/∃ z t,fV M va vp z t/\(∃ ty,clsName H vx=some ty)/\kT vx=true/\C=T.cw)/\∀ H',ag H H'->E (.ref C) none H'
inductive fQ (T:Tx K mg) (n:Nat):Nat->Lm->List Str->List Nat->(List V->bE)->Prop
 | r0:fQ T n 0 (mL n) ["_law_house","_law_asker","_law_path","_law_mine","_law_rest"] [0,2,3,5,6] (Ml T)
 | r1:fQ T n 1 (vN n) ["_law_house","_law_asker","_law_path","_law_text","_law_mine","_law_rest"] [0,2,3,7,5,6] (aaX T)
 | r2:fQ T n 2 (vz n) ["_law_house","_law_asker","_law_path","_law_other"] [0,2,3,4] (YS T)
 | r3:fQ T n 3 (xE n) ["_law_house","_law_asker","_law_path","_law_other"] [0,2,3,4] (SN T)
 | r4:fQ T n 4 (vX n) ["_law_house","_law_asker","_law_path"] [0,2,3] (kX T)
 | r5:fQ T n 5 (xu n) ["_law_house","_law_asker","_law_path","_law_mine","_law_rest"] [0,2,3,5,6] (Ml T)
 | r6:fQ T n 6 (vL n) ["_law_house","_law_asker","_law_path"] [0,2,3] (kX T)
 | r7:fQ T n 7 (wX n) ["_law_house","_law_asker","_law_path","_law_text"] [0,2,3,7] (adK T)
 | r8:fQ T n 8 (uS n) ["_law_house","_law_asker","_law_path"] [0,2,3] (kX T)
def Jj (T:Tx K mg) {n k:Nat} {l:Lm} {N':List Str} {ix:List Nat} {W:List V->bE} (r:fQ T n k l N' ix W):wb P w K mg base 17 dk l W N':=by
 cases r with
 | r0 =>
  refine lE ["_law_house","_law_asker","_law_path","_law_mine","_law_rest"] (.of rfl rfl rfl (by symm) (by symm) ⟨fun _=>⟨_,rfl⟩,fun _=>⟨_,rfl⟩,fun _=>⟨_,rfl⟩,fun _=>⟨_,rfl⟩,fun _=>⟨_,rfl⟩,(fun z=>nomatch z),trivial⟩ (by simp)) (by simp) (fun _ _ _=>rfl) fun f cdv vs A outer s H Q E hr h=>?_;obtain ⟨AA,L,M,va,vp,vm,vr,C,rfl,h'⟩:=h;refine ⟨_,(bg (Wr T) hr.m T.Gs T.pV.kp T.zU .nil di (aa (ac 0) (aa (ac 1) (aa (ac 2) (aa (ac 3) (aa (ac 4) ae)))))).h,?_⟩;simp only [ut,At];left;exact ⟨AA,L,M,va,vp,vm,vr,C,rfl,h'⟩
 | r1 =>
  refine lE ["_law_house","_law_asker","_law_path","_law_text","_law_mine","_law_rest"] (.of rfl rfl rfl (by symm) (by symm) ⟨fun _=>⟨_,rfl⟩,fun _=>⟨_,rfl⟩,fun _=>⟨_,rfl⟩,fun _=>⟨_,rfl⟩,fun _=>⟨_,rfl⟩,fun _=>⟨_,rfl⟩,(fun z=>nomatch z),trivial⟩ (by simp)) (by simp) (fun _ _ _=>rfl) fun f cdv vs A outer s H Q E hr h=>?_;obtain ⟨AA,L,M,va,vp,vx,vm,vr,C,rfl,h'⟩:=h;refine ⟨_,(bg (acI T) hr.m T.Hq T.pf.kp T.DD .nil di (aa (ac 0) (aa (ac 1) (aa (ac 2) (aa (ac 3) (aa (ac 4) (aa (ac 5) ae))))))).h,?_⟩;simp only [ut,At];left;exact ⟨AA,L,M,va,vp,vx,vm,vr,C,rfl,h'⟩
 | r2 =>
  refine lE ["_law_house","_law_asker","_law_path","_law_other"] (.of rfl rfl rfl (by symm) (by symm) ⟨fun _=>⟨_,rfl⟩,fun _=>⟨_,rfl⟩,fun _=>⟨_,rfl⟩,fun _=>⟨_,rfl⟩,(fun z=>nomatch z),trivial⟩ (by simp)) (by simp) (fun _ _ _=>rfl) fun f cdv vs A outer s H Q E hr h=>?_;obtain ⟨AA,L,M,va,vp,vl,C,rfl,h'⟩:=h;refine ⟨_,(bg (RK T) hr.m T.iq.m T.iq.F.kp T.iq.b .nil di (aa (ac 0) (aa (ac 1) (aa (ac 2) (aa (ac 3) ae))))).h,?_⟩;simp only [ut,At];left;exact ⟨AA,L,M,va,vp,vl,C,rfl,h'⟩
 | r3 =>
  refine lE ["_law_house","_law_asker","_law_path","_law_other"] (.of rfl rfl rfl (by symm) (by symm) ⟨fun _=>⟨_,rfl⟩,fun _=>⟨_,rfl⟩,fun _=>⟨_,rfl⟩,fun _=>⟨_,rfl⟩,(fun z=>nomatch z),trivial⟩ (by simp)) (by simp) (fun _ _ _=>rfl) fun f cdv vs A outer s H Q E hr h=>?_;obtain ⟨AA,L,M,va,vp,vo,C,rfl,h'⟩:=h;refine ⟨_,(bg (ade T) hr.m T.pF.m T.pF.F.kp T.pF.b .nil di (aa (ac 0) (aa (ac 1) (aa (ac 2) (aa (ac 3) ae))))).h,?_⟩;simp only [ut,At];left;exact ⟨AA,L,M,va,vp,vo,C,rfl,h'⟩
 | r4 =>
  refine lE ["_law_house","_law_asker","_law_path"] (.of rfl rfl rfl (by symm) (by symm) ⟨fun _=>⟨_,rfl⟩,fun _=>⟨_,rfl⟩,fun _=>⟨_,rfl⟩,(fun z=>nomatch z),trivial⟩ (by simp)) (by simp) (fun _ _ _=>rfl) fun f cdv vs A outer s H Q E hr h=>?_;obtain ⟨AA,L,M,va,vp,C,rfl,h'⟩:=h;refine ⟨_,(bg (ady T) hr.m T.pM.m T.pM.F.kp T.pM.b .nil di (aa (ac 0) (aa (ac 1) (aa (ac 2) ae)))).h,?_⟩;simp only [ut,At];left;exact ⟨AA,L,M,va,vp,C,rfl,h'⟩
 | r5 =>
  refine lE ["_law_house","_law_asker","_law_path","_law_mine","_law_rest"] (.of rfl rfl rfl (by symm) (by symm) ⟨fun _=>⟨_,rfl⟩,fun _=>⟨_,rfl⟩,fun _=>⟨_,rfl⟩,fun _=>⟨_,rfl⟩,fun _=>⟨_,rfl⟩,(fun z=>nomatch z),trivial⟩ (by simp)) (by simp) (fun _ _ _=>rfl) fun f cdv vs A outer s H Q E hr h=>?_;obtain ⟨AA,L,M,va,vp,vm,vr,C,rfl,h'⟩:=h;refine ⟨_,(bg (YI T) hr.m T.px.m T.px.F.kp T.px.b .nil di (aa (ac 0) (aa (ac 1) (aa (ac 2) (aa (ac 3) (aa (ac 4) ae)))))).h,?_⟩;simp only [ut,At];left;exact ⟨AA,L,M,va,vp,vm,vr,C,rfl,h'⟩
 | r6 =>
  refine lE ["_law_house","_law_asker","_law_path"] (.of rfl rfl rfl (by symm) (by symm) ⟨fun _=>⟨_,rfl⟩,fun _=>⟨_,rfl⟩,fun _=>⟨_,rfl⟩,(fun z=>nomatch z),trivial⟩ (by simp)) (by simp) (fun _ _ _=>rfl) fun f cdv vs A outer s H Q E hr h=>?_;obtain ⟨AA,L,M,va,vp,C,rfl,h'⟩:=h;refine ⟨_,(bg (Z2 T) hr.m T.qw.m T.qw.F.kp T.qw.b .nil di (aa (ac 0) (aa (ac 1) (aa (ac 2) ae)))).h,?_⟩;simp only [ut,At];left;exact ⟨AA,L,M,va,vp,C,rfl,h'⟩
 | r7 =>
  refine lE ["_law_house","_law_asker","_law_path","_law_text"] (.of rfl rfl rfl (by symm) (by symm) ⟨fun _=>⟨_,rfl⟩,fun _=>⟨_,rfl⟩,fun _=>⟨_,rfl⟩,fun _=>⟨_,rfl⟩,(fun z=>nomatch z),trivial⟩ (by simp)) (by simp) (fun _ _ _=>rfl) fun f cdv vs A outer s H Q E hr h=>?_;obtain ⟨AA,L,M,va,vp,vx,C,rfl,h'⟩:=h;refine ⟨_,(bg (Qb T) hr.m T.pK.m T.pK.F.kp T.pK.b .nil di (aa (ac 0) (aa (ac 1) (aa (ac 2) (aa (ac 3) ae))))).h,?_⟩;simp only [ut,At];left;exact ⟨AA,L,M,va,vp,vx,C,rfl,h'⟩
 | r8 =>
  refine lE ["_law_house","_law_asker","_law_path"] (.of rfl rfl rfl (by symm) (by symm) ⟨fun _=>⟨_,rfl⟩,fun _=>⟨_,rfl⟩,fun _=>⟨_,rfl⟩,(fun z=>nomatch z),trivial⟩ (by simp)) (by simp) (fun _ _ _=>rfl) fun f cdv vs A outer s H Q E hr h=>?_;obtain ⟨AA,L,M,va,vp,C,rfl,h'⟩:=h;refine ⟨_,(bg (RE T) hr.m T.qE.m T.qE.F.kp T.qE.b .nil di (aa (ac 0) (aa (ac 1) (aa (ac 2) ae)))).h,?_⟩;simp only [ut,At];left;exact ⟨AA,L,M,va,vp,C,rfl,h'⟩
section
variable {f:Addr} {cdv:Value} {A:Around} {outer:List Env} {s:Shared} {H:Hp} {E:XK}
def acm (T:Tx K mg) {k:Nat} {l:Lm} {N':List Str} {ix:List Nat} {W:List V->bE} (r:fQ T s.heap.objs.size k l N' ix W):qb (c7 aP P w K mg base Ji "_law_deed" (ax rX) f cdv A outer s H E) N' ix l.bY:=by
 cases r with
 | r0=>exact .of rfl rfl ⟨⟨rfl,rfl,rfl⟩,⟨rfl,rfl,rfl⟩,⟨rfl,rfl,rfl⟩,⟨rfl,rfl,rfl⟩,⟨rfl,rfl,rfl⟩,trivial⟩ ⟨rfl,rfl,rfl,rfl,rfl,trivial⟩
 | r1=>exact .of rfl rfl ⟨⟨rfl,rfl,rfl⟩,⟨rfl,rfl,rfl⟩,⟨rfl,rfl,rfl⟩,⟨rfl,rfl,rfl⟩,⟨rfl,rfl,rfl⟩,⟨rfl,rfl,rfl⟩,trivial⟩ ⟨rfl,rfl,rfl,rfl,rfl,rfl,trivial⟩
 | r2=>exact .of rfl rfl ⟨⟨rfl,rfl,rfl⟩,⟨rfl,rfl,rfl⟩,⟨rfl,rfl,rfl⟩,⟨rfl,rfl,rfl⟩,trivial⟩ ⟨rfl,rfl,rfl,rfl,trivial⟩
 | r3=>exact .of rfl rfl ⟨⟨rfl,rfl,rfl⟩,⟨rfl,rfl,rfl⟩,⟨rfl,rfl,rfl⟩,⟨rfl,rfl,rfl⟩,trivial⟩ ⟨rfl,rfl,rfl,rfl,trivial⟩
 | r4=>exact .of rfl rfl ⟨⟨rfl,rfl,rfl⟩,⟨rfl,rfl,rfl⟩,⟨rfl,rfl,rfl⟩,trivial⟩ ⟨rfl,rfl,rfl,trivial⟩
 | r5=>exact .of rfl rfl ⟨⟨rfl,rfl,rfl⟩,⟨rfl,rfl,rfl⟩,⟨rfl,rfl,rfl⟩,⟨rfl,rfl,rfl⟩,⟨rfl,rfl,rfl⟩,trivial⟩ ⟨rfl,rfl,rfl,rfl,rfl,trivial⟩
 | r6=>exact .of rfl rfl ⟨⟨rfl,rfl,rfl⟩,⟨rfl,rfl,rfl⟩,⟨rfl,rfl,rfl⟩,trivial⟩ ⟨rfl,rfl,rfl,trivial⟩
 | r7=>exact .of rfl rfl ⟨⟨rfl,rfl,rfl⟩,⟨rfl,rfl,rfl⟩,⟨rfl,rfl,rfl⟩,⟨rfl,rfl,rfl⟩,trivial⟩ ⟨rfl,rfl,rfl,rfl,trivial⟩
 | r8=>exact .of rfl rfl ⟨⟨rfl,rfl,rfl⟩,⟨rfl,rfl,rfl⟩,⟨rfl,rfl,rfl⟩,trivial⟩ ⟨rfl,rfl,rfl,trivial⟩
end
def gA {H H':Hp} {Pt:Addr} {q:Str} {es:List Ent} (t:da H Pt q es) (k:∀ b φ,H b=some (.ext φ)->H' b=some (.ext φ)):da H' Pt q es:=⟨k _ _ t.tab,fun e he=>k _ _ (t.code e he)⟩
def NX (H H':Hp):Prop:=∀ b o,(∀ φ,o≠.ext φ)->H b=some o->H' b=some o
def jg.gQ {CT:Addr} {H H':Hp} {a:Ta} {i:Nat} {t:Th} (h:jg CT H a i t) (k:NX H H'):jg CT H' a i t where
 o:=let ⟨fs,e,r⟩:=h.o;⟨fs,k _ _ (by nofun) e,r⟩
 nm:=k _ _ (by nofun) h.nm
 pl:=k _ _ (by nofun) h.pl
def aI.gQ {CH CS CT:Addr} {H H':Hp} {A:Ad} {L:List Ta} {M:Hs} (i:aI CH CS CT H A L M) (k:NX H H'):aI CH CS CT H' A L M where
 h:=let ⟨fs,c,e,r⟩:=i.h;⟨fs,c,k _ _ (by nofun) e,r⟩
 t:=let ⟨fs,c,e,r⟩:=i.t;⟨fs,c,k _ _ (by nofun) e,r⟩
 ml:=k _ _ (by nofun) i.ml
 len:=i.len
 th:=fun j t e=>let ⟨a,e1,h⟩:=i.th j t e;⟨a,e1,h.gQ k⟩
 ro:=k _ _ (by nofun) i.ro
 st:=k _ _ (by nofun) i.st
 tr:=k _ _ (by nofun) i.tr
 ov:=k _ _ (by nofun) i.ov
 un:=k _ _ (by nofun) i.un
 nd:=i.nd
def Kw {H H':Hp} (s:ag H H'):NX H H':=fun b o _ e=>s b o e
def Dp {H H':Hp} (k:NX H H') {v:V} {ty:String} (h:clsName H v=some ty):clsName H' v=some ty:=by
 cases v with
 | ref p =>
  unfold clsName at h ⊢;dsimp only at h ⊢;cases ho:H p with
  | none=>rw [ho] at h;cases h
  | some o =>
   rw [ho] at h;rw [k p o (fun φ e=>by subst e;cases h) ho];exact h
 | _=>exact h
def acx {Pt:Addr} {q:Str} {c:Addr} {H H1:Hp} (L:jL Pt q c H H1):c≠Pt:=fun e=>by
 obtain ⟨es,t⟩:=L.tab;have h:=L.code;rw [e,t.tab] at h;exact Fg (Fk h)
structure nF (Pt:Addr) (q:Str) (l:Lm) (c:Addr) (H:Hp) (f:Addr):Prop where
 hf:H f=some (et f q l c)
 hc:H c=some (iA c q)
 nf:f≠Pt
 nc:c≠Pt
def nF.kp {Pt:Addr} {q:Str} {l:Lm} {c:Addr} {H H':Hp} {f:Addr} (h:nF Pt q l c H f) (k:Kp [Pt] H H'):nF Pt q l c H' f:=⟨k _ _ (by simpa using h.nf) h.hf,k _ _ (by simpa using h.nc) h.hc,h.nf,h.nc⟩
def tJ {Pt:Addr} {q:Str} {c:Addr} {H H1:Hp} (L:jL Pt q c H H1):Kp [Pt] H H1:=fun b o n e=>L.vH b o (by simpa using n) e
def w8 {Pt:Addr} {q:Str} {c:Addr} {H H1:Hp} {l:Lm} {f:Addr} {es:List Ent} (L:jL Pt q c H H1) (t:da H Pt q es) (hf:H f=none) (dZ:H1 f=none):nF Pt q l c (upd H1 f (et f q l c)) f :=
 ⟨ay,by rw [aj (fun z=>by (rw [<- z,L.code] at dZ;cases dZ))];exact L.code,(fun z=>by rw [z,t.tab] at hf;cases hf),acx L⟩
def QX {K:ν} {l:Addr} {xs:List V} {tt:TT} {te:TE} {H:Hp} {Q:VK} {vs:List V} (hz:xs.length<=1000) (hs:aH K H l xs) (EC:∀ H1,ag H H1->aH K H1 l xs) (ht:∀ x∈xs,∀ H1,ag H H1->∀ R:Bool->Hp->Prop,(∀ H2,ag H H2->R false H2)->tt (some x::vs.map some) H1 R)
  (q:∀ l' H1,ag H H1->H1 l'=none->Q (.ref l') (upd H1 l' (.lst []))):nR (jY K l) 1 vs (fT 0) tt te Q H:=by
 have hsz:xs.length<=sizeLine:=fits hz;refine ⟨fun i zs k H1=>ag H H1/\zs=[]/\i<=xs.length/\k=xs.length - i,⟨_,ag.refl _,rfl,Do _,rfl⟩,?_⟩;rintro i zs k H1 ⟨s1,rfl,hi,rfl⟩;refine ⟨by simp,?_⟩;by_cases h:i < xs.length
 ·have hx:xs[i]?=some xs[i]:=mo h;have hm:=_H h;refine .inr ⟨⟨xs,xs[i],EC _ s1,hx⟩,by simp;omega,?_⟩;rintro y H' ⟨rfl,hy⟩ σ0 hσ0;obtain ⟨a,rfl⟩:=xF hσ0;have ey:y=xs[i]:=by
   have:=hy xs (EC _ s1);rw [hx] at this;cases this;rfl
  subst ey;refine ⟨⟨[some xs[i]],rfl,rfl⟩,?_⟩;refine ht _ hm _ s1 _ fun H2 s2=>?_;rw [zn (by nofun)];exact ⟨xs.length - (i+1),by omega,s2,rfl,h,rfl⟩
 ·have e:i=xs.length:=by omega
  subst e;exact .inl ⟨⟨xs,EC _ s1,ul _⟩,fun l' hl'=>q _ _ s1 hl'⟩
def SE (T:Tx K mg) {q:Str} {Pe:Addr} {Tb:Lm->List Nat->(List V->bE)->Prop} {l:Lm} {ix:List Nat} {W:List V->bE} {vs:List V} {σ:St} {H:Hp} {Q:VK} {E:XK} {es:List Ent} (tab:da H Pe q es) (t:Tb l ix W) (hc:fD ix σ vs)
  (h:∀ H1 es',Kp [Pe] H H1->da H1 Pe q es'->W vs H1 (fun _ _=>False) (vO T Q)):∃ es,da H Pe q es/\∀ f c H1,jL Pe q c H H1->H f=none->H1 f=none->∃ f' wish,V.ref f=V.ref f'/\CY q Tb σ f' wish/\CJ T wish (upd H1 f (et f q l c)) Q E:=by
 refine ⟨es,tab,fun f c H1 L hf dZ=>⟨f,_,rfl,⟨l,c,ix,W,vs,t,hc,rfl⟩,?_⟩⟩;have la:=w8 (l:=l) L tab hf dZ;obtain ⟨es',t'⟩:=L.tab;have s2:=ag.upd (o:=et f q l c) dZ;exact ⟨la.hf,la.hc,h _ es' ((tJ L).trans (.of s2)) (gA t' fun b φ e=>s2 _ _ e)⟩
structure kO (q:Str) (Pe:Addr) (H0:Hp) (l:Addr) (fs:List Addr) (ls:List Lm) (H:Hp):Prop where
 tab:∃ es,da H Pe q es
 hl:H l=some (.lst (fs.map V.ref))
 nl:H0 l=none
 len:fs.length=ls.length
 dC:∀ (i:Nat) (f:Addr) (lm:Lm),fs[i]?=some f->ls[i]?=some lm->∃ c,nF Pe q lm c H f
 k:Kp [Pe] H0 H
def abx {H:Hp} {Pt:Addr} {q:Str} {es:List Ent} {l:Addr} {xs ys:List V} (t:da H Pt q es) (hl:H l=some (.lst xs)):da (upd H l (.lst ys)) Pt q es:=gA t fun b φ e=>by
 rw [aj (fun z=>by rw [z,hl] at e;cases e)];exact e
def Hg {Pt:Addr} {q:Str} {lm:Lm} {c:Addr} {H:Hp} {f l:Addr} {xs ys:List V} (h:nF Pt q lm c H f) (hl:H l=some (.lst xs)):nF Pt q lm c (upd H l (.lst ys)) f :=
 ⟨by rw [aj (fun z=>by have:=h.hf;rw [z,hl] at this;cases this)];exact h.hf,by rw [aj (fun z=>by have:=h.hc;rw [z,hl] at this;cases this)];exact h.hc,h.nf,h.nc⟩
def kO.add {q:Str} {Pe:Addr} {H0 H H1:Hp} {l:Addr} {fs:List Addr} {ls:List Lm} (j:kO q Pe H0 l fs ls H) {lm:Lm} {c f:Addr} (Ls:jL Pe q c H H1) (hf:H f=none) (dZ:H1 f=none) :
  (upd H1 f (et f q lm c)) l=some (.lst (fs.map V.ref))/\kO q Pe H0 l (fs++[f]) (ls++[lm]) (upd (upd H1 f (et f q lm c)) l (.lst (fs.map V.ref++[.ref f]))):=by
 obtain ⟨es,tab⟩:=j.tab;obtain ⟨es',tab'⟩:=Ls.tab;have s2:=ag.upd (o:=et f q lm c) dZ;have iu:=s2 _ _ (Ls.vH l _ (fun z=>by have:=tab.tab;rw [<- z,j.hl] at this;cases this) j.hl);have t2:=gA tab' fun b φ e=>s2 _ _ e;refine ⟨iu,⟨_,abx t2 iu⟩,by rw [ay,NE];rfl,j.nl,by simp [j.len],fun i g m hg hm=>?_,fun b o hb e=>?_⟩
 ·rcases Nat.lt_or_ge i fs.length with h | h
  ·rw [FM h] at hg;rw [FM (j.len ▸ h)] at hm;obtain ⟨c',h3⟩:=j.dC i g m hg hm;exact ⟨c',Hg ((h3.kp (tJ Ls)).kp (.of s2)) iu⟩
  ·rw [Ev h] at hg;rw [Ev (j.len ▸ h),<- j.len] at hm
   match hi:i - fs.length with
   | 0 =>
    rw [hi] at hg hm;cases hg;cases hm;exact ⟨c,Hg (w8 Ls tab hf dZ) iu⟩
   | d+1=>rw [hi] at hg;cases hg
 ·rw [aj (fun z=>by rw [z,j.nl] at e;cases e)];exact s2 _ _ (tJ Ls _ _ hb (j.k _ _ hb e))
def VD (T:Tx K mg) (Pe:Addr):Sp:=fun vs H Q _=>∃ h va vp vo vm vr vx,∃ wy:Nat,∃ es,vs=[h,.int (wy:Int),va,vp,vo,vm,vr,vx]/\wy < 9/\da H Pe dk es /\
 ∀ n lm N' ix W vs' c f H' es',fQ T n wy lm N' ix W->fD ix [some h,some (.int (wy:Int)),some va,some vp,some vo,some vm,some vr,some vx] vs'->wG dk lm c N' vs' H' f->da H' Pe dk es'->Kp [Pe] H H'->Q (.ref f) H'
def Xu (T:Tx K mg) (n wy:Nat) (h:wy < 9) {lm:Lm} (hl:[mL n,vN n,vz n,xE n,vX n,xu n,vL n,wX n,uS n][wy]?=some lm):∃ N' ix W,fQ T n wy lm N' ix W:=by
 match wy,h with
 | 0,_=>cases hl;exact ⟨_,_,_,.r0⟩
 | 1,_=>cases hl;exact ⟨_,_,_,.r1⟩
 | 2,_=>cases hl;exact ⟨_,_,_,.r2⟩
 | 3,_=>cases hl;exact ⟨_,_,_,.r3⟩
 | 4,_=>cases hl;exact ⟨_,_,_,.r4⟩
 | 5,_=>cases hl;exact ⟨_,_,_,.r5⟩
 | 6,_=>cases hl;exact ⟨_,_,_,.r6⟩
 | 7,_=>cases hl;exact ⟨_,_,_,.r7⟩
 | 8,_=>cases hl;exact ⟨_,_,_,.r8⟩
def Zm {T:Tx K mg} {n wy:Nat} {lm:Lm} {N':List Str} {ix:List Nat} {W:List V->bE} (r:fQ T n wy lm N' ix W) (a b c d e f g h:V) (o:Option V):∃ vs,fD ix [some a,some b,some c,some d,some e,some f,some g,some h,o] vs/\fD ix [some a,some b,some c,some d,some e,some f,some g,some h] vs:=by
 cases r with
 | r0=>exact ⟨[a,c,d,f,g],az rfl (az rfl (az rfl (az rfl (az rfl bX)))),az rfl (az rfl (az rfl (az rfl (az rfl bX))))⟩
 | r1=>exact ⟨[a,c,d,h,f,g],az rfl (az rfl (az rfl (az rfl (az rfl (az rfl bX))))),az rfl (az rfl (az rfl (az rfl (az rfl (az rfl bX)))))⟩
 | r2=>exact ⟨[a,c,d,e],az rfl (az rfl (az rfl (az rfl bX))),az rfl (az rfl (az rfl (az rfl bX)))⟩
 | r3=>exact ⟨[a,c,d,e],az rfl (az rfl (az rfl (az rfl bX))),az rfl (az rfl (az rfl (az rfl bX)))⟩
 | r4=>exact ⟨[a,c,d],az rfl (az rfl (az rfl bX)),az rfl (az rfl (az rfl bX))⟩
 | r5=>exact ⟨[a,c,d,f,g],az rfl (az rfl (az rfl (az rfl (az rfl bX)))),az rfl (az rfl (az rfl (az rfl (az rfl bX))))⟩
 | r6=>exact ⟨[a,c,d],az rfl (az rfl (az rfl bX)),az rfl (az rfl (az rfl bX))⟩
 | r7=>exact ⟨[a,c,d,h],az rfl (az rfl (az rfl (az rfl bX))),az rfl (az rfl (az rfl (az rfl bX)))⟩
 | r8=>exact ⟨[a,c,d],az rfl (az rfl (az rfl bX)),az rfl (az rfl (az rfl bX))⟩
def mM {qq:Str} {Pe:Addr} {H0 H:Hp} {l:Addr} {fs:List Addr} {ls:List Lm} {lm:Lm} {i:Nat} {u:TR} {R:St->VK} {σ:St} (hσ:σ[i]?=some (some (.ref l))) (hn:fs.length<=20) (j:kO qq Pe H0 l fs ls H) (q:∀ f H',kO qq Pe H0 l (fs++[f]) (ls++[lm]) H'->u R σ H'):BO (nB (nj nE (jw i) (mz (kG Pe qq lm) iZ))) u R σ H:=by
 refine II ?_;dsimp only [nB,nj,mz,iZ,kG,nE,jw];rw [hσ];dsimp only;rw [j.hl];dsimp only;obtain ⟨es,tab⟩:=j.tab;refine ⟨es,tab,fun f c G L1 hf dZ=>?_⟩;obtain ⟨iu,j2⟩:=j.add (lm:=lm) L1 hf dZ;rw [iu];exact ⟨lh (by rw [pp];omega),q f _ j2⟩
def n9 {qq:Str} {Pe:Addr} {H0 H:Hp} {l:Addr} {fs:List Addr} {ls:List Lm} {lm:Lm} {i:Nat} {u:L2.TS} {D:Ends} {σ:St} (hσ:σ[i]?=some (some (.ref l))) (hn:fs.length<=20) (j:kO qq Pe H0 l fs ls H) (q:∀ f H',kO qq Pe H0 l (fs++[f]) (ls++[lm]) H'->u D σ H'):kH (nB (nj nE (jw i) (mz (kG Pe qq lm) iZ))) u D σ H:=by
 refine ai ?_;dsimp only [nB,nj,mz,iZ,kG,nE,jw];rw [hσ];dsimp only;rw [j.hl];dsimp only;obtain ⟨es,tab⟩:=j.tab;refine ⟨es,tab,fun f c G L1 hf dZ=>?_⟩;obtain ⟨iu,j2⟩:=j.add (lm:=lm) L1 hf dZ;rw [iu];exact ⟨lh (by rw [pp];omega),q f _ j2⟩
def R8 {Pe:Addr} (C:PySem.W.CodeHd base T.m6 Pe) (cT:base.BuiltinsAt mg Pe):aq P w K mg base aP 3 T.EJ T.xT ["_law_house","_law_way","_law_asker","_law_path","_law_other","_law_mine","_law_rest","_law_text"] (VD T Pe):=by
 refine T.u7.Ut LB (fun vs H Q E ⟨_,_,_,_,_,_,_,_,_,e,_⟩=>by rw [e];rfl) (fun cdv A outer s H vs Q E aV hr ⟨hh,va,vp,vo,vm,vr,vx,wy,es,e,hw,tab,q⟩=>?_);subst e;refine Yc (b:=aN rX) ((lA (aO 8 LB.nd (db (aa (dh (q:=dk) (l:=mL s.heap.objs.size) ⟨rfl,rfl,⟨_,aV.symm.trans T.lD,C⟩,cT,by kernel_rfl⟩) ae)))
   (lA (aL (dU wf wn dW (ac 8) (aa (dh (q:=dk) (l:=vN s.heap.objs.size) ⟨rfl,rfl,⟨_,aV.symm.trans T.lD,C⟩,cT,by kernel_rfl⟩) ae)))
   (lA (aL (dU wf wn dW (ac 8) (aa (dh (q:=dk) (l:=vz s.heap.objs.size) ⟨rfl,rfl,⟨_,aV.symm.trans T.lD,C⟩,cT,by kernel_rfl⟩) ae)))
   (lA (aL (dU wf wn dW (ac 8) (aa (dh (q:=dk) (l:=xE s.heap.objs.size) ⟨rfl,rfl,⟨_,aV.symm.trans T.lD,C⟩,cT,by kernel_rfl⟩) ae)))
   (lA (aL (dU wf wn dW (ac 8) (aa (dh (q:=dk) (l:=vX s.heap.objs.size) ⟨rfl,rfl,⟨_,aV.symm.trans T.lD,C⟩,cT,by kernel_rfl⟩) ae)))
   (lA (aL (dU wf wn dW (ac 8) (aa (dh (q:=dk) (l:=xu s.heap.objs.size) ⟨rfl,rfl,⟨_,aV.symm.trans T.lD,C⟩,cT,by kernel_rfl⟩) ae)))
   (lA (aL (dU wf wn dW (ac 8) (aa (dh (q:=dk) (l:=vL s.heap.objs.size) ⟨rfl,rfl,⟨_,aV.symm.trans T.lD,C⟩,cT,by kernel_rfl⟩) ae)))
   (lA (aL (dU wf wn dW (ac 8) (aa (dh (q:=dk) (l:=wX s.heap.objs.size) ⟨rfl,rfl,⟨_,aV.symm.trans T.lD,C⟩,cT,by kernel_rfl⟩) ae)))
   (lA (aL (dU wf wn dW (ac 8) (aa (dh (q:=dk) (l:=uS s.heap.objs.size) ⟨rfl,rfl,⟨_,aV.symm.trans T.lD,C⟩,cT,by kernel_rfl⟩) ae)))
   (Sh (dl (bI (K:=K) rfl) (ac 8) (ac 1))))))))))))) ?_
 rw [show start Ji [hh,V.int (wy:Int),va,vp,vo,vm,vr,vx]=[some hh,some (V.int (wy:Int)),some va,some vp,some vo,some vm,some vr,some vx,none] from rfl];refine II ?_;left;refine ⟨es,tab,fun f0 c0 H1 L1 hf0 dZ=>⟨fits (by simp),fun l hl=>?_⟩⟩;have s2:=ag.upd (o:=et f0 dk (mL s.heap.objs.size) c0) dZ;have qJ:H l=none:=by
  cases e:H l with
  | none=>rfl
  | some o =>
   by_cases z:l=Pe
   ·obtain ⟨uw,t1⟩:=L1.tab;rw [z,s2 _ _ t1.tab] at hl;cases hl
   ·rw [s2 _ _ (L1.vH _ _ z e)] at hl;cases hl
 have j1:kO dk Pe H l [f0] [mL s.heap.objs.size] (upd (upd H1 f0 (et f0 dk (mL s.heap.objs.size) c0)) l (.lst [V.ref f0])):=by
  obtain ⟨uw,t1⟩:=L1.tab;have s3:=ag.upd (o:=.lst [V.ref f0]) hl;refine ⟨⟨uw,gA t1 fun b φ e=>s3 _ _ (s2 _ _ e)⟩,ay,qJ,rfl,fun i f lm h1 h2=>?_,((tJ L1).trans (.of s2)).trans (.of s3)⟩
  match i with
  | 0 =>
   cases h1;cases h2;exact ⟨c0,(w8 L1 tab hf0 dZ).kp (.of s3)⟩
  | i+1=>cases h1
 generalize upd (upd H1 f0 (et f0 dk (mL s.heap.objs.size) c0)) l (.lst [V.ref f0])=H2 at j1 ⊢;clear hl s2 L1 dZ;refine mM rfl (by simp) j1 fun f1 H3 j2=>mM rfl (by simp) j2 fun f2 H4 j3=>mM rfl (by simp) j3 fun f3 H5 j4=>mM rfl (by simp) j4 fun f4 H6 j5=>mM rfl (by simp) j5 fun f5 H7 j6=>mM rfl (by simp) j6 fun f6 H8 j7=>mM rfl (by simp) j7 fun f7 H9 j8=>mM rfl (by simp) j8 fun f8 oQ j9=>?_;have hlen:=j9.len;left;simp only [bR,j9.hl];obtain ⟨lm,iO⟩:∃ lm,[mL s.heap.objs.size,vN s.heap.objs.size,vz s.heap.objs.size,xE s.heap.objs.size,vX s.heap.objs.size,xu s.heap.objs.size,vL s.heap.objs.size,wX s.heap.objs.size,uS s.heap.objs.size][wy]?=some lm:=⟨_,mo (by simpa using hw)⟩;obtain ⟨f,hf⟩:∃ f,[f0,f1,f2,f3,f4,f5,f6,f7,f8][wy]?=some f:=⟨_,mo (by simpa using hw)⟩;rw [lK (j:=wy) (v:=.ref f) (by rw [Da];exact PP (Option.map V.ref) hf)];obtain ⟨c,la⟩:=j9.dC wy f lm hf iO;obtain ⟨N',ix,W,r⟩:=Xu T _ wy hw iO;intro H'' ec;obtain ⟨vs',h1,h2⟩:=Zm r hh (V.int (wy:Int)) va vp vo vm vr vx (some (.ref l));obtain ⟨Eg,t9⟩:=j9.tab;exact q _ lm N' ix W vs' c f H'' Eg r h2 (abF (acm T r) h1 ec la.hf la.hc) (gA t9 fun b φ e=>ec.same _ _ e) (j9.k.trans fun b o _ e=>ec.same _ _ e)
section
variable {st:Addr} {H H':Hp}
def Ct {v:V} {ty:String} (d:Dr st H) (d':Dr st H') (k:cg st H H') (h:clsName H v=some ty):clsName H' v=some ty:=by
 cases v with
 | ref p =>
  by_cases e:p=st
  ·subst e;obtain ⟨x,y,z,e⟩:=d;obtain ⟨x',y',z',e'⟩:=d';rw [nN e] at h;rw [nN e'];exact h
  ·unfold clsName at h ⊢;dsimp only at h ⊢;cases ho:H p with
   | none=>rw [ho] at h;cases h
   | some o =>
    rw [k _ _ e ho];rw [ho] at h;exact h
 | _=>exact h
def VR {v:V} (d:Dr st H) (d':Dr st H') (k:cg st H H') (h:ff H v):ff H' v:=by
 cases v with
 | str z=>exact h
 | _=>obtain ⟨ty,h⟩:=h;exact ⟨ty,Ct d d' k h⟩
end
def lZ:List (Str×Nat):=[("own",0),("guest",0)]
def gm (w:Str) (H:Hp) (v:V):Prop:=(∃ ty,clsName H v=some ty)/\(w = "asker" -> ∀ z,v=.str z->bb (sD lZ) (.inr z)=none)/\(w = "path" -> ff H v)/\(w = "rights" -> qi v=false)/\(w = "text" -> kT v=true)
def gm.keep {w:Str} {H H':Hp} {v:V} {st:Addr} (h:gm w H v) (d:Dr st H) (d':Dr st H') (k:cg st H H'):gm w H' v:=⟨let ⟨ty,e⟩:=h.1;⟨ty,Ct d d' k e⟩,h.2.1,fun e=>VR d d' k (h.2.2.1 e),h.2.2.2⟩
def Lj (w:Str):V->Bool
 | .str z=>(decide (w ≠ "asker") || (bb (sD lZ) (.inr z)).isNone) && (decide (w ≠ "path") || (decide (z.length=0) || ((decide (2000 < z.length) && decide (z.length<=3000)) || (decide (1<=z.length) && (decide (z.length<=1000) && !(Tx.words 47 z.cps.toList).all ef))))) && (decide (w ≠ "rights") || !er.contains z) && (decide (w ≠ "text") || kT (.str z))
 | .aw=>true
 | .int _=>true
 | .bl _=>true
 | _=>false
def vP {w:Str} {v:V} {H:Hp} (h:Lj w v=true):gm w H v:=by
 cases v with
 | str z =>
  simp only [Lj,Ch,Bool.or_eq_true,LT,Bool.not_eq_true'] at h;obtain ⟨⟨⟨h1,h2⟩,h3⟩,h4⟩:=h;refine ⟨⟨_,rfl⟩,fun e z' e'=>?_,fun e=>?_,fun e=>?_,fun e=>?_⟩
  ·cases e';exact Option.isNone_iff_eq_none.mp (h1.resolve_left fun z=>z e)
  ·exact h2.resolve_left fun z=>z e
  ·exact h3.resolve_left fun z=>z e
  ·exact h4.resolve_left fun z=>z e
 | aw=>exact ⟨⟨_,rfl⟩,nofun,fun _=>⟨_,rfl⟩,fun _=>rfl,fun _=>rfl⟩
 | int n=>exact ⟨⟨_,rfl⟩,nofun,fun _=>⟨_,rfl⟩,fun _=>rfl,fun _=>rfl⟩
 | bl b=>exact ⟨⟨_,rfl⟩,nofun,fun _=>⟨_,rfl⟩,fun _=>rfl,fun _=>rfl⟩
 | _=>cases h
def ud {w:Str} {p:Addr} {H:Hp} {ty:String} (h:clsName H (.ref p)=some ty):gm w H (.ref p):=⟨⟨ty,h⟩,nofun,fun _=>⟨ty,h⟩,fun _=>rfl,fun _=>rfl⟩
def TH:Sp:=fun vs H Q _=>∃ st,∃ w:Str,vs=[.ref st,.str w]/\w∈[("asker":Str),"path","rights","text"]/\Dr st H/\∀ v H',gm w H' v->Dr st H'->cg st H H'->Q v H'
def pS:T.eh.k P w base 3 TH:=by
 refine T.eh.F.ok rF (fun vs H Q E ⟨_,_,e,_⟩=>by rw [e];rfl) (fun cdv A outer s H vs Q E hr ⟨st,wd,e,hw,bt,q⟩=>?_);subst e;refine aY (b:=aN zW) ((ad (aO 2 rF.nd (db (aa ap (aa aw (aa bi (aa ap (aa ap (aa ap (aa ge (aa (db (aa ap ae)) (aa ap (aa ap ae))))))))))))
   (ad (aW (bw gK (ac 1) ap) (ah (aO 2 rF.nd (db (aa ap (aa aw (aa bi (aa ap (aa ap (aa ap (aa ap (aa (dL mq ap bi) (aa ge (aa (db (aa ap ae)) (aa ap (aa ap (aa ap (aa ap ae))))))))))))))))) cr)
   (ad (aW (bw gK (ac 1) ap) (ah (aO 2 rF.nd (db (aa ap (aa ap (aa aw (aa ap (aa ap (aa bi (aa ap (aa ap (aa ge (aa (db (aa ap ae)) (aa ap (aa ap ae))))))))))))))) cr)
   (ad (aW (bw gK (ac 1) ap) (ah (aO 2 rF.nd (db (aa (dL mq ap bi) (aa aw (aa bi (aa ge (aa (db (aa ap ae)) (aa (jp (aa ap ae)) (aa (dL mq ap bi) ae)))))))))) cr)
   (ah (aK (dl (bI (K:=K) rfl) (ac 2) (bn (mQ T) hr.m T.cZ.m T.cZ.F.kp T.cZ.b .nil aB (aa (ac 0) (aa (bJ (gN (K:=K) rfl) T.gv IR (aa (ac 2) ae)) ae))))))))))) ?_
 refine stI [some (V.ref st),some (V.str wd),none] ?_;refine aX (fun σ' H'=>∃ l xs,σ'=[some (V.ref st),some (V.str wd),some (.ref l)]/\H' l=some (.lst xs)/\ag H H'/\l≠st/\0 < xs.length/\xs.length<=20/\(wd = "asker" -> ∀ v∈xs,gm wd H' v)) ?_ ?_
 ·left;refine ⟨fits (by simp),fun p hp=>⟨fits (by simp),fun l hl=>⟨l,_,rfl,ay,((ag.upd hp).trans (ag.upd hl)),?_,by simp,by simp,fun oR v hv=>?_⟩⟩⟩
  ·exact (bt.same (ag.upd hp)).ne hl
  ·have bp:=(ag.upd (o:=.lst [V.str "",V.aw,V.int 7,V.str "nobody",V.str "Own",V.str "own ",V.bl true,V.ref p,V.str "ow",V.str "owna"]) hl) _ _ (ay (H:=H) (a:=p) (o:=.lst [V.str "own"]));simp only [pi,ss,AC] at hv;subst oR;rcases hv with rfl | rfl | rfl | rfl | rfl | rfl | rfl | rfl | rfl | rfl <;> first | exact ud (nN bp) | exact vP (by symm)
 rintro σ' H1 ⟨l0,km,rfl,b1,s1,n1,x0,x1,g1⟩;refine aX (fun σ' H'=>∃ l xs,σ'=[some (V.ref st),some (V.str wd),some (.ref l)]/\H' l=some (.lst xs)/\ag H H'/\l≠st/\0 < xs.length/\xs.length<=20/\(wd = "asker" \/ wd = "path" -> ∀ v∈xs,gm wd H' v)) ?_ ?_
 ·left;by_cases hwp:wd=("path":Str)
  ·subst hwp;refine iQ (xz rfl) ?_;refine ⟨Tx.vw [47] 2001 (by decide) (by decide),fits (by simp),fun p hp=>⟨fits (by simp),fun l hl=>⟨l,_,rfl,ay,s1.trans ((ag.upd hp).trans (ag.upd hl)),?_,by simp,by simp,fun oR v hv=>?_⟩⟩⟩
   ·exact ((bt.same s1).same (ag.upd hp)).ne hl
   ·have bp:=(ag.upd (o:=.lst [V.str "",V.aw,V.int 7,V.str "a b",V.str "/A",V.str "abcdefghi",V.str "a/...",V.str (Txt.mul (Str.ofString "/") 2001),V.bl true,V.ref p,V.str "a/b1",V.str " a",V.str "....",V.str "a-b"]) hl) _ _ (ay (H:=H1) (a:=p) (o:=.lst [V.str "a"]));simp only [pi,ss,AC] at hv;rcases hv with rfl | rfl | rfl | rfl | rfl | rfl | rfl | rfl | rfl | rfl | rfl | rfl | rfl | rfl <;> first | exact ud (nN bp) | exact vP (by symm)
  ·exact fJ (tz hwp) ⟨l0,km,rfl,b1,s1,n1,x0,x1,fun h=>g1 (h.resolve_right hwp)⟩
 clear b1 s1 n1 x0 x1 g1 km l0 H1;rintro σ' H1 ⟨l0,km,rfl,b1,s1,n1,x0,x1,g1⟩;refine aX (fun σ' H'=>∃ l xs,σ'=[some (V.ref st),some (V.str wd),some (.ref l)]/\H' l=some (.lst xs)/\ag H H'/\l≠st/\0 < xs.length/\xs.length<=20/\(wd = "asker" \/ wd = "path" \/ wd = "rights" -> ∀ v∈xs,gm wd H' v)) ?_ ?_
 ·left;by_cases hwp:wd=("rights":Str)
  ·subst hwp;refine iQ (xz rfl) ?_;refine ⟨fits (by simp),fun p hp=>⟨fits (by simp),fun l hl=>⟨l,_,rfl,ay,s1.trans ((ag.upd hp).trans (ag.upd hl)),?_,by simp,by simp,fun oR v hv=>?_⟩⟩⟩
   ·exact ((bt.same s1).same (ag.upd hp)).ne hl
   ·have bp:=(ag.upd (o:=.lst [V.str "gl",V.str "L",V.aw,V.str "lgwx",V.str "ll",V.int 5,V.str "lgw ",V.str "wg",V.bl true,V.ref p,V.str "-",V.str "wlg"]) hl) _ _ (ay (H:=H1) (a:=p) (o:=.lst [V.str "l"]));simp only [pi,ss,AC] at hv;rcases hv with rfl | rfl | rfl | rfl | rfl | rfl | rfl | rfl | rfl | rfl | rfl | rfl <;> first | exact ud (nN bp) | exact vP (by symm)
  ·exact fJ (tz hwp) ⟨l0,km,rfl,b1,s1,n1,x0,x1,fun h=>g1 (by rcases h with h | h | h;exact .inl h;exact .inr h;exact absurd h hwp)⟩
 clear b1 s1 n1 x0 x1 g1 km l0 H1;rintro σ' H1 ⟨l0,km,rfl,b1,s1,n1,x0,x1,g1⟩;refine aX (fun σ' H'=>∃ l xs,σ'=[some (V.ref st),some (V.str wd),some (.ref l)]/\H' l=some (.lst xs)/\ag H H'/\l≠st/\0 < xs.length/\xs.length<=20/\(wd = "asker" \/ wd = "path" \/ wd = "rights" \/ wd = "text" -> ∀ v∈xs,gm wd H' v)) ?_ ?_
 ·left;by_cases hwp:wd=("text":Str)
  ·subst hwp;refine iQ (xz rfl) ?_;refine ⟨Tx.vw [116] 61 (by decide) (by decide),fits (by simp),fun p hp=>⟨fits (by simp),fun p1 kh=>⟨Tx.vw [116] 600 (by decide) (by decide),fits (by simp),fun l hl=>⟨l,_,rfl,ay,s1.trans ((ag.upd hp).trans ((ag.upd kh).trans (ag.upd hl))),?_,by simp,by simp,fun _ v hv=>?_⟩⟩⟩⟩
   ·exact (((bt.same s1).same (ag.upd hp)).same (ag.upd kh)).ne hl
   ·have bp:=(ag.upd (o:=.lst [V.str (Txt.mul (Str.ofString "t") 61),V.aw,V.int 7,V.bl true,V.ref p,V.ref p1,V.str (Txt.mul (Str.ofString "t") 600)]) hl) _ _ ((ag.upd (o:=.tup [V.str "t"]) kh) _ _ (ay (H:=H1) (a:=p) (o:=.lst [V.str "t"])));have bp1:=(ag.upd (o:=.lst [V.str (Txt.mul (Str.ofString "t") 61),V.aw,V.int 7,V.bl true,V.ref p,V.ref p1,V.str (Txt.mul (Str.ofString "t") 600)]) hl) _ _ (ay (H:=upd H1 p (.lst [V.str "t"])) (a:=p1) (o:=.tup [V.str "t"]));simp only [pi,ss,AC] at hv;rcases hv with rfl | rfl | rfl | rfl | rfl | rfl | rfl <;> first | exact ud (nN bp) | exact ud (abL bp1) | exact vP (by symm)
  ·exact fJ (tz hwp) ⟨l0,km,rfl,b1,s1,n1,x0,x1,fun h=>g1 (by rcases h with h | h | h | h;exact .inl h;exact .inr (.inl h);exact .inr (.inr h);exact absurd h hwp)⟩
 clear b1 s1 n1 x0 x1 g1 km l0 H1;rintro σ' H1 ⟨l0,km,rfl,b1,s1,n1,x0,x1,g1⟩;have g:=g1 (by
  simp only [pi,ss,AC] at hw;exact hw)
 left;simp only [bR,b1];refine tI (bt.same s1) (by omega) (by omega) fun d H2 d0 d1 h2 k2=>?_;obtain ⟨v,hv,ev⟩:=pick (xs:=km) d0 d1;simp only [k2 _ _ n1 b1,ev];exact q v H2 ((g v hv).keep (bt.same s1) h2 k2) h2 ((s1.keep st).trans k2)
def Qk (K:ν):Sp:=og fun a k H Q _=>A3 (∃ ns:List Int,aH K H a (ns.map V.int)) (0<=k) (∀ c:Int,Q (.int c) H)
def Xm:T.qo.k P w base 1 (Qk K):=by
 refine T.qo.F.ok Wv (fun _ _ _ _ h=>cL h fun _ _ _=>rfl) fun _ A _ s H vs Q E hr h=>cL h fun a k h=>?_;obtain ⟨⟨ns,hS⟩,hk,q⟩:=h;obtain ⟨k,rfl⟩:=_l hk;refine ⟨_,((ad (aW (bw yQ (ac 1) (bJ (Zl (K:=K) rfl) T.gv IR (aa (ac 0) ae))) (ah (aK (dl (Zx (K:=K) rfl) (ac 0) (ac 1)))) cr) (ah (aK bi)))).h,?_⟩;refine stI [some (.ref a),some (.int (k:Nat))] ?_;right;refine ⟨_,hS,?_⟩;refine sJ (fun hd=>?_) (fun _=>q _);have hl:k < ns.length:=by have:=_U hd;rw [pp] at this;omega
 refine ⟨_,.int ns[k],hS,?_,q _⟩;refine lK (j:=k) ?_;rw [Da,mo hl];rfl
def iJ (wy:Nat) (w:Str):Bool:=if w = "other" then decide (wy=2\/wy=3) else if w = "rights" then decide (wy=0\/wy=1\/wy=5) else if w = "text" then decide (wy=1\/wy=7) else true
def US:T.qD.k P w base 1 (fun vs H Q _=>∃ wy:Nat,∃ w:Str,vs=[.int (wy:Int),.str w]/\wy < 9/\∀ H',ag H H'->Q (.bl (iJ wy w)) H'):=by
 refine T.qD.F.ok VY (fun vs H Q E ⟨_,_,e,_⟩=>by rw [e];rfl) (fun cdv A outer s H vs Q E hr ⟨wy,wd,e,h9,q⟩=>?_);subst e;refine aY (b:=aN BV) ((ad (aW (bw gK (ac 1) ap) (ah (aK (ii (qB (K:=K) rfl) (ac 0) (jp (aa bi (aa bi ae)))))) cr)
   (ad (aW (bw gK (ac 1) ap) (ah (aK (ii (qB (K:=K) rfl) (ac 0) (jp (aa bi (aa bi (aa bi ae))))))) cr)
   (ad (aW (bw gK (ac 1) ap) (ah (aK (ii (qB (K:=K) rfl) (ac 0) (jp (aa bi (aa bi ae)))))) cr)
   (ah (aK ge)))))) ?_
 refine stI [some (V.int (wy:Int)),some (V.str wd)] ?_;unfold iJ at q;right;by_cases h1:wd=("other":Str)
 ·rw [AT h1] at q;refine iQ (xz h1) ⟨fits (by simp),fun p hp=>⟨_,.inr (bT.of ay),rfl,rfl,?_⟩⟩;rw [(show ∀ k:Nat,k < 9->dX (V.int (k:Int)) [V.int 2,V.int 3]=decide (k=2\/k=3) by decide) wy h9];exact q _ (ag.upd hp)
 rw [zn h1] at q;refine fJ (tz h1) (ai ?_);left;by_cases h2:wd=("rights":Str)
 ·rw [AT h2] at q;refine iQ (xz h2) ⟨fits (by simp),fun p hp=>⟨_,.inr (bT.of ay),rfl,rfl,?_⟩⟩;rw [(show ∀ k:Nat,k < 9->dX (V.int (k:Int)) [V.int 0,V.int 1,V.int 5]=decide (k=0\/k=1\/k=5) by decide) wy h9];exact q _ (ag.upd hp)
 rw [zn h2] at q;refine fJ (tz h2) (ai ?_);left;by_cases h3:wd=("text":Str)
 ·rw [AT h3] at q;refine iQ (xz h3) ⟨fits (by simp),fun p hp=>⟨_,.inr (bT.of ay),rfl,rfl,?_⟩⟩;rw [(show ∀ k:Nat,k < 9->dX (V.int (k:Int)) [V.int 1,V.int 7]=decide (k=1\/k=7) by decide) wy h9];exact q _ (ag.upd hp)
 rw [zn h3] at q;refine fJ (tz h3) ?_;left;exact q _ (ag.refl _)
def GJ {K:ν} {l:Addr} {xs:List V} {tt:TT} {te:TE} {H:Hp} {Q:VK} {vs:List V} (W:Nat->List V->Hp->Prop) (hz:xs.length<=1000) (w0:W 0 [] H) (wl:∀ i ys H1,W i ys H1->ys.length<=i) (ws:∀ i ys H1,W i ys H1->aH K H1 l xs)
  (ht:∀ k x ys H1,xs[k]?=some x->W k ys H1->∀ R:Bool->Hp->Prop,(∀ b H2,W (k+1) (if b=true then ys++[x] else ys) H2->R b H2)->tt (some x::vs.map some) H1 R)
  (he:∀ x∈xs,∀ H1,∀ R:VK,R x H1->te (some x::vs.map some) H1 R)
  (q:∀ ys H1 l',W xs.length ys H1->H1 l'=none->Q (.ref l') (upd H1 l' (.lst ys))):nR (jY K l) 1 vs (fT 0) tt te Q H:=by
 have hsz:xs.length<=sizeLine:=fits hz;refine ⟨fun i zs k H1=>W i zs H1/\i<=xs.length/\k=xs.length - i,⟨_,w0,Do _,rfl⟩,?_⟩;rintro i zs k H1 ⟨hw,hi,rfl⟩;have hlen:=wl _ _ _ hw;have hs:=ws _ _ _ hw;refine ⟨by omega,?_⟩;by_cases h:i < xs.length
 ·have hx:xs[i]?=some xs[i]:=mo h;have hm:=_H h;refine .inr ⟨⟨xs,xs[i],hs,hx⟩,by omega,?_⟩;rintro y H' ⟨rfl,hy⟩ σ0 hσ0;obtain ⟨a,rfl⟩:=xF hσ0;have ey:y=xs[i]:=by
   have:=hy xs hs;rw [hx] at this;cases this;rfl
  subst ey;refine ⟨⟨[some xs[i]],rfl,rfl⟩,?_⟩;refine ht i _ zs _ hx hw _ fun b H2 w2=>?_;cases b with
  | true =>
   rw [AT rfl];exact he _ hm _ _ ⟨xs.length - (i+1),by omega,w2,h,rfl⟩
  | false =>
   rw [zn (by nofun)];exact ⟨xs.length - (i+1),by omega,w2,h,rfl⟩
 ·have e:i=xs.length:=by omega
  subst e;exact .inl ⟨⟨xs,hs,ul _⟩,fun l' hl'=>q _ _ _ hw hl'⟩
def Jv {H H':Hp} (c:∀ {v:V} {ty:String},clsName H v=some ty->clsName H' v=some ty) {v:V} (h:ff H v):ff H' v:=by
 cases v with
 | str z=>exact h
 | _=>obtain ⟨ty,h⟩:=h;exact ⟨ty,c h⟩
def kL {ix:List Nat} {σ:St} {vs vs':List V} (h:fD ix σ vs) (h':fD ix σ vs'):vs=vs':=by
 refine List.ext_getElem? fun i=>?_;rcases Nat.lt_or_ge i vs.length with hi | hi
 ·have hi':i < vs'.length:=by rw [h'.1,<- h.1];exact hi
  have hx:i < ix.length:=by rw [<- h.1];exact hi
  have e1:=h.2 i _ _ (mo hx) (mo hi);have e2:=h'.2 i _ _ (mo hx) (mo hi');rw [e1] at e2;rw [mo hi,mo hi'];exact Fk e2
 ·rw [XV hi,XV (by rw [h'.1,<- h.1];exact hi)]
inductive Am (T:Tx K mg) (H:Hp) (M:Hs) (wy:Nat) (va vp vo vm vr vx:V):Addr->Str->Prop
 | ee:ed T H M va vp T.bW->Am T H M wy va vp vo vm vr vx T.bW "asker"
 | path:ed T H M va vp T.bN->Am T H M wy va vp vo vm vr vx T.bN "path"
 | other {z t}:fV M va vp z t->(wy=2\/wy=3)->ff H vo->Am T H M wy va vp vo vm vr vx T.bN "path"
 | gZ {z t}:fV M va vp z t->(wy=0\/wy=1\/wy=5)->iy H vm vr->Am T H M wy va vp vo vm vr vx T.bV "rights"
 | text {z t y y'}:fV M va vp z t->(wy=1\/wy=7)->vm=.str y->y∈er->vr=.str y'->y'∈er->(∃ ty,clsName H vx=some ty)->kT vx=true->Am T H M wy va vp vo vm vr vx T.cw "text"
def ed.mono {T:Tx K mg} {H H':Hp} {M:Hs} {va vp:V} {C:Addr} (h:ed T H M va vp C) (c:∀ {v:V} {ty:String},clsName H v=some ty->clsName H' v=some ty):ed T H' M va vp C:=by
 cases h with
 | ee h1 h2=>exact .ee (let ⟨ty,e⟩:=h1;⟨ty,c e⟩) h2
 | path h1 h2 h3=>exact .path h1 h2 (Jv c h3)
def iy.mono {H H':Hp} {vm vr:V} (h:iy H vm vr) (c:∀ {v:V} {ty:String},clsName H v=some ty->clsName H' v=some ty):iy H' vm vr:=by
 cases h with
 | BP h1 h2=>exact .BP (let ⟨ty,e⟩:=h1;⟨ty,c e⟩) h2
 | rest h1 h2 h3 h4=>exact .rest h1 h2 (let ⟨ty,e⟩:=h3;⟨ty,c e⟩) h4
def Am.mono {T:Tx K mg} {H H':Hp} {M:Hs} {wy:Nat} {va vp vo vm vr vx:V} {C:Addr} {wd:Str} (h:Am T H M wy va vp vo vm vr vx C wd) (c:∀ {v:V} {ty:String},clsName H v=some ty->clsName H' v=some ty):Am T H' M wy va vp vo vm vr vx C wd:=by
 cases h with
 | ee h=>exact .ee (h.mono c)
 | path h=>exact .path (h.mono c)
 | other h1 h2 h3=>exact .other h1 h2 (Jv c h3)
 | gZ h1 h2 h3=>exact .gZ h1 h2 (h3.mono c)
 | text h1 h2 h3 h4 h5 h6 h7 h8=>exact .text h1 h2 h3 h4 h5 h6 (let ⟨ty,e⟩:=h7;⟨ty,c e⟩) h8
def Am.word {T:Tx K mg} {H H':Hp} {M:Hs} {wy:Nat} {va vp vo vm vr vx:V} {C:Addr} {wd:Str} {Q:VK} (h:Am T H M wy va vp vo vm vr vx C wd) (q:∀ H2,ag H' H2->Q (.str wd) H2):vO T Q (.ref C) none H':=by
 cases h with
 | ee h=>exact ⟨_,0,rfl,xg T,_,by symm,q⟩
 | path h=>exact ⟨_,1,rfl,Mx T,_,by symm,q⟩
 | other h1 h2 h3=>exact ⟨_,1,rfl,Mx T,_,by symm,q⟩
 | gZ h1 h2 h3=>exact ⟨_,3,rfl,Lw T,_,by symm,q⟩
 | text h1 h2 h3 h4 h5 h6 h7 h8=>exact ⟨_,4,rfl,OK T,_,by symm,q⟩
def Qx {T:Tx K mg} {H:Hp} {A:Ad} {L:List Ta} {M:Hs} {n wy:Nat} {lm:Lm} {N':List Str} {ix:List Nat} {W:List V->bE} {va vp vo vm vr vx:V} {vs':List V} {C:Addr} {wd:Str} {Q:VK} {E:XK} (i:aI T.aD T.aJ T.aM H A L M) (a:Am T H M wy va vp vo vm vr vx C wd) (r:fQ T n wy lm N' ix W) (hc:fD ix [some (.ref A.a),some (.int (wy:Int)),some va,some vp,some vo,some vm,some vr,some vx] vs') (q:∀ H',ag H H'->E (.ref C) none H'):W vs' H Q E:=by
 cases r with
 | r0 =>
  obtain rfl:=kL hc (vs':=[.ref A.a,va,vp,vm,vr]) (az rfl (az rfl (az rfl (az rfl (az rfl bX)))));cases a with
  | ee hb=>exact ⟨A,L,M,va,vp,vm,vr,_,rfl,i,.inl hb,q⟩
  | path hb=>exact ⟨A,L,M,va,vp,vm,vr,_,rfl,i,.inl hb,q⟩
  | other g h2 h3=>omega
  | gZ g h2 h3=>exact ⟨A,L,M,va,vp,vm,vr,_,rfl,i,.inr ⟨_,_,g,h3,rfl⟩,q⟩
  | text g h2 h3 h4 h5 h6 h7 h8=>omega
 | r1 =>
  obtain rfl:=kL hc (vs':=[.ref A.a,va,vp,vx,vm,vr]) (az rfl (az rfl (az rfl (az rfl (az rfl (az rfl bX))))));cases a with
  | ee hb=>exact ⟨A,L,M,va,vp,vx,vm,vr,_,rfl,i,.inl hb,q⟩
  | path hb=>exact ⟨A,L,M,va,vp,vx,vm,vr,_,rfl,i,.inl hb,q⟩
  | other g h2 h3=>omega
  | gZ g h2 h3=>exact ⟨A,L,M,va,vp,vx,vm,vr,_,rfl,i,.inr ⟨_,_,g,.inl ⟨h3,rfl⟩⟩,q⟩
  | text g h2 h3 h4 h5 h6 h7 h8=>exact ⟨A,L,M,va,vp,vx,vm,vr,_,rfl,i,.inr ⟨_,_,g,.inr ⟨_,_,h3,h4,h5,h6,h7,h8,rfl⟩⟩,q⟩
 | r2 =>
  obtain rfl:=kL hc (vs':=[.ref A.a,va,vp,vo]) (az rfl (az rfl (az rfl (az rfl bX))));cases a with
  | ee hb=>exact ⟨A,L,M,va,vp,vo,_,rfl,i,.inl hb,q⟩
  | path hb=>exact ⟨A,L,M,va,vp,vo,_,rfl,i,.inl hb,q⟩
  | other g h2 h3=>exact ⟨A,L,M,va,vp,vo,_,rfl,i,.inr ⟨_,_,g,.inl h3,rfl⟩,q⟩
  | gZ g h2 h3=>omega
  | text g h2 h3 h4 h5 h6 h7 h8=>omega
 | r3 =>
  obtain rfl:=kL hc (vs':=[.ref A.a,va,vp,vo]) (az rfl (az rfl (az rfl (az rfl bX))));cases a with
  | ee hb=>exact ⟨A,L,M,va,vp,vo,_,rfl,i,.inl hb,q⟩
  | path hb=>exact ⟨A,L,M,va,vp,vo,_,rfl,i,.inl hb,q⟩
  | other g h2 h3=>exact ⟨A,L,M,va,vp,vo,_,rfl,i,.inr ⟨_,_,g,h3,rfl⟩,q⟩
  | gZ g h2 h3=>omega
  | text g h2 h3 h4 h5 h6 h7 h8=>omega
 | r4 =>
  obtain rfl:=kL hc (vs':=[.ref A.a,va,vp]) (az rfl (az rfl (az rfl bX)));cases a with
  | ee hb=>exact ⟨A,L,M,va,vp,_,rfl,i,hb,q⟩
  | path hb=>exact ⟨A,L,M,va,vp,_,rfl,i,hb,q⟩
  | other g h2 h3=>omega
  | gZ g h2 h3=>omega
  | text g h2 h3 h4 h5 h6 h7 h8=>omega
 | r5 =>
  obtain rfl:=kL hc (vs':=[.ref A.a,va,vp,vm,vr]) (az rfl (az rfl (az rfl (az rfl (az rfl bX)))));cases a with
  | ee hb=>exact ⟨A,L,M,va,vp,vm,vr,_,rfl,i,.inl hb,q⟩
  | path hb=>exact ⟨A,L,M,va,vp,vm,vr,_,rfl,i,.inl hb,q⟩
  | other g h2 h3=>omega
  | gZ g h2 h3=>exact ⟨A,L,M,va,vp,vm,vr,_,rfl,i,.inr ⟨_,_,g,h3,rfl⟩,q⟩
  | text g h2 h3 h4 h5 h6 h7 h8=>omega
 | r6 =>
  obtain rfl:=kL hc (vs':=[.ref A.a,va,vp]) (az rfl (az rfl (az rfl bX)));cases a with
  | ee hb=>exact ⟨A,L,M,va,vp,_,rfl,i,hb,q⟩
  | path hb=>exact ⟨A,L,M,va,vp,_,rfl,i,hb,q⟩
  | other g h2 h3=>omega
  | gZ g h2 h3=>omega
  | text g h2 h3 h4 h5 h6 h7 h8=>omega
 | r7 =>
  obtain rfl:=kL hc (vs':=[.ref A.a,va,vp,vx]) (az rfl (az rfl (az rfl (az rfl bX))));cases a with
  | ee hb=>exact ⟨A,L,M,va,vp,vx,_,rfl,i,.inl hb,q⟩
  | path hb=>exact ⟨A,L,M,va,vp,vx,_,rfl,i,.inl hb,q⟩
  | other g h2 h3=>omega
  | gZ g h2 h3=>omega
  | text g h2 h3 h4 h5 h6 h7 h8=>exact ⟨A,L,M,va,vp,vx,_,rfl,i,.inr ⟨_,_,g,h7,h8,rfl⟩,q⟩
 | r8 =>
  obtain rfl:=kL hc (vs':=[.ref A.a,va,vp]) (az rfl (az rfl (az rfl bX)));cases a with
  | ee hb=>exact ⟨A,L,M,va,vp,_,rfl,i,hb,q⟩
  | path hb=>exact ⟨A,L,M,va,vp,_,rfl,i,hb,q⟩
  | other g h2 h3=>omega
  | gZ g h2 h3=>omega
  | text g h2 h3 h4 h5 h6 h7 h8=>omega
def qa (H H':Hp):Prop:=∀ b o,((∃ xs,o=.lst xs)\/∃ xs,o=.tup xs)->H b=some o->H' b=some o
def NX.s {H H':Hp} (k:NX H H'):qa H H':=fun b o h e=>k b o (by rcases h with ⟨_,rfl⟩ | ⟨_,rfl⟩ <;> nofun) e
def qa.l {H H':Hp} (k:qa H H') {b:Addr} {xs:List V} (e:H b=some (.lst xs)):H' b=some (.lst xs):=k _ _ (.inl ⟨_,rfl⟩) e
def qa.t {H H':Hp} (k:qa H H') {b:Addr} {xs:List V} (e:H b=some (.tup xs)):H' b=some (.tup xs):=k _ _ (.inr ⟨_,rfl⟩) e
def iK.KS {H H':Hp} {N:Addr->Prop} {ts:List Th} {l:Addr} (h:iK H N ts l) (k:qa H H'):iK H' N ts l:=by
 obtain ⟨rs,e,el,nd,nl,r⟩:=h;refine ⟨rs,k.l e,el,nd,nl,fun j a t h1 h2=>?_⟩;obtain ⟨ri,pl,nm,e1,e2,e3,e4,n⟩:=r j a t h1 h2;refine ⟨ri,pl,nm,k.l e1,k.t e2,?_,k.l e4,n⟩;rcases e3 with ⟨e,e3⟩ | ⟨f,z,y,e,e3,e5⟩
 ·exact .inl ⟨e,k.l e3⟩
 ·exact .inr ⟨f,z,y,e,k.l e3,k.t e5⟩
def W5:List Str:=["asker","path","other","rights","text"]
structure RtH (T:Tx K mg) (H:Hp) (A:Ad) (L:List Ta) (M:Hs):Prop where
 i:aI T.aD T.aJ T.aM H A L M
 ro:M.ro=lZ
 n:M.ts.length<=60
 n0:M.ts≠[]
 rows:∀ (k:Nat) (t:Th),M.ts[k]?=some t->t.bU.length < 64/\(t.df=[]\/∃ f z,t.df=[(f,z)])
def S6 (T:Tx K mg) (Pe:Addr):Sp:=fun vs H Q _=>∃ A L M st es,vs=[.ref A.a,.ref st]/\RtH T H A L M/\Dr st H/\st ∉ A.w++L.flatMap Ta.l/\da H Pe dk es/\∀ H' es',aI T.aD T.aJ T.aM H' A L M->da H' Pe dk es'->Kp [Pe,st] H H'->Q (.bl true) H'
def FA (am:List Str) (H:Hp) (v:V):Prop:=(("asker":Str)∈am->gm "asker" H v)/\(("asker":Str) ∉ am->v=.str "own")
def FP (am:List Str) (H:Hp) (v:V):Prop:=(("path":Str)∈am->gm "path" H v)/\(("path":Str) ∉ am->∃ t,v=.str (Tx.S t)/\ig t)
def FO (am:List Str) (H:Hp) (v:V):Prop:=("other":Str)∈am->gm "path" H v
def FR (am:List Str) (H:Hp) (vm vr:V):Prop:=(("rights":Str)∈am->iy H vm vr)/\(("rights":Str) ∉ am->vm=.str "lg" /\ vr=.str "w")
section
variable {am:List Str} {H H':Hp} {v vm vr:V} {st:Addr}
def FA.keep (h:FA am H v) (d:Dr st H) (d':Dr st H') (k:cg st H H'):FA am H' v:=⟨fun e=>(h.1 e).keep d d' k,h.2⟩
def FP.keep (h:FP am H v) (d:Dr st H) (d':Dr st H') (k:cg st H H'):FP am H' v:=⟨fun e=>(h.1 e).keep d d' k,h.2⟩
def FO.keep (h:FO am H v) (d:Dr st H) (d':Dr st H') (k:cg st H H'):FO am H' v:=fun e=>(h e).keep d d' k
def FR.keep (h:FR am H vm vr) (d:Dr st H) (d':Dr st H') (k:cg st H H'):FR am H' vm vr:=⟨fun e=>(h.1 e).mono fun z=>Ct d d' k z,h.2⟩
end
def abl {z:Str} {am:List Str}:dX (.str z) (am.map V.str)=decide (z∈am):=by
 induction am with
 | nil=>rfl
 | cons a r ih =>
  rw [ut];unfold dX at ih ⊢;rw [UV,ih];show ((a == z) || decide (z∈r))=decide (z∈a::r);by_cases h:z=a
  ·subst h;simp
  ·have h':¬ a=z:=fun e=>h e.symm;simp [h,h']
def tU {K:ν} {H:Hp} {l:Addr} {am:List Str} {z:Str} {A B:Prop} (b:H l=some (.lst (am.map V.str))) (ha:z∈am->A) (hb:z ∉ am->B):bR K H l fun xs=>cU (.str z)=true/\xs.all cU=true/\if dX (.str z) xs=true then A else B:=by
 simp only [bR,b];refine ⟨rfl,Kq am,?_⟩;rw [abl];by_cases h:z∈am
 ·exact iQ (xz h) (ha h)
 ·exact fJ (tz h) (hb h)
def zV:List V:=[V.str "/in/x",V.str "/in/file",V.str "gone/x",V.str "/in/..",V.str "/",V.str "/in/file/x",V.str "/ring"]
def Rv {v:V} (h:v∈zV):∃ t,v=.str (Tx.S t)/\ig t:=by
 simp only [zV,pi,ss,AC] at h;have key:∀ z:Str,(decide (1<=z.cps.toList.length) && decide (z.cps.toList.length<=2000) && (Tx.words 47 z.cps.toList).all ef && decide (z=Tx.S z.cps.toList))=true->∃ t,V.str z=.str (Tx.S t)/\ig t:=fun z h=>by
  simp only [Ch,LT] at h;exact ⟨z.cps.toList,PP V.str h.2,⟨h.1.1.1,h.1.1.2,h.1.2⟩⟩
 rcases h with rfl | rfl | rfl | rfl | rfl | rfl | rfl <;> exact key _ (by symm)
def Su:List V:=[V.str "/in/y",V.str "in/file",V.str "/gone",V.str "..",V.str "/ring/x"]
def OL {T:Tx K mg} {H:Hp} {M:Hs} {wy:Nat} {va vp vo vm vr vx:V} {am ws:List Str} (lR:M.ro=lZ) (qQ:W5.filter (iJ wy)=ws) (hs:am.Sublist ws) (dQ:am≠[]) (fa:FA am H va) (fp:FP am H vp) (fo:FO am H vo) (fr:FR am H vm vr) (fx:("text":Str)∈am->gm "text" H vx) :
  ∃ CC wd,(∃ a0 r,am=a0::r/\wd=if a0=("other":Str) then ("path":Str) else a0)/\Am T H M wy va vp vo vm vr vx CC wd:=by
 have ask:∀ w∈am,iJ wy w=true:=fun w hw=>by
  have:=hs.subset hw;rw [<- qQ] at this;exact (_6.mp this).2
 have h5:am.Sublist W5:=hs.trans (qQ ▸ List.filter_sublist);have own:(bb (sD M.ro) (.inr ("own":Str))).isSome=true:=by rw [lR];symm
 have ne:∀ {l:List Str} {w:Str},am.Sublist l->l.contains w=false->w ∉ am:=fun {l w} h hc hw=>by
  have:=h.subset hw;have z:l.contains w=true:=List.elem_iff.mpr this;rw [hc] at z;cases z
 rcases ZB.mp h5 with h4 | ⟨r,e,_⟩
 ·have na:=ne (w := "asker") h4 (by symm);have ea:=fa.2 na;rcases ZB.mp h4 with h3 | ⟨r,e,_⟩
  ·have np:=ne (w := "path") h3 (by symm);obtain ⟨t,ep,pt⟩:=fp.2 np;have g:fV M va vp "own" t:=⟨ea,own,ep,pt⟩;rcases ZB.mp h3 with h2 | ⟨r,e,_⟩
   ·rcases ZB.mp h2 with h1 | ⟨r,e,_⟩
    ·have nr:=ne (w := "rights") h1 (by symm);rcases ZB.mp h1 with h0 | ⟨r,e,_⟩
     ·exact absurd (List.sublist_nil.mp h0) dQ
     ·have hm:("text":Str)∈am:=by rw [e];simp
      have b:=fx hm;have a:=ask _ hm;unfold iJ at a;rw [zn (by symm),zn (by symm),AT rfl,LT] at a;obtain ⟨e1,e2⟩:=fr.2 nr;exact ⟨_,_,⟨_,_,e,by symm⟩,.text g a e1 (by symm) e2 (by symm) b.1 (b.2.2.2.2 rfl)⟩
    ·have hm:("rights":Str)∈am:=by rw [e];simp
     have a:=ask _ hm;unfold iJ at a;rw [zn (by symm),AT rfl,LT] at a;exact ⟨_,_,⟨_,_,e,by symm⟩,.gZ g a (fr.1 hm)⟩
   ·have hm:("other":Str)∈am:=by rw [e];simp
    have a:=ask _ hm;unfold iJ at a;rw [AT rfl,LT] at a;exact ⟨_,_,⟨_,_,e,by symm⟩,.other g a ((fo hm).2.2.1 rfl)⟩
  ·exact ⟨_,_,⟨_,_,e,by symm⟩,.path (.path ea own ((fp.1 (by rw [e];simp)).2.2.1 rfl))⟩
 ·have b:=fa.1 (by rw [e];simp);exact ⟨_,_,⟨_,_,e,by symm⟩,.ee (.ee b.1 fun z ez=>by rw [lR];exact b.2.1 rfl z ez)⟩
def ac3 {Pe:Addr} (C:PySem.W.CodeHd base T.m6 Pe) (cT:base.BuiltinsAt mg Pe):aq P w K mg base (aR P w) 20 T.oj.f T.oj.d ["_law_house","_law_source_here"] (S6 T Pe):=by
 have G_l_deed:=R8 (P:=P) (w:=w) (base:=base) T C cT;refine T.oj.F.br eO (fun vs H Q E ⟨_,_,_,_,_,e,_⟩=>by rw [e];rfl) (fun cdv A outer s H vs Q E hr ⟨AA,L,M,st,es,e,h,bt,El,tab,q⟩=>?_);subst e;have HD:=RW (X:=c7 (aR P w) P w K mg base ["_law_house","_law_source_here","_law_way","_law_words","_law_amiss","_law_asker","_law_path","_law_other","_law_mine","_law_rest","_law_text","_law_ahead","_law_found"] "_law_right" (ax xv) T.oj.f cdv A outer s H E) (k:=17) (q:=dk) (T:=fun l N' W=>∃ n k ix,fQ T n k l N' ix W) fun l N' W ⟨n,k,ix,r⟩=>Jj T r;refine aY (b:=aN xv) ((ad (aO 2 eO.nd (bn (mQ T) hr.m T.cZ.m T.cZ.F.kp T.cZ.b .nil aB (aa (ac 1) (aa bi ae))))
   (ad (xA 3 rfl eO.nd (TN:=["_law_word"]) (caps:=["_law_way"]) (ix:=[2]) (lG (K:=K) rfl (db (aa ap (aa ap (aa ap (aa ap (aa ap ae))))))) (fun _ _ _ _=>by exact (pP (cO (bn (US T) hr.m T.qD.m T.qD.F.kp T.qD.b .nil aB (aa (ac 1) (aa (ac 0) ae)))))) (fun _ _ _ _=>by exact (hX 0 (show List.Nodup (["_law_word","_law_way"]:List Str) by decide))) (fun _ _ _ _=>by exact (ac 0)) (.of rfl (by exact ⟨rfl,trivial⟩) (by walk_at "c") rfl (by exact ⟨⟨rfl,rfl,rfl,rfl⟩,trivial⟩)))
   (ad (xA 4 rfl eO.nd (TN:=["_law_word"]) (caps:=["_law_source_here"]) (ix:=[1]) (lG (K:=K) rfl (ac 3)) (fun _ _ _ _=>by exact (pP (bw gK (bn (mQ T) hr.m T.cZ.m T.cZ.F.kp T.cZ.b .nil aB (aa (ac 1) (aa bi ae))) bi))) (fun _ _ _ _=>by exact (hX 0 (show List.Nodup (["_law_word","_law_source_here"]:List Str) by decide))) (fun _ _ _ _=>by exact (ac 0)) (.of rfl (by exact ⟨rfl,trivial⟩) (by walk_at "c") rfl (by exact ⟨⟨rfl,rfl,rfl,rfl⟩,trivial⟩)))
   (ad (aW (bw (zx hr.mT) (ac 4) (db ae)) (ah (aO 4 eO.nd (db (aa (dl (bI (K:=K) rfl) (ac 3) (bn (mQ T) hr.m T.cZ.m T.cZ.F.kp T.cZ.b .nil aB (aa (ac 1) (aa (bJ (gN (K:=K) rfl) T.gv IR (aa (ac 3) ae)) ae)))) ae)))) cr)
   (ad (aO 5 eO.nd ap)
   (ad (aO 6 eO.nd (dl (bI (K:=K) rfl) (db (aa ap (aa ap (aa ap (aa ap (aa ap (aa ap (aa ap ae)))))))) (bn (mQ T) hr.m T.cZ.m T.cZ.F.kp T.cZ.b .nil aB (aa (ac 1) (aa bi ae)))))
   (ad (aO 7 eO.nd (dl (bI (K:=K) rfl) (db (aa ap (aa ap (aa ap (aa ap (aa ap ae)))))) (bn (mQ T) hr.m T.cZ.m T.cZ.F.kp T.cZ.b .nil aB (aa (ac 1) (aa bi ae)))))
   (ad (aO 8 eO.nd ap)
   (ad (aO 9 eO.nd ap)
   (ad (aO 10 eO.nd (dl (bI (K:=K) rfl) (db (aa ap (aa (dL mq ap bi) ae))) (bn (mQ T) hr.m T.cZ.m T.cZ.F.kp T.cZ.b .nil aB (aa (ac 1) (aa bi ae)))))
   (ad (aW (bw (md (K:=K) rfl) ap (ac 4)) (ah (aO 5 eO.nd (bn (pS T) hr.m T.eh.m T.eh.F.kp T.eh.b .nil aB (aa (ac 1) (aa ap ae))))) cr)
   (ad (aW (bw (md (K:=K) rfl) ap (ac 4)) (ah (aO 6 eO.nd (bn (pS T) hr.m T.eh.m T.eh.F.kp T.eh.b .nil aB (aa (ac 1) (aa ap ae))))) cr)
   (ad (aW (bw (md (K:=K) rfl) ap (ac 4)) (ah (aO 7 eO.nd (bn (pS T) hr.m T.eh.m T.eh.F.kp T.eh.b .nil aB (aa (ac 1) (aa ap ae))))) cr)
   (ad (aW (bw (md (K:=K) rfl) ap (ac 4)) (ad (aO 8 eO.nd (dl (bI (K:=K) rfl) (db (aa ap (aa (bn (pS T) hr.m T.eh.m T.eh.F.kp T.eh.b .nil aB (aa (ac 1) (aa ap ae))) ae))) (bn (mQ T) hr.m T.cZ.m T.cZ.F.kp T.cZ.b .nil aB (aa (ac 1) (aa bi ae)))))
   (ah (aO 9 eO.nd (bn (pS T) hr.m T.eh.m T.eh.F.kp T.eh.b .nil aB (aa (ac 1) (aa ap ae)))))) cr)
   (ad (aW (bw (md (K:=K) rfl) ap (ac 4)) (ah (aO 10 eO.nd (bn (pS T) hr.m T.eh.m T.eh.F.kp T.eh.b .nil aB (aa (ac 1) (aa ap ae))))) cr)
   (ad (aO 11 eO.nd (bn (Lv T) hr.m T.kP.m T.kP.F.kp T.kP.b .nil aB (aa (ac 0) ae)))
   (ad (aO 12 eO.nd (iS HD (iR T) hr.m T.cy.m T.cy.F.kp T.cy.b dJ (bn G_l_deed hr.m T.Vk T.u7.kp T.y9 .nil aB (aa (ac 0) (aa (ac 2) (aa (ac 5) (aa (ac 6) (aa (ac 7) (aa (ac 8) (aa (ac 9) (aa (ac 10) ae)))))))))))
   (ah (aK (pH (ii gK (ac 12) (aaA (eA hr) (Yb (U9 ap ap T8)) (dl (bI (K:=K) rfl) (ac 4) bi) (dl (bI (K:=K) rfl) (ac 4) bi))) (kt (ii (WV (K:=K) 4 rfl hr.Qr) (bn (Lv T) hr.m T.kP.m T.kP.F.kp T.kP.b .nil aB (aa (ac 0) ae)) (ac 11)))))))))))))))))))))))) ?_
 refine stI [some (.ref AA.a),some (.ref st),none,none,none,none,none,none,none,none,none,none,none] ?_;right;refine tI bt (by decide) (by decide) fun dw H1 w0 w1 d1 k1=>?_;obtain ⟨wy,rfl⟩:=_l w0;refine aX (fun σ' H'=>∃ l2,σ'=[some (.ref AA.a),some (.ref st),some (.int (wy:Int)),some (.ref l2),none,none,none,none,none,none,none,none,none]/\H' l2=some (.lst ((W5.filter (iJ wy)).map V.str))/\Dr st H'/\cg st H H'/\l2≠st) ?_ ?_
 ·left;refine ⟨[.int (wy:Int)],az rfl bX,fits (by simp),fun p hp=>?_⟩;have s1:=ag.upd (o:=.lst (W5.map V.str)) hp;have b1:upd H1 p (.lst (W5.map V.str)) p=some (.lst (W5.map V.str)):=ay;change (∃ xs,aH K (upd H1 p (.lst (W5.map V.str))) p xs)/\nR _ _ _ _ _ _ _ (upd H1 p (.lst (W5.map V.str)));generalize upd H1 p (.lst (W5.map V.str))=H2 at s1 b1 ⊢;refine ⟨⟨_,aH.of b1⟩,GJ (xs:=W5.map V.str) (fun i ys H'=>ag H2 H'/\ys=((W5.take i).filter (iJ wy)).map V.str) (by decide) ⟨ag.refl _,rfl⟩ (fun i ys H' h=>by rw [h.2,pp];exact wE (SC _ _) (by rw [Wp];omega)) (fun i ys H' h=>aH.of (h.1 _ _ b1)) (fun k x ys H3 hx hw R hR=>?_) (fun x hx H3 R hR=>?_) (fun ys H3 l' hw hl'=>?_)⟩
  ·rw [Da] at hx;obtain ⟨z,hz,rfl⟩:=_t.mp hx;rw [show ([V.int (wy:Int)]:List V).map some=[some (V.int (wy:Int))] from rfl];left;refine ⟨wy,z,rfl,by omega,fun H4 s4=>hR _ H4 ⟨hw.1.trans s4,?_⟩⟩;rw [hw.2,List.take_succ,hz,_R,NE];cases hb:iJ wy z <;> simp [hb]
  ·obtain ⟨z,_,rfl⟩:=Ix.mp hx;rw [show ([V.int (wy:Int)]:List V).map some=[some (V.int (wy:Int))] from rfl];left;exact hR
  ·have s5:=s1.trans (hw.1.trans (ag.upd (o:=.lst ys) hl'));exact ⟨l',rfl,by rw [ay,hw.2];rfl,d1.same s5,k1.trans (s5.keep st),(d1.same (s1.trans hw.1)).ne hl'⟩
 clear k1 d1 H1;rintro σ' H1 ⟨l2,rfl,b1,d1,k1,n1⟩;generalize qQ:W5.filter (iJ wy)=ws at b1;have wl:ws.length<=5:=by rw [<- qQ];exact SC _ _
 have w0':0 < ws.length:=by
  rw [<- qQ];exact List.length_pos_iff.mpr fun e=>by
   have:("asker":Str)∈W5.filter (iJ wy):=_6.mpr ⟨by symm,rfl⟩;rw [e] at this;cases this
 refine aX (fun σ' H'=>∃ l3,∃ am:List Str,σ'=[some (.ref AA.a),some (.ref st),some (.int (wy:Int)),some (.ref l2),some (.ref l3),none,none,none,none,none,none,none,none]/\H' l3=some (.lst (am.map V.str))/\am.Sublist ws/\H' l2=some (.lst (ws.map V.str))/\Dr st H'/\cg st H H'/\l3≠st) ?_ ?_
 ·left;refine ⟨[.ref st],az rfl bX,⟨_,aH.of b1⟩,GJ (xs:=ws.map V.str) (fun i ys H'=>cg st H1 H'/\Dr st H'/\∃ am:List Str,ys=am.map V.str/\am.Sublist (ws.take i)) (by rw [pp];omega) ⟨fun _ _ _ e=>e,d1,[],rfl,by simp⟩ (fun i ys H' ⟨_,_,am,e,h⟩=>by rw [e,pp];exact wE h.length_le (by rw [Wp];omega)) (fun i ys H' h=>aH.of (h.1 _ _ n1 b1)) (fun k x ys H3 hx hw R hR=>?_) (fun x hx H3 R hR=>?_) (fun ys H3 l' hw hl'=>?_)⟩
  ·rw [Da] at hx;obtain ⟨z,hz,rfl⟩:=_t.mp hx;obtain ⟨k3,d3,am,rfl,hs⟩:=hw;rw [show ([V.ref st]:List V).map some=[some (V.ref st)] from rfl];left;refine tI d3 (by decide) (by decide) fun dd H4 e0 e1 d4 k4=>hR _ H4 ⟨k3.trans k4,d4,?_⟩;rw [List.take_succ,hz];by_cases hd:dd=0
   ·rw [xz hd,AT rfl];exact ⟨am++[z],by simp,hs.append (List.Sublist.refl _)⟩
   ·rw [tz hd,zn (by nofun)];exact ⟨am,rfl,hs.trans (List.sublist_append_left _ _)⟩
  ·obtain ⟨z,_,rfl⟩:=Ix.mp hx;rw [show ([V.ref st]:List V).map some=[some (V.ref st)] from rfl];left;exact hR
  ·obtain ⟨k3,d3,am,rfl,hs⟩:=hw;rw [pp,List.take_length] at hs;have s5:=ag.upd (o:=.lst (am.map V.str)) hl';exact ⟨l',am,rfl,ay,hs,s5 _ _ (k3 _ _ n1 b1),d3.same s5,k1.trans (k3.trans (s5.keep st)),d3.ne hl'⟩
 clear k1 d1 b1 H1;rintro σ' H1 ⟨l3,xO,rfl,b3,yx,b2,d1,k1,n3⟩;refine aX (fun σ' H'=>∃ l3,∃ am:List Str,σ'=[some (.ref AA.a),some (.ref st),some (.int (wy:Int)),some (.ref l2),some (.ref l3),none,none,none,none,none,none,none,none]/\H' l3=some (.lst (am.map V.str))/\am.Sublist ws/\am≠[]/\Dr st H'/\cg st H H'/\l3≠st) ?_ ?_
 ·left;refine ⟨fits (by simp),fun p hp=>⟨xO,[],(ag.upd hp) _ _ b3,ay,?_⟩⟩;have s4:=ag.upd (o:=.lst []) hp;generalize upd H1 p (.lst [])=H4 at s4 ⊢;by_cases he:xO=[]
  ·refine iQ (xz he) ?_;simp only [bR,s4 _ _ b2];refine tI (d1.same s4) (by rw [pp];omega) (by rw [pp];omega) fun dd H5 e0 e1 d5 k5=>?_;obtain ⟨v,hv,ev⟩:=pick (xs:=ws.map V.str) e0 e1;simp only [k5 _ _ n1 (s4 _ _ b2),ev];obtain ⟨z,hz,rfl⟩:=Ix.mp hv;exact ⟨fits (by simp),fun p hp=>⟨p,[z],by trivial,ay,List.singleton_sublist.mpr hz,nofun,d5.same (ag.upd hp),(k1.trans ((s4.keep st).trans k5)).trans ((ag.upd hp).keep st),d5.ne hp⟩⟩
  ·exact fJ (tz he) ⟨l3,xO,rfl,s4 _ _ b3,yx,he,d1.same s4,k1.trans (s4.keep st),n3⟩
 clear k1 d1 b2 b3 n3 yx xO l3 H1;rintro σ' H1 ⟨l3,am,rfl,b3,hs,dQ,d1,k1,n3⟩;clear w0' wl n1;right;right;refine vQ (xs:=zV) d1 rfl (by decide) (by decide) fun vp0 H2 hvp d2 k2=>?_;right;refine vQ (xs:=Su) d2 rfl (by decide) (by decide) fun Oc H3 hvo d3 k3=>?_;right;right;right;refine ⟨Tx.vw [116] 60 (by decide) (by decide),vQ (xs:=[V.str "",V.str (Txt.mul (Str.ofString "t") 60)]) d3 rfl (by simp) (by simp) fun yg H4 hvx d4 k4=>?_⟩;have b4:=k4 _ _ n3 (k3 _ _ n3 (k2 _ _ n3 b3));have dR:=((k1.trans k2).trans k3).trans k4;clear b3 k1 k2 k3 k4 d1 d2 d3 H1 H2 H3 hvo hvx;refine aX (fun σ' H'=>∃ va,σ'=[some (.ref AA.a),some (.ref st),some (.int (wy:Int)),some (.ref l2),some (.ref l3),some va,some vp0,some Oc,some (.str "lg"),some (.str "w"),some yg,none,none]/\H' l3=some (.lst (am.map V.str))/\Dr st H'/\cg st H H'/\FA am H' va) ?_ ?_
 ·left;exact tU b4 (fun h=>⟨st,_,rfl,by symm,d4,fun v H5 bv d5 k5=>⟨v,rfl,k5 _ _ n3 b4,d5,dR.trans k5,fun _=>bv,fun z=>absurd h z⟩⟩) fun h=>⟨_,rfl,b4,d4,dR,fun z=>absurd z h,fun _=>rfl⟩
 clear b4 d4 dR H4;rintro σ' H4 ⟨va,rfl,b4,d4,dR,fa⟩;refine aX (fun σ' H'=>∃ vp,σ'=[some (.ref AA.a),some (.ref st),some (.int (wy:Int)),some (.ref l2),some (.ref l3),some va,some vp,some Oc,some (.str "lg"),some (.str "w"),some yg,none,none]/\H' l3=some (.lst (am.map V.str))/\Dr st H'/\cg st H H'/\FA am H' va/\FP am H' vp) ?_ ?_
 ·left;exact tU b4 (fun h=>⟨st,_,rfl,by symm,d4,fun v H5 bv d5 k5=>⟨v,rfl,k5 _ _ n3 b4,d5,dR.trans k5,fa.keep d4 d5 k5,fun _=>bv,fun z=>absurd h z⟩⟩) fun h=>⟨_,rfl,b4,d4,dR,fa,fun z=>absurd z h,fun _=>Rv hvp⟩
 clear b4 d4 dR H4 fa;rintro σ' H4 ⟨vp,rfl,b4,d4,dR,fa,fp⟩;refine aX (fun σ' H'=>∃ vo,σ'=[some (.ref AA.a),some (.ref st),some (.int (wy:Int)),some (.ref l2),some (.ref l3),some va,some vp,some vo,some (.str "lg"),some (.str "w"),some yg,none,none]/\H' l3=some (.lst (am.map V.str))/\Dr st H'/\cg st H H'/\FA am H' va/\FP am H' vp/\FO am H' vo) ?_ ?_
 ·left;exact tU b4 (fun h=>⟨st,_,rfl,by symm,d4,fun v H5 bv d5 k5=>⟨v,rfl,k5 _ _ n3 b4,d5,dR.trans k5,fa.keep d4 d5 k5,fp.keep d4 d5 k5,fun _=>bv⟩⟩) fun h=>⟨_,rfl,b4,d4,dR,fa,fp,fun z=>absurd z h⟩
 clear b4 d4 dR H4 fa fp;rintro σ' H4 ⟨vo,rfl,b4,d4,dR,fa,fp,fo⟩;refine aX (fun σ' H'=>∃ vm vr,σ'=[some (.ref AA.a),some (.ref st),some (.int (wy:Int)),some (.ref l2),some (.ref l3),some va,some vp,some vo,some vm,some vr,some yg,none,none]/\H' l3=some (.lst (am.map V.str))/\Dr st H'/\cg st H H'/\FA am H' va/\FP am H' vp/\FO am H' vo/\FR am H' vm vr) ?_ ?_
 ·left;refine tU b4 (fun h=>ai ?_) fun h=>⟨_,_,rfl,b4,d4,dR,fa,fp,fo,fun z=>absurd z h,fun _=>⟨rfl,rfl⟩⟩;left;refine ⟨st,_,rfl,by symm,d4,fun v1 H5 bv1 d5 k5=>vQ (xs:=[V.str "lg",v1]) d5 rfl (by simp) (by simp) fun vm H6 hvm d6 k6=>?_⟩;left;refine ⟨st,_,rfl,by symm,d6,fun vr H7 MD d7 k7=>?_⟩;have uH:=(k5.trans k6).trans k7;have b1':=(bv1.keep d5 d6 k6).keep d6 d7 k7;refine ⟨vm,vr,rfl,uH _ _ n3 b4,d7,dR.trans uH,fa.keep d4 d7 uH,fp.keep d4 d7 uH,fo.keep d4 d7 uH,fun _=>?_,fun z=>absurd h z⟩;simp only [pi,ss,AC] at hvm;rcases hvm with rfl | rfl
  ·exact .rest rfl (by symm) MD.1 (MD.2.2.2.1 rfl)
  ·exact .BP b1'.1 (b1'.2.2.2.1 rfl)
 clear b4 d4 dR H4 fa fp fo;rintro σ' H4 ⟨vm,vr,rfl,b4,d4,dR,fa,fp,fo,fr⟩;refine aX (fun σ' H'=>∃ vx,σ'=[some (.ref AA.a),some (.ref st),some (.int (wy:Int)),some (.ref l2),some (.ref l3),some va,some vp,some vo,some vm,some vr,some vx,none,none]/\H' l3=some (.lst (am.map V.str))/\Dr st H'/\cg st H H'/\FA am H' va/\FP am H' vp/\FO am H' vo/\FR am H' vm vr/\(("text":Str)∈am->gm "text" H' vx)) ?_ ?_
 ·left;exact tU b4 (fun h=>⟨st,_,rfl,by symm,d4,fun v H5 bv d5 k5=>⟨v,rfl,k5 _ _ n3 b4,d5,dR.trans k5,fa.keep d4 d5 k5,fp.keep d4 d5 k5,fo.keep d4 d5 k5,fr.keep d4 d5 k5,fun _=>bv⟩⟩) fun h=>⟨_,rfl,b4,d4,dR,fa,fp,fo,fr,fun z=>absurd z h⟩
 clear b4 d4 dR H4 fa fp fo fr;rintro σ' H4 ⟨vx,rfl,b4,d4,dR,fa,fp,fo,fr,fx⟩;have nP:Pe≠st:=fun z=>by obtain ⟨x1,y1,z1,d⟩:=bt;rw [<- z,tab.tab] at d;cases d
 have h4:aI T.aD T.aJ T.aM H4 AA L M:=h.i.keep (W:=[st]) (fun b o hb e=>dR b o (by simpa using hb) e) fun b hb=>by rw [EQ];exact fun z=>El (z ▸ hb)
 have t4:da H4 Pe dk es:=gA tab fun b φ e=>dR b _ (fun z=>by obtain ⟨x1,y1,z1,d⟩:=bt;rw [<- z,e] at d;cases d) e;obtain ⟨CC,wd,hdue,NS⟩:∃ CC wd,(∃ a0 r,am=a0::r/\wd=if a0=("other":Str) then ("path":Str) else a0)/\Am T H4 M wy va vp vo vm vr vx CC wd:=OL h.ro qQ hs dQ fa fp fo fr fx;refine aX (fun σ' H'=>∃ la,σ'=[some (.ref AA.a),some (.ref st),some (.int (wy:Int)),some (.ref l2),some (.ref l3),some va,some vp,some vo,some vm,some vr,some vx,some (.ref la),none]/\iK H' (NF H4 la) M.ts la/\ag H4 H') ?_ ?_
 ·left;refine ⟨AA,L,M,h4,rfl,h4.len,h.n,h.rows,fun la H5 rs s5 _ h2 h3 h4' h5=>⟨la,rfl,⟨rs,h2,h3,h4',.inl rfl,h5⟩,s5⟩⟩
 rintro σ' H5 ⟨la,rfl,al,s5⟩;refine aX (fun σ' H'=>σ'=[some (.ref AA.a),some (.ref st),some (.int (wy:Int)),some (.ref l2),some (.ref l3),some va,some vp,some vo,some vm,some vr,some vx,some (.ref la),some (.str wd)]/\iK H' (NF H4 la) M.ts la/\aI T.aD T.aJ T.aM H' AA L M/\(∃ es,da H' Pe dk es)/\Kp [Pe] H5 H') ?_ ?_
 ·left;have t5:da H5 Pe dk es:=gA t4 fun b φ e=>s5 _ _ e;refine ⟨_,va,vp,vo,vm,vr,vx,wy,es,rfl,by omega,t5,fun n lm N' ix W vs' c f H6 DW r hc ea t6 k6=>⟨f,_,rfl,⟨lm,c,N',vs',W,⟨n,wy,ix,r⟩,rfl⟩,ea,?_⟩⟩;have N9:NX H6 (hide (fU lm) H6):=VU ea (Jj (P:=P) (w:=w) (base:=base) T r).all;have EW:NX H5 H6:=fun b o no e=>k6 b o (by rw [EQ];exact fun z=>by (rw [z,t5.tab] at e;cases e;exact no _ rfl)) e;have i6:=(h4.same s5).gQ EW;refine Qx (i6.gQ N9) (NS.mono fun e=>Dp N9 (Dp EW (iD s5 e))) r hc fun H7 s7=>?_;have sc:ag H6 (cH (fU lm) H6 H7):=acf s7;refine NS.word fun H8 s8=>?_;have yB:=sc.trans s8;exact ⟨rfl,((al.KS EW.s).KS (Kw yB).s),i6.same yB,⟨DW,gA t6 fun b φ e=>yB _ _ e⟩,k6.trans (.of yB)⟩
 rintro σ' H6 ⟨rfl,al6,i6,⟨DW,t6⟩,k6⟩;obtain ⟨a0,r,ham,oR⟩:=hdue;have b5:=s5 _ _ b4;have b6:H6 l3=some (.lst (am.map V.str)):=k6 _ _ (by rw [EQ];exact fun z=>by (have:=s5 _ _ t4.tab;rw [<- z,b5] at this;cases this)) b5;have k06:Kp [Pe,st] H H6:=fun b o hb e=>k6 b o (fun z=>hb (by simp at z;simp [z])) (s5 _ _ (dR b o (fun z=>hb (by simp [z])) e));left;intro p hp;dsimp only [wW];left;refine ⟨ay,[(.inr ("other":Str),.str "path")],rfl,(show 1<=15 by decide),?_⟩;rw [mx];refine eV hp fun H7 s7 b7=>?_;refine ⟨p,rfl,.inl ⟨_,.inl b7⟩,?_⟩;simp only [bR,s7 _ _ b6];rw [ham,ut,ly];refine ⟨bb (lX [] [(.inr ("other":Str),.str "path")]) (.inr a0),.inl ⟨_,.inr a0,.inl b7,rfl,rfl⟩,?_⟩;have hv:(bb (lX [] [((.inr ("other":Str):Key),V.str "path")]) (.inr a0)).getD (.str a0)=.str wd:=by
  rw [oR];by_cases e:a0=("other":Str)
  ·rw [AT e,e];kernel_rfl
  ·rw [zn e];have:bb (lX [] [((.inr ("other":Str):Key),V.str "path")]) (.inr a0)=none:=by
    show (List.find? _ [((.inr ("other":Str):Key),V.str "path")]).map _=none;rw [Tm,show decide (((.inr ("other":Str):Key),V.str "path").1=.inr a0)=false from tz fun z=>e (by injection z with z;exact z.symm)];rfl
   rw [this];rfl
 rw [hv];dsimp only;refine iQ (xz rfl) ?_;have i7:=i6.same s7;refine ⟨AA,L,M,i7,rfl,i7.len,h.n,h.rows,fun l' H8 rs s8 _ h2 h3 h4' h5=>iK.eq (N:=NF H7 l') ⟨rs,h2,h3,h4',.inl rfl,h5⟩ ((al6.same s7).same s8) ?_⟩;have Et:=s7.trans s8;exact q _ DW (i6.same Et) (gA t6 fun b φ e=>Et _ _ e) (k06.trans (.of Et))
structure pk (T:Tx K mg) (H:Hp) (A:Ad) (L:List Ta) (M:Hs) (va vn vm vr vt:V):Prop where
 i:aI T.aD T.aJ T.aM H A L M
 own:(bb (sD M.ro) (.inr ("own":Str))).isSome=true
 as:kR M H va
 n:sd M H vn
 nm:wt H vm
 r:(∃ ty,clsName H vr=some ty)/\iz vr=false
 tr:Ah M H vt
def pk.gQ {T:Tx K mg} {H H':Hp} {A:Ad} {L:List Ta} {M:Hs} {va vn vm vr vt:V} (f:pk T H A L M va vn vm vr vt) (k:NX H H'):pk T H' A L M va vn vm vr vt :=
 have c:∀ {v:V},(∃ ty,clsName H v=some ty)->∃ ty,clsName H' v=some ty:=fun ⟨ty,e⟩=>⟨ty,Dp k e⟩
 ⟨f.i.gQ k,f.own,⟨c f.as.1,f.as.2⟩,⟨c f.n.1,f.n.2⟩,⟨c f.nm.1,f.nm.2⟩,⟨c f.r.1,f.r.2⟩,⟨c f.tr.1,f.tr.2⟩⟩
abbrev Pq:=V->V->V->V->V->V->List V
def jA:Pq:=fun h a _ _ _ _=>[h,a]
def jM:Pq:=fun h a n _ r _=>[h,a,n,r]
def jR:Pq:=fun h _ n _ r _=>[h,n,r]
def jN:Pq:=fun h _ n _ _ _=>[h,n]
def jC:Pq:=fun h _ n m _ _=>[h,n,m]
def jD:Pq:=fun h _ _ m _ _=>[h,m]
def jT:Pq:=fun h _ _ _ _ t=>[h,t]
def wQ (T:Tx K mg) (C:Addr) (p:Pq):List V->bE:=fun vs H _ E=>∃ A L M va vn vm vr vt,vs=p (.ref A.a) va vn vm vr vt/\pk T H A L M va vn vm vr vt/\∀ H',ag H H'->E (.ref C) none H'
inductive d9 (T:Tx K mg) (n:Nat):Lm->List Nat->(List V->bE)->Prop
 | a0:d9 T n (GG n) [0,2] (wQ T T.bW jA)
 | a1:d9 T n (Ly n) [0,2] (wQ T T.bW jA)
 | a2:d9 T n (Mv n) [0,2,3,5] (wQ T T.bW jM)
 | a3:d9 T n (Ke n) [0,3,5] (wQ T T.bV jR)
 | a4:d9 T n (IP n) [0,3] (wQ T T.bH jN)
 | a5:d9 T n (Jb n) [0,3,4] (wQ T T.cB jC)
 | a6:d9 T n (Fp n) [0,4] (wQ T T.cB jD)
 | a7:d9 T n (K2 n) [0,6] (wQ T T.cD jT)
 | a8:d9 T n (Ij n) [0,6] (wQ T T.cD jT)
 | a9:d9 T n (nQ n) [0,3] (wQ T T.bH jN)
 | qd:d9 T n (AW n) [0,3] (wQ T T.bH jN)
 | vg:d9 T n (An n) [0,3] (wQ T T.bH jN)
 | Hz:d9 T n (CV n) [0,3] (wQ T T.bH jN)
 | LI:d9 T n (Cz n) [0,3] (wQ T T.bH jN)
 | Ld:d9 T n (zB n) [0,3] (wQ T T.bH jN)
 | IY:d9 T n (B3 n) [0,3] (wQ T T.bH jN)
 | Iu:d9 T n (zT n) [0,3] (wQ T T.bH jN)
section
variable {f:Addr} {cdv:Value} {A:Around} {outer:List Env} {s:Shared} {H:Hp} {E:XK}
def aaF (T:Tx K mg) {l:Lm} {ix:List Nat} {W:List V->bE} (t:d9 T s.heap.objs.size l ix W):∃ N',Cw (c7 (aR P w) P w K mg base Aq "_law_questions" (ax qz) f cdv A outer s H E) 17 cN l ix W N':=by
 cases t with
 | a0 =>
  refine fg ["_law_house","_law_asker"] (.of rfl rfl rfl (by symm) (by symm) ⟨fun _=>⟨_,rfl⟩,fun _=>⟨_,rfl⟩,trivial⟩ (by simp)) (.of rfl rfl ⟨⟨rfl,rfl,rfl⟩,⟨rfl,rfl,rfl⟩,trivial⟩ ⟨rfl,rfl,trivial⟩) (fun _ _ _=>rfl) fun f cdv vs A outer s H Q E hr h=>?_;obtain ⟨AA,L,M,va,vn,vm,vr,vt,rfl,F,q⟩:=h;obtain ⟨bG,gc,gh,bF,aG⟩:=F.i.h;refine ⟨_,(bf T.aE T.gy.h (V2 T) hr.m T.gy.b .nil di (ac 0) (aa (ac 1) ae)).h,?_⟩;simp only [jA,ut,At];left;exact mI gh aG (⟨AA,L,M,va,rfl,F.i,F.as,q _ (ag.refl _)⟩)
 | a1 =>
  refine fg ["_law_house","_law_asker"] (.of rfl rfl rfl (by symm) (by symm) ⟨fun _=>⟨_,rfl⟩,fun _=>⟨_,rfl⟩,trivial⟩ (by simp)) (.of rfl rfl ⟨⟨rfl,rfl,rfl⟩,⟨rfl,rfl,rfl⟩,trivial⟩ ⟨rfl,rfl,trivial⟩) (fun _ _ _=>rfl) fun f cdv vs A outer s H Q E hr h=>?_;obtain ⟨AA,L,M,va,vn,vm,vr,vt,rfl,F,q⟩:=h;obtain ⟨bG,gc,gh,bF,aG⟩:=F.i.h;refine ⟨_,(bf T.aE T.jq.h (VZ T) hr.m T.jq.b .nil di (ac 0) (aa (ac 1) ae)).h,?_⟩;simp only [jA,ut,At];left;exact mI gh aG (⟨AA,L,M,va,rfl,F.i,F.as,q _ (ag.refl _)⟩)
 | a2 =>
  refine fg ["_law_house","_law_asker","_law_number","_law_right_here"] (.of rfl rfl rfl (by symm) (by symm) ⟨fun _=>⟨_,rfl⟩,fun _=>⟨_,rfl⟩,fun _=>⟨_,rfl⟩,fun _=>⟨_,rfl⟩,trivial⟩ (by simp)) (.of rfl rfl ⟨⟨rfl,rfl,rfl⟩,⟨rfl,rfl,rfl⟩,⟨rfl,rfl,rfl⟩,⟨rfl,rfl,rfl⟩,trivial⟩ ⟨rfl,rfl,rfl,rfl,trivial⟩) (fun _ _ _=>rfl) fun f cdv vs A outer s H Q E hr h=>?_;obtain ⟨AA,L,M,va,vn,vm,vr,vt,rfl,F,q⟩:=h;obtain ⟨bG,gc,gh,bF,aG⟩:=F.i.h;refine ⟨_,(bf T.aE T.gU.h (sH T) hr.m T.gU.b .nil di (ac 0) (aa (ac 1) (aa (ac 2) (aa (ac 3) ae)))).h,?_⟩;simp only [jM,ut,At];left;exact mI gh aG (⟨AA,L,M,F.i,rfl,F.as.1,F.n.1,F.r.1,fun _=>q _ (ag.refl _),fun z e hz=>by rw [F.as.2 z e] at hz;cases hz⟩)
 | a3 =>
  refine fg ["_law_house","_law_number","_law_right_here"] (.of rfl rfl rfl (by symm) (by symm) ⟨fun _=>⟨_,rfl⟩,fun _=>⟨_,rfl⟩,fun _=>⟨_,rfl⟩,trivial⟩ (by simp)) (.of rfl rfl ⟨⟨rfl,rfl,rfl⟩,⟨rfl,rfl,rfl⟩,⟨rfl,rfl,rfl⟩,trivial⟩ ⟨rfl,rfl,rfl,trivial⟩) (fun _ _ _=>rfl) fun f cdv vs A outer s H Q E hr h=>?_;obtain ⟨AA,L,M,va,vn,vm,vr,vt,rfl,F,q⟩:=h;obtain ⟨bG,gc,gh,bF,aG⟩:=F.i.h;refine ⟨_,(bf T.aE T.gU.h (sH T) hr.m T.gU.b .nil di (ac 0) (aa ap (aa (ac 1) (aa (ac 2) ae)))).h,?_⟩;simp only [jR,ut,At];left;exact mI gh aG (⟨AA,L,M,F.i,rfl,⟨_,rfl⟩,F.n.1,F.r.1,(fun hn=>by have:=F.own;rw [hn _ rfl] at this;cases this),fun z e hz=>⟨fun _=>q _ (ag.refl _),fun s e2 h2=>by rw [F.r.2] at h2;cases h2⟩⟩)
 | a4 =>
  refine fg ["_law_house","_law_number"] (.of rfl rfl rfl (by symm) (by symm) ⟨fun _=>⟨_,rfl⟩,fun _=>⟨_,rfl⟩,trivial⟩ (by simp)) (.of rfl rfl ⟨⟨rfl,rfl,rfl⟩,⟨rfl,rfl,rfl⟩,trivial⟩ ⟨rfl,rfl,trivial⟩) (fun _ _ _=>rfl) fun f cdv vs A outer s H Q E hr h=>?_;obtain ⟨AA,L,M,va,vn,vm,vr,vt,rfl,F,q⟩:=h;obtain ⟨bG,gc,gh,bF,aG⟩:=F.i.h;refine ⟨_,(bf T.aE T.gU.h (sH T) hr.m T.gU.b .nil di (ac 0) (aa ap (aa (ac 1) (aa ap ae)))).h,?_⟩;simp only [jN,ut,At];left;exact mI gh aG (⟨AA,L,M,F.i,rfl,⟨_,rfl⟩,F.n.1,⟨_,rfl⟩,(fun hn=>by have:=F.own;rw [hn _ rfl] at this;cases this),fun z e hz=>⟨fun h=>absurd h (by symm),fun s e2 h2=>⟨fun _=>q _ (ag.refl _),fun k t e3 ht=>absurd (sK.mp ht).1 (F.n.2 k e3)⟩⟩⟩)
 | a5 =>
  refine fg ["_law_house","_law_number","_law_name"] (.of rfl rfl rfl (by symm) (by symm) ⟨fun _=>⟨_,rfl⟩,fun _=>⟨_,rfl⟩,fun _=>⟨_,rfl⟩,trivial⟩ (by simp)) (.of rfl rfl ⟨⟨rfl,rfl,rfl⟩,⟨rfl,rfl,rfl⟩,⟨rfl,rfl,rfl⟩,trivial⟩ ⟨rfl,rfl,rfl,trivial⟩) (fun _ _ _=>rfl) fun f cdv vs A outer s H Q E hr h=>?_;obtain ⟨AA,L,M,va,vn,vm,vr,vt,rfl,F,q⟩:=h;obtain ⟨bG,gc,gh,bF,aG⟩:=F.i.h;refine ⟨_,(bf T.aE T.fS.h (yH T) hr.m T.fS.b .nil di (ac 0) (aa (ac 1) (aa (ac 2) ae))).h,?_⟩;simp only [jC,ut,At];left;exact mI gh aG (.inr ⟨AA,L,M,vn,vm,rfl,F.i,F.nm,q⟩)
 | a6 =>
  refine fg ["_law_house","_law_name"] (.of rfl rfl rfl (by symm) (by symm) ⟨fun _=>⟨_,rfl⟩,fun _=>⟨_,rfl⟩,trivial⟩ (by simp)) (.of rfl rfl ⟨⟨rfl,rfl,rfl⟩,⟨rfl,rfl,rfl⟩,trivial⟩ ⟨rfl,rfl,trivial⟩) (fun _ _ _=>rfl) fun f cdv vs A outer s H Q E hr h=>?_;obtain ⟨AA,L,M,va,vn,vm,vr,vt,rfl,F,q⟩:=h;obtain ⟨bG,gc,gh,bF,aG⟩:=F.i.h;refine ⟨_,(bf T.aE T.fS.h (yH T) hr.m T.fS.b .nil di (ac 0) (aa bi (aa (ac 1) ae))).h,?_⟩;simp only [jD,ut,At];left;exact mI gh aG (.inr ⟨AA,L,M,_,vm,rfl,F.i,F.nm,q⟩)
 | a7 =>
  refine fg ["_law_house","_law_tree"] (.of rfl rfl rfl (by symm) (by symm) ⟨fun _=>⟨_,rfl⟩,fun _=>⟨_,rfl⟩,trivial⟩ (by simp)) (.of rfl rfl ⟨⟨rfl,rfl,rfl⟩,⟨rfl,rfl,rfl⟩,trivial⟩ ⟨rfl,rfl,trivial⟩) (fun _ _ _=>rfl) fun f cdv vs A outer s H Q E hr h=>?_;obtain ⟨AA,L,M,va,vn,vm,vr,vt,rfl,F,q⟩:=h;obtain ⟨bG,gc,gh,bF,aG⟩:=F.i.h;refine ⟨_,(bf T.aE T.nh.h (Lg T) hr.m T.nh.b .nil di (ac 0) (aa (ac 1) ae)).h,?_⟩;simp only [jT,ut,At];left;exact mI gh aG (⟨AA,L,M,vt,rfl,F.i,F.tr,q _ (ag.refl _)⟩)
 | a8 =>
  refine fg ["_law_house","_law_tree"] (.of rfl rfl rfl (by symm) (by symm) ⟨fun _=>⟨_,rfl⟩,fun _=>⟨_,rfl⟩,trivial⟩ (by simp)) (.of rfl rfl ⟨⟨rfl,rfl,rfl⟩,⟨rfl,rfl,rfl⟩,trivial⟩ ⟨rfl,rfl,trivial⟩) (fun _ _ _=>rfl) fun f cdv vs A outer s H Q E hr h=>?_;obtain ⟨AA,L,M,va,vn,vm,vr,vt,rfl,F,q⟩:=h;obtain ⟨bG,gc,gh,bF,aG⟩:=F.i.h;refine ⟨_,(bf T.aE T.tL.h (WQ T) hr.m T.tL.b .nil di (ac 0) (aa (ac 1) ae)).h,?_⟩;simp only [jT,ut,At];left;exact mI gh aG (⟨AA,L,M,vt,rfl,F.i,F.tr,q _ (ag.refl _)⟩)
 | a9 =>
  refine fg ["_law_house","_law_number"] (.of rfl rfl rfl (by symm) (by symm) ⟨fun _=>⟨_,rfl⟩,fun _=>⟨_,rfl⟩,trivial⟩ (by simp)) (.of rfl rfl ⟨⟨rfl,rfl,rfl⟩,⟨rfl,rfl,rfl⟩,trivial⟩ ⟨rfl,rfl,trivial⟩) (fun _ _ _=>rfl) fun f cdv vs A outer s H Q E hr h=>?_;obtain ⟨AA,L,M,va,vn,vm,vr,vt,rfl,F,q⟩:=h;obtain ⟨bG,gc,gh,bF,aG⟩:=F.i.h;refine ⟨_,(bf T.aE T.fN.h (Q3 T) hr.m T.fN.b .nil di (ac 0) (aa (ac 1) ae)).h,?_⟩;simp only [jN,ut,At];left;exact mI gh aG (⟨AA,L,M,vn,rfl,F.i,F.n,q _ (ag.refl _)⟩)
 | qd =>
  refine fg ["_law_house","_law_number"] (.of rfl rfl rfl (by symm) (by symm) ⟨fun _=>⟨_,rfl⟩,fun _=>⟨_,rfl⟩,trivial⟩ (by simp)) (.of rfl rfl ⟨⟨rfl,rfl,rfl⟩,⟨rfl,rfl,rfl⟩,trivial⟩ ⟨rfl,rfl,trivial⟩) (fun _ _ _=>rfl) fun f cdv vs A outer s H Q E hr h=>?_;obtain ⟨AA,L,M,va,vn,vm,vr,vt,rfl,F,q⟩:=h;obtain ⟨bG,gc,gh,bF,aG⟩:=F.i.h;refine ⟨_,(bf T.aE T.jm.h (acp T) hr.m T.jm.b .nil di (ac 0) (aa (ac 1) ae)).h,?_⟩;simp only [jN,ut,At];left;exact mI gh aG (⟨AA,L,M,vn,rfl,F.i,F.n,q _ (ag.refl _)⟩)
 | vg =>
  refine fg ["_law_house","_law_number"] (.of rfl rfl rfl (by symm) (by symm) ⟨fun _=>⟨_,rfl⟩,fun _=>⟨_,rfl⟩,trivial⟩ (by simp)) (.of rfl rfl ⟨⟨rfl,rfl,rfl⟩,⟨rfl,rfl,rfl⟩,trivial⟩ ⟨rfl,rfl,trivial⟩) (fun _ _ _=>rfl) fun f cdv vs A outer s H Q E hr h=>?_;obtain ⟨AA,L,M,va,vn,vm,vr,vt,rfl,F,q⟩:=h;obtain ⟨bG,gc,gh,bF,aG⟩:=F.i.h;refine ⟨_,(bf T.aE T.jI.h (abb T) hr.m T.jI.b .nil di (ac 0) (aa (ac 1) ae)).h,?_⟩;simp only [jN,ut,At];left;exact mI gh aG (⟨AA,L,M,vn,rfl,F.i,F.n,q _ (ag.refl _)⟩)
 | Hz =>
  refine fg ["_law_house","_law_number"] (.of rfl rfl rfl (by symm) (by symm) ⟨fun _=>⟨_,rfl⟩,fun _=>⟨_,rfl⟩,trivial⟩ (by simp)) (.of rfl rfl ⟨⟨rfl,rfl,rfl⟩,⟨rfl,rfl,rfl⟩,trivial⟩ ⟨rfl,rfl,trivial⟩) (fun _ _ _=>rfl) fun f cdv vs A outer s H Q E hr h=>?_;obtain ⟨AA,L,M,va,vn,vm,vr,vt,rfl,F,q⟩:=h;obtain ⟨bG,gc,gh,bF,aG⟩:=F.i.h;refine ⟨_,(bf T.aE T.jU.h (WA T) hr.m T.jU.b .nil di (ac 0) (aa (ac 1) ae)).h,?_⟩;simp only [jN,ut,At];left;exact mI gh aG (⟨AA,L,M,vn,rfl,F.i,F.n,q _ (ag.refl _)⟩)
 | LI =>
  refine fg ["_law_house","_law_number"] (.of rfl rfl rfl (by symm) (by symm) ⟨fun _=>⟨_,rfl⟩,fun _=>⟨_,rfl⟩,trivial⟩ (by simp)) (.of rfl rfl ⟨⟨rfl,rfl,rfl⟩,⟨rfl,rfl,rfl⟩,trivial⟩ ⟨rfl,rfl,trivial⟩) (fun _ _ _=>rfl) fun f cdv vs A outer s H Q E hr h=>?_;obtain ⟨AA,L,M,va,vn,vm,vr,vt,rfl,F,q⟩:=h;obtain ⟨bG,gc,gh,bF,aG⟩:=F.i.h;refine ⟨_,(bf T.aE T.jF.h (abH T) hr.m T.jF.b .nil di (ac 0) (aa (ac 1) ae)).h,?_⟩;simp only [jN,ut,At];left;exact mI gh aG (⟨AA,L,M,vn,rfl,F.i,F.n,q _ (ag.refl _)⟩)
 | Ld =>
  refine fg ["_law_house","_law_number"] (.of rfl rfl rfl (by symm) (by symm) ⟨fun _=>⟨_,rfl⟩,fun _=>⟨_,rfl⟩,trivial⟩ (by simp)) (.of rfl rfl ⟨⟨rfl,rfl,rfl⟩,⟨rfl,rfl,rfl⟩,trivial⟩ ⟨rfl,rfl,trivial⟩) (fun _ _ _=>rfl) fun f cdv vs A outer s H Q E hr h=>?_;obtain ⟨AA,L,M,va,vn,vm,vr,vt,rfl,F,q⟩:=h;obtain ⟨bG,gc,gh,bF,aG⟩:=F.i.h;refine ⟨_,(bf T.aE T.iH.h (Tf T) hr.m T.iH.b .nil di (ac 0) (aa (ac 1) ae)).h,?_⟩;simp only [jN,ut,At];left;exact mI gh aG (⟨AA,L,M,vn,rfl,F.i,F.n,q _ (ag.refl _)⟩)
 | IY =>
  refine fg ["_law_house","_law_number"] (.of rfl rfl rfl (by symm) (by symm) ⟨fun _=>⟨_,rfl⟩,fun _=>⟨_,rfl⟩,trivial⟩ (by simp)) (.of rfl rfl ⟨⟨rfl,rfl,rfl⟩,⟨rfl,rfl,rfl⟩,trivial⟩ ⟨rfl,rfl,trivial⟩) (fun _ _ _=>rfl) fun f cdv vs A outer s H Q E hr h=>?_;obtain ⟨AA,L,M,va,vn,vm,vr,vt,rfl,F,q⟩:=h;obtain ⟨bG,gc,gh,bF,aG⟩:=F.i.h;refine ⟨_,(bf T.aE T.jP.h (QD T) hr.m T.jP.b .nil di (ac 0) (aa (ac 1) ae)).h,?_⟩;simp only [jN,ut,At];left;exact mI gh aG (⟨AA,L,M,vn,rfl,F.i,F.n,q _ (ag.refl _)⟩)
 | Iu =>
  refine fg ["_law_house","_law_number"] (.of rfl rfl rfl (by symm) (by symm) ⟨fun _=>⟨_,rfl⟩,fun _=>⟨_,rfl⟩,trivial⟩ (by simp)) (.of rfl rfl ⟨⟨rfl,rfl,rfl⟩,⟨rfl,rfl,rfl⟩,trivial⟩ ⟨rfl,rfl,trivial⟩) (fun _ _ _=>rfl) fun f cdv vs A outer s H Q E hr h=>?_;obtain ⟨AA,L,M,va,vn,vm,vr,vt,rfl,F,q⟩:=h;obtain ⟨bG,gc,gh,bF,aG⟩:=F.i.h;refine ⟨_,(bf T.aE T.fS.h (yH T) hr.m T.fS.b .nil di (ac 0) (aa (ac 1) (aa ap ae))).h,?_⟩;simp only [jN,ut,At];left;exact mI gh aG (.inl ⟨AA,L,M,vn,_,rfl,F.i,F.n,by symm,by symm,q⟩)
end
def Q6 (T:Tx K mg) (Pe:Addr):Sp:=fun vs H Q _=>∃ A L M es,∃ c:Int,vs=[.ref A.a,.int c]/\aI T.aD T.aJ T.aM H A L M/\M.ro=lZ/\M.tr=[(("main":Str),0)]/\M.ts.length<=60/\da H Pe cN es/\∀ H' es',aI T.aD T.aJ T.aM H' A L M->da H' Pe cN es'->Kp [Pe] H H'->Q (.bl true) H'
structure pI (T:Tx K mg) (Pe:Addr) (H0 H:Hp) (A:Ad) (L:List Ta) (M:Hs) (va vn vm vr vt:V):Prop where
 F:pk T H A L M va vn vm vr vt
 tab:∃ es,da H Pe cN es
 k:Kp [Pe] H0 H
def pI.go {T:Tx K mg} {Pe:Addr} {H0 H H':Hp} {A:Ad} {L:List Ta} {M:Hs} {va vn vm vr vt:V} (j:pI T Pe H0 H A L M va vn vm vr vt) (k:Kp [Pe] H H') (t:∃ es,da H' Pe cN es):pI T Pe H0 H' A L M va vn vm vr vt:=by
 obtain ⟨es,tab⟩:=j.tab;exact ⟨j.F.gQ fun b o no e=>k b o (by rw [EQ];exact fun z=>by (rw [z,tab.tab] at e;cases e;exact no _ rfl)) e,t,j.k.trans k⟩
def lL {T:Tx K mg} {Pe:Addr} {n:Nat} {H0 H:Hp} {A:Ad} {L:List Ta} {M:Hs} {va vn vm vr vt:V} {l:Lm} {ix:List Nat} {p:Pq} {C:Addr} {wd:Str} {r u:L2.TS} {D:Ends} {σ:St} (k:Nat) (tb:d9 T n l ix (wQ T C p)) (hc:fD ix σ (p (.ref A.a) va vn vm vr vt)) (hx:jE T C k) (hw:(k,wd)∈[(0,("asker":Str)),(1,"path"),(2,"name"),(3,"rights"),(4,"text"),(5,"tree"),(6,"thing")])
  (j:pI T Pe H0 H A L M va vn vm vr vt) (q:∀ H',pI T Pe H0 H' A L M va vn vm vr vt->u D σ H'):kH (rL (ju (iU (nO true) (sj (kG Pe cN l) (CY cN (d9 T n)) (CJ T) fun _=>E0) (tC (V.str wd)))) r rZ) u D σ H:=by
 refine ai ?_;dsimp only [rL,ju,iU,sj,kG,tC];obtain ⟨es,tab⟩:=j.tab;refine SE T tab tb hc fun H1 es' k1 t1=>?_;have j1:=j.go k1 ⟨es',t1⟩;refine ⟨A,L,M,va,vn,vm,vr,vt,rfl,j1.F,fun H' s'=>⟨_,k,rfl,hx,wd,hw,fun H2 s2=>?_⟩⟩;have s:=s'.trans s2;dsimp only [nO,rZ];rw [xz rfl];exact q _ (j1.go (.of s) ⟨es',gA t1 fun b φ e=>s _ _ e⟩)
def acg {Pe:Addr} (C:PySem.W.CodeHd base T.oT Pe) (cT:base.BuiltinsAt mg Pe):aq P w K mg base (aR P w) 20 T.yk T.ym ["_law_house","_law_cell"] (Q6 T Pe):=by
 refine T.vC.PF oF (fun vs H Q E ⟨_,_,_,_,_,e,_⟩=>by rw [e];rfl) (fun cdv A outer s H vs Q E aV hr ⟨AA,L,M,es,cell,e,i,lR,E1,hn,tab,q⟩=>?_);subst e;have HD:=UD (X:=c7 (aR P w) P w K mg base Aq "_law_questions" (ax qz) T.yk cdv A outer s H E) rfl fun l ix W t=>aaF T t;refine aY (b:=aN qz) ((ad (aO 2 oF.nd (dl (bI (K:=K) rfl) (db (aa ap (aa aw (aa bi (aa ap (aa ge (aa (db (aa ap ae)) ae))))))) (dL ij (ac 1) bi)))
   (ad (aO 3 oF.nd (dl (bI (K:=K) rfl) (db (aa (im hV bi) (aa (qC T.aE T.oB.h (Gg T) hr.m T.oB.b .nil aB (ac 0)) (aa aw (aa ge (aa ap (aa (dL GI bi bi) (aa ge ae)))))))) (dL ij (dL nG (ac 1) bi) bi)))
   (ad (aO 4 oF.nd (dl (bI (K:=K) rfl) (db (aa ap (aa aw (aa ap (aa ap (aa ap (aa ap (aa bi ae)))))))) (dL ij (dL nG (ac 1) bi) bi)))
   (ad (aO 5 oF.nd (dl (bI (K:=K) rfl) (db (aa ap (aa ap (aa aw (aa ap (aa ap (aa ge ae))))))) (dL ij (dL nG (ac 1) bi) bi)))
   (ad (aO 6 oF.nd (dl (bI (K:=K) rfl) (db (aa ap (aa aw (aa ap (aa ap (aa bi ae)))))) (dL ij (dL nG (ac 1) bi) bi)))
   (ad (aW (bw fk (iS HD (iR T) hr.m T.cy.m T.cy.F.kp T.cy.b dJ (dh (q:=cN) (l:=GG s.heap.objs.size) ⟨rfl,rfl,⟨_,aV.symm.trans T.fB,C⟩,cT,by kernel_rfl⟩)) ap) (ah (aK ge)) cr)
   (ad (aW (bw fk (iS HD (iR T) hr.m T.cy.m T.cy.F.kp T.cy.b dJ (dh (q:=cN) (l:=Ly s.heap.objs.size) ⟨rfl,rfl,⟨_,aV.symm.trans T.fB,C⟩,cT,by kernel_rfl⟩)) ap) (ah (aK ge)) cr)
   (ad (aW (bw fk (iS HD (iR T) hr.m T.cy.m T.cy.F.kp T.cy.b dJ (dh (q:=cN) (l:=Mv s.heap.objs.size) ⟨rfl,rfl,⟨_,aV.symm.trans T.fB,C⟩,cT,by kernel_rfl⟩)) ap) (ah (aK ge)) cr)
   (ad (aW (bw fk (iS HD (iR T) hr.m T.cy.m T.cy.F.kp T.cy.b dJ (dh (q:=cN) (l:=Ke s.heap.objs.size) ⟨rfl,rfl,⟨_,aV.symm.trans T.fB,C⟩,cT,by kernel_rfl⟩)) ap) (ah (aK ge)) cr)
   (ad (aW (bw fk (iS HD (iR T) hr.m T.cy.m T.cy.F.kp T.cy.b dJ (dh (q:=cN) (l:=IP s.heap.objs.size) ⟨rfl,rfl,⟨_,aV.symm.trans T.fB,C⟩,cT,by kernel_rfl⟩)) ap) (ah (aK ge)) cr)
   (ad (aW (bw fk (iS HD (iR T) hr.m T.cy.m T.cy.F.kp T.cy.b dJ (dh (q:=cN) (l:=Jb s.heap.objs.size) ⟨rfl,rfl,⟨_,aV.symm.trans T.fB,C⟩,cT,by kernel_rfl⟩)) ap) (ah (aK ge)) cr)
   (ad (aW (bw fk (iS HD (iR T) hr.m T.cy.m T.cy.F.kp T.cy.b dJ (dh (q:=cN) (l:=Fp s.heap.objs.size) ⟨rfl,rfl,⟨_,aV.symm.trans T.fB,C⟩,cT,by kernel_rfl⟩)) ap) (ah (aK ge)) cr)
   (ad (aW (bw fk (iS HD (iR T) hr.m T.cy.m T.cy.F.kp T.cy.b dJ (dh (q:=cN) (l:=K2 s.heap.objs.size) ⟨rfl,rfl,⟨_,aV.symm.trans T.fB,C⟩,cT,by kernel_rfl⟩)) ap) (ah (aK ge)) cr)
   (ad (aW (bw fk (iS HD (iR T) hr.m T.cy.m T.cy.F.kp T.cy.b dJ (dh (q:=cN) (l:=Ij s.heap.objs.size) ⟨rfl,rfl,⟨_,aV.symm.trans T.fB,C⟩,cT,by kernel_rfl⟩)) ap) (ah (aK ge)) cr)
   (ad (aO 7 oF.nd (db (aa (dh (q:=cN) (l:=nQ s.heap.objs.size) ⟨rfl,rfl,⟨_,aV.symm.trans T.fB,C⟩,cT,by kernel_rfl⟩) ae)))
   (ad (aL (dU wf wn dW (ac 7) (aa (dh (q:=cN) (l:=AW s.heap.objs.size) ⟨rfl,rfl,⟨_,aV.symm.trans T.fB,C⟩,cT,by kernel_rfl⟩) ae)))
   (ad (aL (dU wf wn dW (ac 7) (aa (dh (q:=cN) (l:=An s.heap.objs.size) ⟨rfl,rfl,⟨_,aV.symm.trans T.fB,C⟩,cT,by kernel_rfl⟩) ae)))
   (ad (aL (dU wf wn dW (ac 7) (aa (dh (q:=cN) (l:=CV s.heap.objs.size) ⟨rfl,rfl,⟨_,aV.symm.trans T.fB,C⟩,cT,by kernel_rfl⟩) ae)))
   (ad (aL (dU wf wn dW (ac 7) (aa (dh (q:=cN) (l:=Cz s.heap.objs.size) ⟨rfl,rfl,⟨_,aV.symm.trans T.fB,C⟩,cT,by kernel_rfl⟩) ae)))
   (ad (aL (dU wf wn dW (ac 7) (aa (dh (q:=cN) (l:=zB s.heap.objs.size) ⟨rfl,rfl,⟨_,aV.symm.trans T.fB,C⟩,cT,by kernel_rfl⟩) ae)))
   (ad (aL (dU wf wn dW (ac 7) (aa (dh (q:=cN) (l:=B3 s.heap.objs.size) ⟨rfl,rfl,⟨_,aV.symm.trans T.fB,C⟩,cT,by kernel_rfl⟩) ae)))
   (ad (aL (dU wf wn dW (ac 7) (aa (dh (q:=cN) (l:=zT s.heap.objs.size) ⟨rfl,rfl,⟨_,aV.symm.trans T.fB,C⟩,cT,by kernel_rfl⟩) ae)))
   (ah (aK (ii (Hj (K:=K) rfl hr.mT) (Sg rfl (TN:=["_law_ask"]) (caps:=[]) (ix:=[]) (lG (K:=K) rfl (ac 7)) (fun _ Ia fa=>by exact (pP (bw fk (iS (aal HD _ Ia fa) (iR T) hr.m T.cy.m T.cy.F.kp T.cy.b dJ (ac 0)) ap))) (fun _ _ _ _=>by exact (hX 0 (show List.Nodup (["_law_ask"]:List Str) by decide))) (fun _ _ _ _=>by exact (ac 0)) (.of rfl (by exact trivial) (by walk_at "c") rfl (by exact trivial))) (db ae))))))))))))))))))))))))))) ?_
 rw [show start Aq [V.ref AA.a,V.int cell]=[some (.ref AA.a),some (.int cell),none,none,none,none,none,none] from rfl];refine aX (fun σ' H'=>∃ va,σ'=[some (.ref AA.a),some (.int cell),some va,none,none,none,none,none]/\ag H H'/\kR M H' va) ?_ ?_
 ·left;refine ⟨fits (by simp),fun p hp=>⟨fits (by simp),fun p1 kh=>⟨by decide,?_⟩⟩⟩;obtain ⟨v,hv,ev⟩:=pick (xs:=[V.str "",V.aw,V.int 7,V.str "nobody",V.bl true,V.ref p]) (d:=cell % 6) (Pi _ (by decide)) (No _ (by decide));have bp:=(ag.upd (o:=.lst [V.str "",V.aw,V.int 7,V.str "nobody",V.bl true,V.ref p]) kh) _ _ (ay (H:=H) (a:=p) (o:=.lst [V.str "own"]));simp only [bR,ay,ev];refine ⟨v,by trivial,(ag.upd hp).trans (ag.upd kh),?_⟩;unfold kR;rw [lR];simp only [pi,ss,AC] at hv;rcases hv with rfl | rfl | rfl | rfl | rfl | rfl
  ·exact ⟨⟨_,rfl⟩,fun z e=>by cases e;symm⟩
  ·exact ⟨⟨_,rfl⟩,nofun⟩
  ·exact ⟨⟨_,rfl⟩,nofun⟩
  ·exact ⟨⟨_,rfl⟩,fun z e=>by cases e;symm⟩
  ·exact ⟨⟨_,rfl⟩,nofun⟩
  ·exact ⟨⟨_,nN bp⟩,nofun⟩
 rintro σ' H1 ⟨va,rfl,s1,fa⟩;have ug:∀ {H1 H2:Hp},ag H1 H2->kR M H1 va->kR M H2 va:=fun s h=>⟨let ⟨ty,e⟩:=h.1;⟨ty,iD s e⟩,h.2⟩;refine aX (fun σ' H'=>∃ vn,σ'=[some (.ref AA.a),some (.int cell),some va,some vn,none,none,none,none]/\ag H H'/\kR M H' va/\(∀ J,sd M J vn)) ?_ ?_
 ·left;obtain ⟨bG,gc,gh,bF,aG⟩:=(i.same s1).h;refine mI gh aG ⟨AA,L,M,i.same s1,rfl,by constructor <;> decide,fits (by simp),fun p hp=>⟨⟨by decide,by decide⟩,by decide,?_⟩⟩;obtain ⟨v,hv,ev⟩:=pick (xs:=[V.int (-1),V.int (M.ts.length:Nat),V.aw,V.bl true,V.str "0",V.int (10 ^ Int.toNat 20),V.bl false]) (d:=cell / 6 % 7) (Pi _ (by decide)) (No _ (by decide));simp only [bR,ay,ev];refine ⟨v,by trivial,s1.trans (ag.upd hp),ug (ag.upd hp) fa,fun J=>?_⟩;simp only [pi,ss,AC] at hv;rcases hv with rfl | rfl | rfl | rfl | rfl | rfl | rfl
  ·exact ⟨⟨_,rfl⟩,fun k e=>by cases e⟩
  ·exact ⟨⟨_,rfl⟩,fun k e=>by cases e;omega⟩
  ·exact ⟨⟨_,rfl⟩,nofun⟩
  ·exact ⟨⟨_,rfl⟩,nofun⟩
  ·exact ⟨⟨_,rfl⟩,nofun⟩
  ·refine ⟨⟨_,rfl⟩,fun k e=>?_⟩;have e':(10:Int) ^ Int.toNat 20=k:=by cases e;rfl
   have h20:(1000:Int) < 10 ^ Int.toNat 20:=by decide
   omega
  ·exact ⟨⟨_,rfl⟩,nofun⟩
 clear fa;rintro σ' H2 ⟨vn,rfl,s2,fa,fn⟩;clear s1 H1;refine aX (fun σ' H'=>∃ vm,σ'=[some (.ref AA.a),some (.int cell),some va,some vn,some vm,none,none,none]/\ag H H'/\kR M H' va/\(∀ J,wt J vm)) ?_ ?_
 ·left;refine ⟨fits (by simp),fun p hp=>⟨⟨by decide,by decide⟩,by decide,?_⟩⟩;obtain ⟨v,hv,ev⟩:=pick (xs:=[V.str "",V.aw,V.str "A",V.str "abcdefghi",V.str "a b",V.str ".",V.int 3]) (d:=cell / 42 % 7) (Pi _ (by decide)) (No _ (by decide));simp only [bR,ay,ev];refine ⟨v,by trivial,s2.trans (ag.upd hp),ug (ag.upd hp) fa,fun J=>?_⟩;simp only [pi,ss,AC] at hv;rcases hv with rfl | rfl | rfl | rfl | rfl | rfl | rfl
  ·exact ⟨⟨_,rfl⟩,(show _<=1000 by symm),by symm⟩
  ·exact ⟨⟨_,rfl⟩,trivial,rfl⟩
  ·exact ⟨⟨_,rfl⟩,(show _<=1000 by symm),by symm⟩
  ·exact ⟨⟨_,rfl⟩,(show _<=1000 by symm),by symm⟩
  ·exact ⟨⟨_,rfl⟩,(show _<=1000 by symm),by symm⟩
  ·exact ⟨⟨_,rfl⟩,(show _<=1000 by symm),by symm⟩
  ·exact ⟨⟨_,rfl⟩,trivial,rfl⟩
 rintro σ' H3 ⟨vm,rfl,s3,ND,fm⟩;clear s2 fa H2;refine aX (fun σ' H'=>∃ vr,σ'=[some (.ref AA.a),some (.int cell),some va,some vn,some vm,some vr,none,none]/\ag H H'/\kR M H' va/\(∀ J:Hp,(∃ ty,clsName J vr=some ty)/\iz vr=false)) ?_ ?_
 ·left;refine ⟨fits (by simp),fun p hp=>⟨⟨by decide,by decide⟩,by decide,?_⟩⟩;obtain ⟨v,hv,ev⟩:=pick (xs:=[V.str "",V.str "lg",V.aw,V.str "x",V.str "L",V.bl true]) (d:=cell / 294 % 6) (Pi _ (by decide)) (No _ (by decide));simp only [bR,ay,ev];refine ⟨v,by trivial,s3.trans (ag.upd hp),ug (ag.upd hp) ND,fun J=>?_⟩;simp only [pi,ss,AC] at hv;rcases hv with rfl | rfl | rfl | rfl | rfl | rfl <;> exact ⟨⟨_,rfl⟩,by symm⟩
 rintro σ' H4 ⟨vr,rfl,s4,Oq,fr⟩;clear s3 ND H3;refine aX (fun σ' H'=>∃ vt,σ'=[some (.ref AA.a),some (.int cell),some va,some vn,some vm,some vr,some vt,none]/\ag H H'/\pk T H' AA L M va vn vm vr vt) ?_ ?_
 ·left;refine ⟨fits (by simp),fun p hp=>⟨⟨by decide,by decide⟩,by decide,?_⟩⟩;obtain ⟨v,hv,ev⟩:=pick (xs:=[V.str "",V.aw,V.str "elm",V.str "Main",V.int 0]) (d:=cell / 1764 % 5) (Pi _ (by decide)) (No _ (by decide));simp only [bR,ay,ev];have s5:=s4.trans (ag.upd (o:=.lst [V.str "",V.aw,V.str "elm",V.str "Main",V.int 0]) hp);refine ⟨v,by trivial,s5,i.same s5,by rw [lR];symm,ug (ag.upd hp) Oq,fn _,fm _,fr _,?_⟩;unfold Ah;rw [E1];simp only [pi,ss,AC] at hv;rcases hv with rfl | rfl | rfl | rfl | rfl
  ·exact ⟨⟨_,rfl⟩,fun z e=>by cases e;symm⟩
  ·exact ⟨⟨_,rfl⟩,nofun⟩
  ·exact ⟨⟨_,rfl⟩,fun z e=>by cases e;symm⟩
  ·exact ⟨⟨_,rfl⟩,fun z e=>by cases e;symm⟩
  ·exact ⟨⟨_,rfl⟩,nofun⟩
 rintro σ' H5 ⟨vt,rfl,s5,F5⟩;clear s4 Oq H4 ug fn fm fr;have j5:pI T Pe H H5 AA L M va vn vm vr vt:=⟨F5,⟨es,gA tab fun b φ e=>s5 _ _ e⟩,.of s5⟩;clear F5 s5;refine lL 0 .a0 (az rfl (az rfl bX)) (xg T) (by symm) j5 fun H6 j6=>?_;refine lL 0 .a1 (az rfl (az rfl bX)) (xg T) (by symm) j6 fun H7 j7=>?_;refine lL 0 .a2 (az rfl (az rfl (az rfl (az rfl bX)))) (xg T) (by symm) j7 fun H8 j8=>?_;refine lL 3 .a3 (az rfl (az rfl (az rfl bX))) (Lw T) (by symm) j8 fun H9 j9=>?_;refine lL 6 .a4 (az rfl (az rfl bX)) (LK T) (by symm) j9 fun oQ j10=>?_;refine lL 2 .a5 (az rfl (az rfl (az rfl bX))) (HB T) (by symm) j10 fun xK j11=>?_;refine lL 2 .a6 (az rfl (az rfl bX)) (HB T) (by symm) j11 fun Ek j12=>?_;refine lL 5 .a7 (az rfl (az rfl bX)) (Hi T) (by symm) j12 fun En j13=>?_;refine lL 5 .a8 (az rfl (az rfl bX)) (Hi T) (by symm) j13 fun EN j14=>?_;obtain ⟨es14,MZ⟩:=j14.tab;right;refine ⟨es14,MZ,fun f0 c0 H1 L1 hf0 dZ=>⟨fits (by simp),fun l hl=>?_⟩⟩;have s2:=ag.upd (o:=et f0 cN (nQ s.heap.objs.size) c0) dZ;have qJ:EN l=none:=by
  cases e:EN l with
  | none=>rfl
  | some o =>
   by_cases z:l=Pe
   ·obtain ⟨uw,t1⟩:=L1.tab;rw [z,s2 _ _ t1.tab] at hl;cases hl
   ·rw [s2 _ _ (L1.vH _ _ z e)] at hl;cases hl
 have d1:kO cN Pe EN l [f0] [nQ s.heap.objs.size] (upd (upd H1 f0 (et f0 cN (nQ s.heap.objs.size) c0)) l (.lst [V.ref f0])):=by
  obtain ⟨uw,t1⟩:=L1.tab;have s3:=ag.upd (o:=.lst [V.ref f0]) hl;refine ⟨⟨uw,gA t1 fun b φ e=>s3 _ _ (s2 _ _ e)⟩,ay,qJ,rfl,fun i f lm h1 h2=>?_,((tJ L1).trans (.of s2)).trans (.of s3)⟩
  match i with
  | 0 =>
   cases h1;cases h2;exact ⟨c0,(w8 L1 MZ hf0 dZ).kp (.of s3)⟩
  | i+1=>cases h1
 generalize upd (upd H1 f0 (et f0 cN (nQ s.heap.objs.size) c0)) l (.lst [V.ref f0])=H2 at d1 ⊢;clear hl s2 L1 dZ;refine n9 rfl (by simp) d1 fun f1 G3 d2=>n9 rfl (by simp) d2 fun f2 G4 d3=>n9 rfl (by simp) d3 fun f3 G5 d4=>n9 rfl (by simp) d4 fun f4 G6 d5=>n9 rfl (by simp) d5 fun f5 G7 d6=>n9 rfl (by simp) d6 fun f6 G8 d7=>n9 rfl (by simp) d7 fun f7 G9 d8=>?_;have jj:=j14.go d8.k d8.tab;obtain ⟨Eg,t9⟩:=d8.tab;left;refine ⟨[],bX,⟨_,aH.of d8.hl⟩,QX (by simp) (aH.of d8.hl) (fun H1 s1=>aH.of (s1 _ _ d8.hl)) (fun y hy K7 s7 R hR=>?_) fun l' K7 s7 hl'=>⟨fits (by simp),fun p hp=>⟨[],[],aH.of ((ag.upd hp) _ _ ay),aH.of ay,.inl ⟨rfl,?_⟩⟩⟩⟩
 ·obtain ⟨f,hf,rfl⟩:=Ix.mp hy;obtain ⟨i,hi,rfl⟩:=TD hf;obtain ⟨lm,iO⟩:∃ lm,[nQ s.heap.objs.size,AW s.heap.objs.size,An s.heap.objs.size,CV s.heap.objs.size,Cz s.heap.objs.size,zB s.heap.objs.size,B3 s.heap.objs.size,zT s.heap.objs.size][i]?=some lm:=⟨_,mo (d8.len ▸ hi)⟩;obtain ⟨c,la⟩:=d8.dC i _ lm (mo hi) iO;have tb:d9 T s.heap.objs.size lm [0,3] (wQ T T.bH jN):=by
   have hi8:i < 8:=by simpa using hi
   clear la hy hf
   match i,hi8 with
   | 0,_=>cases iO;exact .a9
   | 1,_=>cases iO;exact .qd
   | 2,_=>cases iO;exact .vg
   | 3,_=>cases iO;exact .Hz
   | 4,_=>cases iO;exact .LI
   | 5,_=>cases iO;exact .Ld
   | 6,_=>cases iO;exact .IY
   | 7,_=>cases iO;exact .Iu
  left;have MR:=la.kp (.of s7);exact ⟨_,_,rfl,⟨lm,c,_,_,[.ref AA.a,vn],tb,az rfl (az rfl bX),rfl⟩,MR.hf,MR.hc,AA,L,M,va,vn,vm,vr,vt,rfl,jj.F.gQ (Kw s7),fun H' s'=>⟨_,6,rfl,LK T,"thing",by symm,fun H2 s2=>show R (!decide (("thing":Str) = "thing")) H2 by rw [xz rfl];exact hR H2 ((s7.trans s').trans s2)⟩⟩
 ·have s8:=(ag.upd (o:=.lst []) hl').trans (ag.upd (o:=.lst []) hp);have s9:=s7.trans s8;exact q _ Eg (jj.F.i.same s9) (gA t9 fun b φ e=>s9 _ _ e) (jj.k.trans (.of s9))
def Xj (xs:List V):Prop:=∀ v∈xs,∀ a,v≠V.ref a
def Jc:HO->Prop
 | .lst xs=>Xj xs
 | .dI _ _=>True
 | .tup _=>True
 | .ext _=>True
 | _=>False
def lx (H H':Hp):Prop:=∀ c o,Jc o->H c=some o->H' c=some o
def lx.trans {H H1 H2:Hp} (a:lx H H1) (b:lx H1 H2):lx H H2:=fun c o h e=>b c o h (a c o h e)
section
variable {CH CS CT:Addr} {H H':Hp} {A:Ad} {L:List Ta} {M:Hs}
def aI.QC (i:aI CH CS CT H A L M) (h0:M.ts≠[]) {b:Addr} {o:HO} (hb:b∈A.w++L.flatMap Ta.l) (hx:Jc o) (e:H b=Option.some o):False:=by
 rcases _O.mp hb with h | h
 ·simp only [Ad.w,pi,ss,AC] at h;rcases h with rfl | rfl | rfl | rfl | rfl | rfl | rfl | rfl
  ·obtain ⟨_,_,e',_⟩:=i.h;rw [e'] at e;cases e;exact hx
  ·obtain ⟨_,_,e',_⟩:=i.t;rw [e'] at e;cases e;exact hx
  ·rw [i.ml] at e;cases e;cases L with
   | nil=>exact h0 (_k.mp i.len.symm)
   | cons a r=>exact hx (.ref a.th) (by simp) a.th rfl
  ·rw [i.ro] at e;cases e;exact hx
  ·rw [i.st] at e;cases e;exact hx
  ·rw [i.tr] at e;cases e;exact hx
  ·rw [i.ov] at e;cases e;exact hx
  ·rw [i.un] at e;cases e;exact hx
 ·obtain ⟨a,ha,h⟩:=List.mem_flatMap.mp h;obtain ⟨j,ha⟩:=_G ha;have cb:j < M.ts.length:=by rw [<- i.len];exact (sK.mp ha).1
  obtain ⟨a',e1,t⟩:=i.th j _ (mo cb);rw [ha] at e1;cases e1;simp only [Ta.l,pi,ss,AC] at h;rcases h with rfl | rfl | rfl
  ·obtain ⟨_,e',_⟩:=t.o;rw [e'] at e;cases e;exact hx
  ·rw [t.nm] at e;cases e;exact hx
  ·rw [t.pl] at e;cases e;exact hx
def aI.off (i:aI CH CS CT H A L M) (h0:M.ts≠[]) {W:List Addr} (hW:∀ b∈W,b∈A.w++L.flatMap Ta.l) (k:Kp W H H'):lx H H':=fun c o ho e=>k c _ (fun hc=>i.QC h0 (hW c hc) ho e) e
end
def TS (tl:List (Addr×Str)) (H:Hp):Prop:=∀ p∈tl,∃ es,da H p.1 p.2 es
def TS.kp {tl:List (Addr×Str)} {H H':Hp} (h:TS tl H) (k:∀ c φ,H c=some (.ext φ)->H' c=some (.ext φ)):TS tl H':=fun p hp=>let ⟨es,t⟩:=h p hp;⟨es,gA t k⟩
def TS.ka {tl:List (Addr×Str)} {H H':Hp} (h:TS tl H) (k:lx H H'):TS tl H':=h.kp fun _ _ e=>k _ _ trivial e
def TS.step {tl:List (Addr×Str)} {H H':Hp} {P:Addr} {q:Str} (h:TS tl H) (nd:(tl.map (·.1)).Nodup) (hm:(P,q)∈tl) (k:∀ c φ,c≠P->H c=some (.ext φ)->H' c=some (.ext φ)) (t':∃ es,da H' P q es):TS tl H':=fun p hp=>by
 by_cases e:p.1=P
 ·obtain rfl:p=(P,q):=by
   obtain ⟨a,ha,h1⟩:=TD hp;obtain ⟨b,hb,h2⟩:=TD hm;have:a=b:=by
    rcases Nat.lt_trichotomy a b with h | h | h
    ·exact ((List.pairwise_iff_getElem.mp nd) a b (by simpa using ha) (by simpa using hb) h (by rw [_m,_m,h1,h2];exact e)).elim
    ·exact h
    ·exact ((List.pairwise_iff_getElem.mp nd) b a (by simpa using hb) (by simpa using ha) h (by rw [_m,_m,h1,h2];exact e.symm)).elim
   subst this;exact h1.symm.trans h2
  exact t'
 ·obtain ⟨es,t⟩:=h p hp;obtain ⟨es0,t0⟩:=h _ hm;exact ⟨es,k _ _ e t.tab,fun x hx=>k _ _ (fun z=>by
   have c:=t.code x hx;rw [z,t0.tab] at c;exact Fg (Fk c)) (t.code x hx)⟩
def TS.ne {tl:List (Addr×Str)} {H:Hp} (h:TS tl H) {p:Addr×Str} (hp:p∈tl) {b:Addr} {o:HO} (no:∀ φ,o≠.ext φ) (e:H b=some o):b≠p.1:=fun z=>by
 obtain ⟨es,t⟩:=h p hp;rw [z,t.tab] at e;cases e;exact no _ rfl
def zO (K:ν) (tabs:ox):Sp:=mw fun a H Q _=>A3 (∃ ns:List Int,aH K H a (ns.map V.int)) (nS tabs H) (∀ H',uX tabs H'->Q (.bl true) H')
def mr (K:ν) (H:Hp) (a:Addr) (ns:List Int):Prop:=(∀ J,aH K J a (ns.map V.int))\/∃ o,H a=some (.dI o (.lst (ns.map V.int)))
def mr.sq {H:Hp} {a:Addr} {ns:List Int} (h:mr K H a ns):aH K H a (ns.map V.int):=by
 rcases h with h | h
 ·exact h H
 ·exact .inl (.inr h)
def mr.kp {H H':Hp} {a:Addr} {ns:List Int} (h:mr K H a ns) (k:∀ o,H a=some (.dI o (.lst (ns.map V.int)))->H' a=some (.dI o (.lst (ns.map V.int)))):mr K H' a ns:=by
 rcases h with h | ⟨o,h⟩
 ·exact .inl h
 ·exact .inr ⟨o,k _ h⟩
def ab0 (ns:List Int) (lo:Option Int) (k:Nat):∃ ms:List Int,jz (ns.map V.int) lo (some (k:Int))=ms.map V.int/\ms.length<=k:=by
 refine ⟨((ns.drop (HT.dF (ns.map V.int).length 0 lo)).take (HT.dF (ns.map V.int).length (ns.map V.int).length (some (k:Int)) - HT.dF (ns.map V.int).length 0 lo)),?_,?_⟩
 ·unfold jz;rw [<- List.map_drop,<- List.map_take]
 ·rw [Wp,HT.RJ];omega
def cI:List Nat:=[105,110]
def cF:List Nat:=[102,105,108,101]
def cR:List Nat:=[114,105,110,103]
def qc (l:List (Str×Nat)):Th:=⟨"folder","own","lgw","lg","",l,[]⟩
def fo (re:Str) (l:List (Str×Nat)) (nm:List Nat):Th:=⟨"folder","own","lgw",re,"",l,[(0,Tx.S nm)]⟩
def fi (f:Nat):Th:=⟨"file","own","lgw","","text",[],[(f,Tx.S cF)]⟩
def hM (ts:List Th):Hs:={ ts:=ts,ro:=lZ,st:=lZ,tr:=[("main",0)],ov:=[],un:=[] }
def ny:Hs:=hM [qc [(Tx.S cI,1),(Tx.S cR,3)],fo "" [(Tx.S cF,2)] cI,fi 1,⟨"lead","own","","",Tx.S (47::cR),[],[(0,Tx.S cR)]⟩]
def Uu:∀ (k:Nat) (t:Th),ny.ts[k]?=some t->t.bU.length < 64/\(t.df=[]\/∃ f z,t.df=[(f,z)])
 | 0,t,h=>by cases h;exact ⟨by decide,.inl rfl⟩
 | 1,t,h=>by cases h;exact ⟨by decide,.inr ⟨_,_,rfl⟩⟩
 | 2,t,h=>by cases h;exact ⟨by decide,.inr ⟨_,_,rfl⟩⟩
 | 3,t,h=>by cases h;exact ⟨by decide,.inr ⟨_,_,rfl⟩⟩
 | k+4,t,h=>by cases h
section
variable {N:Cn} {H:Hp} {A:Ad} {L:List Ta} {Q:VK} {E:XK}
def SR {ts:List Th} {f:Nat} {a0:Ta} {H':Hp} (i:aI N.CH N.CS N.CT H A L (hM ts)) (h0:ts≠[]) (qZ:L[f]?=some a0) (k:Kp [A.t,A.ml,a0.nm] H H'):lx H H':=i.off h0 (fun b hb=>by
 simp only [pi,ss,AC] at hb;rcases hb with rfl | rfl | rfl
 ·simp [Ad.w]
 ·simp [Ad.w]
 ·exact Cl _ (mv qZ (by simp [Ta.l]))) k
def Dk {kd mi re tx:Str} {t nm:List Nat} {f:Nat} {tf:Th} {ts:List Th} {q:List (List Nat)} {ns:List Str} (i:aI N.CH N.CS N.CT H A L (hM ts)) (iP:ts.all (fun t=>decide (t.bU.length<=400))=true) (hn:ts.length<=50) (h0:ts≠[]) (hp:ig t) (hq:told (Tx.words 47 t) t=q++[nm]) (cM:isNm nm=true) (hr:mK t=true) (hl:q.length<=800) (g:rK ⟨L,hM ts,"own",true,0⟩ (q.map Tx.S++[(".":Str)]) f ns) (hf:ts[f]?=some tf) (hw:eZ ("w":Str) (fK tf "own")=true) (hv:bb (sD tf.bU) (.inr (Tx.S nm))=none) (vv:mi∈er) (xB:re∈er)
  (k:∀ v L' H',aI N.CH N.CS N.CT H' A L' (hM (ts.set f { tf with bU:=tf.bU++[(Tx.S nm,ts.length)] }++[⟨kd,"own",mi,re,tx,[],[(f,Tx.S nm)]⟩]))->lx H H'->Q v H'):wN N H A L (hM ts) "own" t kd mi re tx Q E:=by
 obtain ⟨a0,qZ⟩:=adr i.len hf;exact ⟨i,hp,by show (bb (sD lZ) (.inr ("own":Str))).isSome=true;symm,vv,xB,by rw [i.len];exact wE hn (by decide),fun j t h=>_U (IO.mp iP t (KM h)),0,f,nm,a0,tf,⟨⟨q,ns,hq,cM,hr,hl,g⟩,cM,qZ,hf,hw,hv⟩,fun a H2 i2 k2=>k _ _ H2 i2 (SR i h0 qZ k2)⟩
def ua {l:List (Str×Nat)}:eZ ("g":Str) (fK (qc l) "own")=true/\eZ ("w":Str) (fK (qc l) "own")=true:=⟨show eZ ("g":Str) (if ("own":Str) = "own" then "lgw" else "lg")=true by symm,show eZ ("w":Str) (if ("own":Str) = "own" then "lgw" else "lg")=true by symm⟩
def JR {l:List (Str×Nat)} {nm:List Nat}:eZ ("g":Str) (fK (fo "" l nm) "own")=true/\eZ ("w":Str) (fK (fo "" l nm) "own")=true:=⟨show eZ ("g":Str) (if ("own":Str) = "own" then "lgw" else "")=true by symm,show eZ ("w":Str) (if ("own":Str) = "own" then "lgw" else "")=true by symm⟩
end
def Qc {Pd Pq:Addr} (C0:PySem.W.CodeHd base T.m6 Pd) (b0:base.BuiltinsAt mg Pd) (C1:PySem.W.CodeHd base T.oT Pq) (b1:base.BuiltinsAt mg Pq) (uA:Pd≠Pq) :
  aq P w K mg base (aR P w) 21 T.E4 T.yv ["_law_script"] (zO K [(T.m6,Pd),(T.oT,Pq)]):=by
 have G_l_right:=ac3 (P:=P) (w:=w) (base:=base) T C0 b0;have G_l_questions:=acg (P:=P) (w:=w) (base:=base) T C1 b1;refine T.wC.br zm (fun vs H Q E h=>?_) (fun _ A _ s H vs Q E hr h=>?_)
 ·exact fX h fun _ _=>rfl
 ·refine fX h fun a h=>?_;obtain ⟨⟨ns,hS⟩,hO,q⟩:=h;refine aY (b:=aN tV) ((ad (aO 1 zm.nd (li T.Yu (adm T) hr.m T.abp T.sx.b .nil aB (aa ap ae)))
  (ad (aL (bB T.aE T.sF.h (ab4 T) hr.m T.sF.b .nil aB (ac 1) (aa ap ae)))
  (ad (aL (bg (Yj T) hr.m T.Gs T.pV.kp T.zi (.cons (show RelV (.str "lgw") _ from ⟨_,rfl⟩) (.cons (show RelV (.str "") _ from ⟨_,rfl⟩) .nil)) aQ (aa (ac 1) (aa ap (aa ap ae)))))
  (ad (aL (bg (RL T) hr.m T.Hq T.pf.kp T.Aj (.cons (show RelV (.str "lgw") _ from ⟨_,rfl⟩) (.cons (show RelV (.str "") _ from ⟨_,rfl⟩) .nil)) aQ (aa (ac 1) (aa ap (aa ap (aa ap ae))))))
  (ad (aL (bg (acK T) hr.m T.iq.m T.iq.F.kp T.iq.b .nil aQ (aa (ac 1) (aa ap (aa ap (aa ap ae))))))
  (ad (Ao RS rfl (lG (K:=K) rfl (Dv.slice (yY (K:=K) rfl) (ac 0) Ab (Cb bi))) (hX 2 zm.nd) (ah (aW (cX (cO (bg G_l_right hr.m T.oj.m T.oj.F.kp T.oj.b .nil aQ (aa (ac 1) (aa (bn (adp T) hr.m T.pT.m T.pT.F.kp T.pT.b .nil aB (aa (ac 2) ae)) ae))))) (ah (aK ge)) cr)))
  (ah (aK (bg G_l_questions hr.m T.Y7 T.vC.kp T.Dy .nil aQ (aa (ac 1) (aa (bn (Xm T) hr.m T.qo.m T.qo.F.kp T.qo.b .nil aB (aa (ac 0) (aa bi ae))) ae)))))))))))) ?_
  refine stI [some (.ref a),none,none] ?_;obtain ⟨tl,uD⟩:∃ tl:List (Addr×Str),tl=[(Pd,dk),(Pq,cN)]:=⟨_,rfl⟩;have nd:(tl.map (·.1)).Nodup:=by rw [uD];simpa using uA
  have m1:(Pd,dk)∈tl:=by rw [uD];simp
  have m2:(Pq,cN)∈tl:=by rw [uD];simp
  have MY:TS tl H:=fun p hp=>by
   rw [uD] at hp;simp only [pi,ss,AC] at hp;rcases hp with rfl | rfl
   ·exact ⟨[],hO.ok (c:=T.m6) _ (by simp)⟩
   ·exact ⟨[],hO.ok (c:=T.oT) _ (by simp)⟩
  have fin:∀ {H':Hp},TS tl H'->Q (.bl true) H':=fun {H'} h=>q H' fun qq hq=>by
   rw [uD] at h;simp only [pi,ss,AC] at hq;rcases hq with rfl | rfl
   ·exact let ⟨es,t⟩:=h (Pd,dk) (by simp);⟨es,t.tab⟩
   ·exact let ⟨es,t⟩:=h (Pq,cN) (by simp);⟨es,t.tab⟩
  have NM:mr K H a ns:=by
   rcases hS with hS | hS
   ·rcases hS with hS | hS
    ·rcases hO.all a with z | ⟨o,xs,z⟩ | ⟨qq,hq,z⟩
     ·rw [z] at hS;cases hS
     ·rw [z] at hS;cases hS
     ·have z2:=hO.tab qq hq;rw [<- z,hS] at z2;cases z2
    ·exact .inr hS
   ·exact .inl fun J=>.inr hS
  right;intro hx dx hhx lU dQ;refine ⟨⟨dx,ay⟩,by symm,by symm,fun A1 L1 H2 hA1 i2 oJ iN=>⟨rfl,?_⟩⟩;subst hA1;have k2:lx H H2:=fun b o ho e=>iN _ _ (by rw [EQ];exact bo e hhx) (by rw [aj (bo e hhx),aj (bo e lU)];exact e);obtain ⟨bG,gc,gh,bF,aG⟩:=i2.h;right;refine mI gh aG ⟨A1,L1,_,i2,rfl,by symm,by symm,by decide,by decide,by symm,by symm,fun H3 i3 k3=>?_⟩;have i3':aI T.cn.CH T.cn.CS T.cn.CT H3 A1 L1 (hM [qc []]):=i3;have k3':=k2.trans (i2.off (by nofun) (W:=[A1.a,A1.ro,A1.st]) (fun b hb=>by
   simp only [pi,ss,AC] at hb;rcases hb with rfl | rfl | rfl <;> simp [Ad.w]) k3)
  clear i2 i3 k2 k3 gh aG iN oJ;right;refine ⟨A1,L1,_,47::cI,by symm,Dk (nm:=cI) (q:=[]) i3' rfl (by decide) nofun ⟨by symm,by symm,by symm⟩ (by symm) (by symm) (by symm) (by decide) (Gv i3'.len rfl rfl (by symm) rfl rfl ua.1) rfl ua.2 (by symm) (by symm) (by symm) (fun v4 L4 H4 i4 k4=>?_),rfl⟩;have i4':aI T.cn.CH T.cn.CS T.cn.CT H4 A1 L4 (hM [qc [(Tx.S cI,1)],fo "" [] cI]):=i4;have k4':=k3'.trans k4;clear i3' k3' k4 i4;right;refine ⟨A1,L4,_,47::cI++47::cF,by symm,Dk (nm:=cF) (q:=[cI]) i4' rfl (by decide) nofun ⟨by symm,by symm,by symm⟩ (by symm) (by symm) (by symm) (by decide) (ZW i4'.len rfl rfl (by symm) rfl rfl ua.1 rfl rfl JR.1 rfl (by symm) (by symm) (by symm) (by symm) (by symm)) rfl JR.2 (by symm) (by symm) (by symm) (fun v5 L5 H5 i5 k5=>?_),rfl,by symm⟩;have i5':aI T.cn.CH T.cn.CS T.cn.CT H5 A1 L5 (hM [qc [(Tx.S cI,1)],fo "" [(Tx.S cF,2)] cI,fi 1]):=i5;have k5':=k4'.trans k5;clear i4' k4' k5 i5;right;refine ⟨A1,L5,_,47::cR,47::cR,by symm,by symm,Dk (nm:=cR) (q:=[]) i5' rfl (by decide) nofun ⟨by symm,by symm,by symm⟩ (by symm) (by symm) (by symm) (by decide) (Gv i5'.len rfl rfl (by symm) rfl rfl ua.1) rfl ua.2 (by symm) (by symm) (by symm) (fun v6 L6 H6 i6 k6=>?_),rfl,⟨by symm,by symm,by symm⟩,by decide⟩;have i6':aI T.aD T.aJ T.aM H6 A1 L6 ny:=by
   have e:Str.ofString "/ring" = Tx.S (47::cR):=by symm
   unfold ny;rw [<- e];exact i6
  have k6':=k5'.trans k6;clear i5' k5' k6 i6;have Nj:=MY.ka k6';have Ea:=NM.kp fun o e=>k6' _ _ trivial e;clear k6' MY NM;refine aX (fun σ' H'=>(aI T.aD T.aJ T.aM H' A1 L6 ny/\TS tl H'/\mr K H' a ns)/\∃ t1,σ'=[some (.ref a),some (.ref A1.a),t1]) ?_ ?_
  ·left;refine ⟨_,Ea.sq,fun ll hll=>⟨⟨_,aH.of ay⟩,?_⟩⟩;obtain ⟨zs,ez,hzl⟩:=ab0 ns none 40;rw [show ((40:Nat):Int)=40 from rfl] at ez;rw [ez];refine eV hll fun H7 s7 b7=>?_;have i7:=i6'.same s7;have uh:=Nj.kp fun _ _ e=>s7 _ _ e;have xW:=Ea.kp fun o e=>s7 _ _ e;refine Gf (xs:=zs.map V.int) (fun i σ' H'=>(H' ll=some (.lst (zs.map V.int))/\aI T.aD T.aJ T.aM H' A1 L6 ny/\TS tl H'/\mr K H' a ns)/\∃ t1,σ'=[some (.ref a),some (.ref A1.a),t1]) ⟨⟨b7,i7,uh,xW⟩,_,rfl⟩ (fun i σ' H' _ h=>aH.of h.1.1) ?_ (fun σ' H' h=>⟨h.1.2,h.2⟩);clear b7 i7 uh xW s7 hll i6' Nj Ea;rintro i x σ' H3 hx ⟨⟨b3,i3,ts3,sc3⟩,t1,rfl⟩;obtain ⟨m,hm,rfl⟩:=Ix.mp (KM hx);left;intro st a0 b0 c0 bt;have s4:=ag.upd (o:=.lst [.int a0,.int b0,.int c0]) bt;have d4:Dr st (upd H3 st (.lst [.int a0,.int b0,.int c0])):=⟨a0,b0,c0,ay⟩;have nl:ll≠st:=fun z=>by rw [z,bt] at b3;cases b3
   have na:∀ o,H3 a=some (.dI o (.lst (ns.map V.int)))->a≠st:=fun o e z=>by rw [z,bt] at e;cases e
   have El:st ∉ A1.w++L6.flatMap Ta.l:=fun hb=>by
    obtain ⟨o,ho⟩:=i3.some st hb;rw [bt] at ho;cases ho
   have b4:=s4 _ _ b3;have i4:=i3.same s4;have uI:=ts3.kp fun _ _ e=>s4 _ _ e;obtain ⟨es,t4⟩:=uI _ m1;generalize upd H3 st (.lst [.int a0,.int b0,.int c0])=H4 at d4 b4 i4 uI t4 s4 ⊢;refine ⟨A1,L6,ny,st,es,rfl,⟨i4,rfl,by decide,by nofun,Uu⟩,d4,El,t4,fun H5 es' i5 t5 k5=>?_⟩;have ne:∀ {b:Addr} {o:HO},b≠Pd->b≠st->H4 b=some o->H5 b=some o:=fun {b o} h1 h2 e=>k5 b o (fun z=>by
    simp only [pi,ss,AC] at z;rcases z with z | z
    ·exact h1 z
    ·exact h2 z) e
   refine fJ (by decide) ⟨⟨ne (uI.ne m1 (by nofun) b4) nl b4,i5,uI.step nd m1 (fun c φ n e=>ne n (fun z=>by obtain ⟨x1,y1,z1,d⟩:=d4;rw [z,d] at e;cases e) e) ⟨es',t5⟩,?_⟩,_,rfl⟩;exact sc3.kp fun o e=>ne (uI.ne m1 (by nofun) (s4 _ _ e)) (na o e) (s4 _ _ e)
  ·rintro σ' H7 ⟨⟨i7,uh,xW⟩,t1,rfl⟩;left;obtain ⟨es,t7⟩:=uh _ m2;refine ⟨⟨ns,xW.sq⟩,by decide,fun c=>⟨A1,L6,ny,es,c,rfl,i7,rfl,rfl,by decide,t7,fun H8 es' i8 t8 k8=>?_⟩⟩;exact fin (uh.step nd m2 (fun b φ n e=>k8 b _ (by rw [EQ];exact n) e) ⟨es',t8⟩)
end
def Zh {K:ν} {a:Addr} {od:Option Addr} {tk:Nat} {sl:Array (Option Value)} {t0 t1:Tok} (l:K.lookup a=some ⟨.type "tuple",od,.seq ([.str "." t0,.str ".." t1]:List Value).toArray tk,sl⟩) (H:Hp):bT K H a [.str ".",.str ".."]:=.inr ⟨_,_,_,l,rfl,rfl,fits (by simp),(.cons ⟨_,rfl⟩ (.cons ⟨_,rfl⟩ .nil))⟩
def TC {K:ν} {a:Addr} {od:Option Addr} {tk:Nat} {sl:Array (Option Value)} {t0 t1 t2 t3 t4 t5 t6 t7:Tok} (l:K.lookup a=some ⟨.type "tuple",od,.seq ([.str "" t0,.str "l" t1,.str "g" t2,.str "w" t3,.str "lg" t4,.str "lw" t5,.str "gw" t6,.str "lgw" t7]:List Value).toArray tk,sl⟩) (H:Hp):bT K H a [.str "",.str "l",.str "g",.str "w",.str "lg",.str "lw",.str "gw",.str "lgw"]:=.inr ⟨_,_,_,l,rfl,rfl,fits (by simp),(.cons ⟨_,rfl⟩ (.cons ⟨_,rfl⟩ (.cons ⟨_,rfl⟩ (.cons ⟨_,rfl⟩ (.cons ⟨_,rfl⟩ (.cons ⟨_,rfl⟩ (.cons ⟨_,rfl⟩ (.cons ⟨_,rfl⟩ .nil))))))))⟩
def R1 {K:ν} {a:Addr} {od:Option Addr} {tk:Nat} {sl:Array (Option Value)} {t0 t1 t2:Tok} (l:K.lookup a=some ⟨.type "tuple",od,.seq ([.str "l" t0,.str "g" t1,.str "w" t2]:List Value).toArray tk,sl⟩) (H:Hp):bT K H a [.str "l",.str "g",.str "w"]:=.inr ⟨_,_,_,l,rfl,rfl,fits (by simp),(.cons ⟨_,rfl⟩ (.cons ⟨_,rfl⟩ (.cons ⟨_,rfl⟩ .nil)))⟩
def YR {K:ν} {H:Hp} {a:Addr} {ns:List Int} {tabs:ox} (hO:nS tabs H) (hS:aH K H a (ns.map V.int)):zO K tabs [.ref a] H (fun v H'=>v=.bl true/\uX tabs H') fun _ _ _=>False:=⟨⟨ns,hS⟩,hO,fun H' t=>⟨rfl,t⟩⟩
def TQ {P:Program} {w:World} {outer:List Env} {H:Hp} {s s':Shared} {e:Value} (z:aR P w outer H s (fun _ _ _=>False) e s'):False:=by
 obtain ⟨_,_,_,_,_,_,z⟩:=z;exact z
def XE {l:W.OpenLaw} {q:Program} {loose:List Str} {XP:(Str->Option Value)->Heap->Prop} {YP:World->Heap->Prop} {d:DefRec} {K:Params->ν} {ce Pe cl Pl:Addr} (hn:l.most=some 63) (uo:d.params.defaults=[]) (qV:d.name = "law")
  (hY:∀ (w:World) (h:Heap),YP w h->(K w.params).In h) (o9:∀ w:World,W.noTabs (K w.params)=true)
  (DS:∀ w:World,∃ e,(recsOf q).find? (fun e=>e.name == ("_law_deed":Str))=some e/\W.tabIn (K w.params) "_law_deed" = some (ce,Pe))
  (hZ:∀ w:World,∃ e,(recsOf q).find? (fun e=>e.name == ("_law_questions":Str))=some e/\W.tabIn (K w.params) "_law_questions" = some (cl,Pl))
  (uA:Pl≠Pe)
  (F:∀ (w:World) (mg:Str->Option Value) (h:Heap),(K w.params).In h->h.Ns mainGlobals mg->∃ T:Tx (K w.params) mg,T.m6=ce/\T.oT=cl) :
  W.WalkO q loose XP YP l.row.toRowW d [] (fun f vs=>PySem.call f vs) :=
 L2.acj (n:=63) (k:=21) (x := "_law_script") (CX:=fun w=>aR l.prog w) (sp:=fun w=>zO (K w.params) [(ce,Pe),(cl,Pl)]) (tabs:=[(ce,Pe),(cl,Pl)]) hn (by decide) uo ⟨rfl,by decide,by decide⟩ hY o9
  (fun w t ht=>by
   simp only [pi,ss,AC] at ht;rcases ht with rfl | rfl
   ·exact let ⟨e,h1,h2⟩:=DS w;⟨_,e,h1,h2⟩
   ·exact let ⟨e,h1,h2⟩:=hZ w;⟨_,e,h1,h2⟩)
  (fun w mg fa h KX G hfa=>by
   obtain ⟨T,rfl,rfl⟩:=F w mg h KX G;rw [qV] at hfa;have e:=hfa.symm.trans T.Yp;cases e;refine ⟨T.yv,fun s u=>by obtain ⟨oc,od,kV,doc,pm,an,cdv,ct,dq,e,_⟩:=T.wC.ex;rw [e];exact .of_eq rfl,fun base _ _ hb=>?_⟩;have g0:=hb (T.m6,Pe) (by simp);have g1:=hb (T.oT,Pl) (by simp);exact Qc T g0.1 g0.2 g1.1 g1.2 (wP uA))
  (fun _ _ a ns _ hO hS=>YR hO hS) fun _ _ _ _ _ z=>TQ z
end L2.bL

open PySem PySem.W PyProof.Rows
local macro_rules | `(tactic| walk_at "fa")=>`(tactic| (refine' L2.FA.mk ?n ?l ?c ?k;(case n=>k_is);(case l=>k_is);(case c=>k_is);(case k=>k_is)))
local macro_rules | `(tactic| walk_at "ma")=>`(tactic| (refine' L2.MA.mk ?n ?l ?c ?k ?t;(case n=>k_is);(case l=>k_is);(case c=>k_is);(case k=>k_is);(case t=>k_is)))
local macro_rules | `(tactic| walk_at "ar")=>`(tactic| (intro _ _ _ _ _ _;first | (refine L2.Kh ?_;exact fun _=>rfl) | (refine L2.He ?_;exact fun _ _=>rfl) | (refine L2.wq ?_;exact fun _ _ _=>rfl) | (refine L2.rQ ?_;exact fun _ _ _ _=>rfl) | (refine L2.wD ?_;exact fun _ _ _ _ _=>rfl) | (refine L2.Al ?_;exact fun _ _ _ _ _ _=>rfl) | (refine L2.U5 ?_;exact fun _ _ _ _ _ _ _=>rfl) | (refine L2.JN ?_;exact rfl)))
local macro_rules | `(tactic| walk_at "mg")=>`(tactic| (refine' PySem.W.mg_of (by assumption) (by assumption) ?n;(case n=>k_is)))
local macro_rules | `(tactic| walk_at "mn")=>`(tactic| (refine' PySem.W.mg_none_of (by assumption) (by assumption) ?n;(case n=>k_is)))
local macro_rules | `(tactic| walk_at "ft")=>`(tactic| (refine' Classical.choice (L2.FA.gt (by assumption) (by assumption) ?b ?a);(case a=>walk_at "fa");(case b=>walk_at "ar")))
local macro_rules | `(tactic| walk_at "mt")=>`(tactic| (refine' Classical.choice (L2.MA.gt ?b ?a);(case a=>walk_at "ma");(case b=>walk_at "ar")))
local macro_rules | `(tactic| walk_at "mk")=>`(tactic| (refine' L2.abf ?a ?b;(case a=>k_is);(case b=>k_is)))
local macro_rules | `(tactic| walk_at "xf")=>`(tactic| (refine' L2.UE ?a ?b ?c ?d ?e ?f ?g;(case a=>kernel_rfl);(case b=>k_is);(case c=>k_is);(case d=>k_is);(case e=>k_is);(case f=>k_is);(case g=>k_is)))
local macro_rules | `(tactic| walk_at "cl")=>`(tactic| (refine' L2.c8.mk ?a ?b ?c ?d;(case a=>k_is);(case b=>k_is);(case c=>k_is);(case d=>k_is)))
local macro_rules | `(tactic| walk_at "fu")=>`(tactic| (refine' L2.y8 ?l ?c ?k;(case l=>k_is);(case c=>k_is);(case k=>k_is)))
local macro_rules | `(tactic| walk_at "fd")=>`(tactic| (refine' L2.RF ?l ?c ?k ?d ?h;(case l=>k_is);(case c=>k_is);(case k=>k_is);(case d=>k_is);(case h=>exact rfl)))
set_option maxRecDepth 100000 in
set_option maxHeartbeats 0 in
theorem PySem.Challenge.cw_leadnames_k48_at_each_door_holds : PySem.Challenge.rw_leadnames_k48_at_each_door.Holds := by
 refine L2.bL.hd0 ?_;unfold L2.bL.fw
 k_fill
 refine L2.bL.XE (l:=PySem.Challenge.rw_leadnames_k48_at_each_door) (ce:=?ce) (Pe:=?Pe) (cl:=?cl) (Pl:=?Pl) rfl rfl rfl (fun w h Y=>W.km_in_of (e:=fun _=>by kernel_rfl) Y) ?o9 ?DS ?hZ ?uA ?F
 case o9=>intro w;first | kernel_rfl | exact rfl
 case DS =>
  intro w;refine' ⟨_,rfl,L2.Ks ?n0 ?l0 ?c0 ?lc0 ?v0⟩
  (case n0=>k_is)
  (case l0=>k_is)
  (case c0=>exact rfl)
  (case lc0=>k_is)
  (case v0=>exact rfl)
 case hZ =>
  intro w;refine' ⟨_,rfl,L2.Ks ?n1 ?l1 ?c1 ?lc1 ?v1⟩
  (case n1=>k_is)
  (case l1=>k_is)
  (case c1=>exact rfl)
  (case lc1=>k_is)
  (case v1=>exact rfl)
 case uA=>exact fun e=>absurd (show (_:Nat)=_ from e) (by decide)
 case F =>
  intro w mg h KX G;refine' ⟨L2.bL.Tx.mk ?_ ?_ ?_ ?_ ?_ ?_ ?_ ?_ ?_ ?_ ?_ ?_ ?_ ?_ ?_ ?_ ?_ ?_ ?_ ?vq ?_ ?IC ?AS ?_ ?_ ?_ ?_ ?_ ?_ ?_ ?_ ?_ ?_ ?_ ?_ ?_ ?pV ?_ ?zU ?MC ?zi ?pf ?_ ?DD ?Hr ?Aj ?_ ?_ ?_ ?_ ?_ ?_ ?_ ?_ ?_ ?_ ?_ ?_ ?_ ?_ ?u7 ?_ ?y9 ?_ ?_ ?vC ?_ ?Dy ?wC ?_ ?GX ?_ ?Bs ?_ ?_ ?_ ?_ ?_ ?_ ?_ ?_ ?_ ?_ ?_ ?_ ?_ ?_ ?_ ?_ ?_ ?_ ?_ ?_ ?_ ?_ ?_ ?_ ?_ ?_ ?uW ?_ ?_ ?zF ?_ ?_ ?_ ?_ ?_ ?_ ?_ ?_ ?_ ?_ ?_ ?_ ?_ ?_ ?_ ?_ ?_ ?_ ?_ ?_ ?_ ?_ ?_ ?_ ?_ ?_ ?_ ?_ ?_ ?_ ?_ ?_ ?_ ?_ ?_ ?_ ?_ ?_ ?_ ?_ ?_ ?_ ?_ ?_ ?_ ?_ ?_ ?_ ?_ ?_ ?_ ?_ ?_ ?_ ?_ ?_ ?_ ?_ ?_ ?_ ?_ ?_ ?_ ?_ ?_ ?_ ?_ ?_ ?_ ?_ ?_ ?_ ?_ ?_ ?_ ?_ ?_ ?_ ?_ ?_ ?_ ?_ ?_ ?_ ?_ ?_ ?_ ?_ ?_ ?_ ?_ ?_ ?_ ?_ ?_ ?_ ?_ ?_ ?_ ?_ ?_ ?_ ?_ ?_ ?_ ?_ ?_ ?_ ?_ ?_ ?_ ?_ ?_ ?_ ?_ ?_ ?_ ?_ ?_ ?_ ?_ ?_ ?_ ?_ ?_ ?_ ?_ ?_ ?_ ?_ ?_ ?_ ?_ ?_ ?_ ?_ ?_ ?_ ?_ ?_ ?_ ?_ ?_ ?_ ?_ ?_ ?_ ?_ ?_ ?_ ?_ ?_ ?_ ?_ ?_ ?_ ?_ ?_ ?_ ?_ ?_ ?_ ?_ ?_ ?_ ?_ ?_ ?_ ?_ ?_ ?_ ?_ ?_ ?_ ?_ ?_ ?_ ?_ ?_ ?_ ?_ ?_ ?_ ?_ ?_ ?_ ?_ ?_ ?_ ?_ ?_ ?_ ?_ ?_ ?_ ?_ ?_ ?_ ?_ ?_ ?_ ?_ ?_ ?_ ?_ ?_ ?_ ?_ ?_ ?_ ?_ ?_ ?_ ?_ ?_ ?_ ?_ ?_ ?_ ?_ ?_ ?_ ?_ ?_ ?_ ?_ ?_ ?_ ?_ ?_ ?_ ?_ ?_ ?_ ?_ ?_ ?_ ?_ ?_ ?_ ?_ ?_ ?_ ?_ ?_ ?_ ?_ ?_ ?_ ?_ ?_ ?_ ?_ ?_ ?_ ?_ ?_ ?_ ?_ ?_ ?_ ?_ ?_ ?_ ?_ ?_ ?_ ?_ ?_ ?_ ?_ ?_ ?_ ?_ ?_ ?_ ?_ ?_ ?_ ?_ ?_ ?_ ?_ ?_ ?_ ?_ ?_ ?_ ?_ ?_ ?_ ?_ ?_ ?_ ?_,rfl,rfl⟩

  all_goals try (first | walk_at "mg" | walk_at "ft" | walk_at "mt" | k_is | (show W.findIn _ _ _=some none;k_is) | walk_at "mn" | kit_is | k_exc | walk_at "mk" | walk_at "cl" | walk_at "xf" | exact rfl | kernel_rfl)
  (case Bs=>(refine' L2.bL.Zh ?l_DOTS;(case l_DOTS=>k_is)))
  (case uW=>(refine' L2.bL.TC ?l_RIGHTS;(case l_RIGHTS=>k_is)))
  (case zF=>(refine' L2.bL.R1 ?l_SINGLE_RIGHTS;(case l_SINGLE_RIGHTS=>k_is)))
  (case vq=>walk_at "fd")
  (case IC=>exact L2.mB (x := "walk") (y := "walk") (st:=L2.bL.sG) (ds:=[.bool true]) 1 (by k_is) (by exact rfl) (fun _ _ _ _ _ _ _ us hl=>by (have e:us.length=4:=(by have h:=hl;rw [List.length_append] at h;simp at h;omega));clear hl;revert us;refine L2.rQ ?_;exact fun _ _ _ _=>⟨_,rfl,rfl⟩))
  (case AS=>exact L2.mB (x := "walk") (y := "walk") (st:=L2.bL.sG) (ds:=[.bool true]) 0 (by k_is) (by exact rfl) (fun _ _ _ _ _ _ _ us hl=>by (have e:us.length=3:=(by have h:=hl;rw [List.length_append] at h;simp at h;omega));clear hl;revert us;refine L2.wq ?_;exact fun _ _ _=>⟨_,rfl,rfl⟩))
  (case pV=>walk_at "fd")
  (case zU=>exact L2.mB (x := "make_folder") (y := "make_folder") (st:=L2.bL.nZ) (ds:=[.str "lgw" _,.str "" _]) 2 (by k_is) (by exact rfl) (fun _ _ _ _ _ _ _ us hl=>by (have e:us.length=5:=(by have h:=hl;rw [List.length_append] at h;simp at h;omega));clear hl;revert us;refine L2.wD ?_;exact fun _ _ _ _ _=>⟨_,rfl,rfl⟩))
  (case MC=>exact L2.mB (x := "make_folder") (y := "make_folder") (st:=L2.bL.nZ) (ds:=[.str "lgw" _,.str "" _]) 1 (by k_is) (by exact rfl) (fun _ _ _ _ _ _ _ us hl=>by (have e:us.length=4:=(by have h:=hl;rw [List.length_append] at h;simp at h;omega));clear hl;revert us;refine L2.rQ ?_;exact fun _ _ _ _=>⟨_,rfl,rfl⟩))
  (case zi=>exact L2.mB (x := "make_folder") (y := "make_folder") (st:=L2.bL.nZ) (ds:=[.str "lgw" _,.str "" _]) 0 (by k_is) (by exact rfl) (fun _ _ _ _ _ _ _ us hl=>by (have e:us.length=3:=(by have h:=hl;rw [List.length_append] at h;simp at h;omega));clear hl;revert us;refine L2.wq ?_;exact fun _ _ _=>⟨_,rfl,rfl⟩))
  (case pf=>walk_at "fd")
  (case DD=>exact L2.mB (x := "make_file") (y := "make_file") (st:=L2.bL.ng) (ds:=[.str "lgw" _,.str "" _]) 2 (by k_is) (by exact rfl) (fun _ _ _ _ _ _ _ us hl=>by (have e:us.length=6:=(by have h:=hl;rw [List.length_append] at h;simp at h;omega));clear hl;revert us;refine L2.Al ?_;exact fun _ _ _ _ _ _=>⟨_,rfl,rfl⟩))
  (case Hr=>exact L2.mB (x := "make_file") (y := "make_file") (st:=L2.bL.ng) (ds:=[.str "lgw" _,.str "" _]) 1 (by k_is) (by exact rfl) (fun _ _ _ _ _ _ _ us hl=>by (have e:us.length=5:=(by have h:=hl;rw [List.length_append] at h;simp at h;omega));clear hl;revert us;refine L2.wD ?_;exact fun _ _ _ _ _=>⟨_,rfl,rfl⟩))
  (case Aj=>exact L2.mB (x := "make_file") (y := "make_file") (st:=L2.bL.ng) (ds:=[.str "lgw" _,.str "" _]) 0 (by k_is) (by exact rfl) (fun _ _ _ _ _ _ _ us hl=>by (have e:us.length=4:=(by have h:=hl;rw [List.length_append] at h;simp at h;omega));clear hl;revert us;refine L2.rQ ?_;exact fun _ _ _ _=>⟨_,rfl,rfl⟩))
  (case u7=>walk_at "fu")
  (case y9=>exact L2.Binds.all (fun us hl=>match us,hl with | [_,_,_,_,_,_,_,_],_=>rfl))
  (case vC=>walk_at "fu")
  (case Dy=>exact L2.Binds.all (fun us hl=>match us,hl with | [_,_],_=>rfl))
  (case wC=>walk_at "fu")
  (case GX=>exact L2.Binds.all (fun us hl=>match us,hl with | [_],_=>rfl))
  all_goals try (first | walk_at "mg" | walk_at "ft" | walk_at "mt" | k_is | (show W.findIn _ _ _=some none;k_is) | walk_at "mn" | kit_is | k_exc | walk_at "mk" | walk_at "cl" | walk_at "xf" | exact rfl | kernel_rfl)

