import PyProof.Rows.All
import Wide.All
import OpenK.AllK
import Wide.FinOn
import Lean
import PyProof.EqAt
import PyProof.EqKinds
import PyProof.TupleCall
import PyProof.NsDelKeeps
import PyProof.InstStoreFacts
import KE.KRevIter
import PyProof.ZipIter
import KE.KUnpack
import PyProof.Conv_int_bool
import PyProof.CallStr
import PySem.Challenge.RW_leadnames_k33_leads_are_read
set_option Elab.async false
set_option linter.all false
set_option maxRecDepth 100000
namespace L2
open PySem PySem.W
def pL (tb:String->Option Builtin) (p:Program) (w:World) (n₀:Nat) (ann:Option Value):Nat->SharedT->Thread->Option SharedT
 | 0,_,_=>none
 | n+1,s,t=>match through t with
  | true=>some s
  | false=>match stepOk n₀ ann t with
   | false=>none
   | true=>match stepT (denote tb) p w s t with
    | some (s',t')=>pL tb p w n₀ ann n s' t'
    | none=>none
theorem Lx {tb:String->Option Builtin} {p:Program} {w:World} {n₀:Nat} {ann:Option Value}:∀ {n:Nat} {s s':SharedT} {t:Thread},pL tb p w n₀ ann n s t=some s'->topRun tb p w n₀ ann n s.abs t=some s'.abs
 | 0,_,_,_,h=>by cases h
 | n+1,s,s',t,h=>by
  unfold pL at h;unfold topRun;cases he:through t with
  | true=>rw [he] at h; cases h; rfl
  | false =>
   rw [he] at h;cases hk:stepOk n₀ ann t with
   | false=>rw [hk] at h; cases h
   | true =>
    rw [hk] at h;cases hs:stepT (denote tb) p w s t with
    | none=>rw [hs] at h; cases h
    | some r=>obtain ⟨s₂,t₂⟩:=r; rw [hs] at h; rw [stepT_spec hs]; exact Lx h
def treeOf:List Obj->Nat->BT->BT
 | [],_,t=>t
 | o::r,n,t=>treeOf r (n+1) (t.ins n o)
theorem LeftO.Pz {p q:Program} {loose:List Str} {Xt:Shared->Bool} {α:Type} {Yf:Shared->α} {Ya:World->α} {N:Nat} {g0:Bool} {H₀:Params->Heap} {T₀:Params->BT} {n₀:Nat} {life:Life} {mY:Array GenState} {d₀:Drawn} {k₀:Nat} {ann:Option Value}
  (DE:∀ w:World,(fencedOpening treeTable p w N).map (fun s=>(s.heap,s.gens,s.drawn,s.toks))=some (H₀ w.params,mY,d₀,k₀))
  (tr:∀ P:Params,absHeap (T₀ P) n₀ life=H₀ P)
  (size:∀ P:Params,((H₀ P).isNs mainGlobals && mY.size == 0,(H₀ P).objs.size,(H₀ P).nsMap mainGlobals "__annotations__")=(true,n₀,ann))
  (run:∀ (w:World) (os:OsState),(pL treeTable p w n₀ ann N ⟨T₀ w.params,n₀,life,mY,d₀,k₀,os⟩ (topStub p)).map (fun s=>((staticsOk (importedModules p.main.body) (H₀ w.params) s.abs.heap && namesBound p s.abs.heap && gensDone s.abs && laidKept (H₀ w.params) s.abs.heap),
    openSeen q loose (importedModules p.main.body) Xt g0 s.abs,Yf s.abs))=some (true,openGood q loose,Ya w)):LeftO p q loose Xt Yf Ya N g0:=fun w=>by
 obtain ⟨⟨h,gs,d,k,os⟩,e,e'⟩:=Option.map_eq_some_iff.mp (DE w);obtain ⟨rfl,rfl,rfl,rfl⟩:h=H₀ w.params/\gs=mY/\d=d₀/\k=k₀:=by simpa using e'
 obtain ⟨z1,z2,z3⟩:_/\_/\_:=by simpa only [Prod.mk.injEq] using size w.params
 obtain ⟨s₁,r1,r2⟩:=Option.map_eq_some_iff.mp (run w os);obtain ⟨l1,l2,l3⟩:_/\_/\_:=by simpa only [Prod.mk.injEq] using r2
 have r:=Lx r1;have ea:SharedT.abs ⟨T₀ w.params,n₀,life,gs,d,k,os⟩=⟨H₀ w.params,gs,d,k,os⟩:=by
  unfold SharedT.abs;rw [tr]
 rw [ea] at r;have t:topFrom treeTable p w N ⟨H₀ w.params,gs,d,k,os⟩=some s₁.abs:=by
  unfold topFrom;dsimp only;rw [z1,z2,z3,r];show (match staticsOk (importedModules p.main.body) (H₀ w.params) s₁.abs.heap && namesBound p s₁.abs.heap && gensDone s₁.abs && laidKept (H₀ w.params) s₁.abs.heap with | true=>_ | false=>_)=_;rw [l1]
 unfold openEnds;rw [e];show (topFrom treeTable p w N _).map _=_;rw [t];exact congrArg some (Prod.ext l2 l3)
def eI (ok:Nat->Option Value->Thread->Bool) (st:SharedT->Thread->Option (SharedT×Thread)) (n₀:Nat) (ann:Option Value):Nat->SharedT->Thread->Option SharedT
 | 0,_,_=>none
 | n+1,s,t=>match through t with
  | true=>some s
  | false=>match ok n₀ ann t with
   | false=>none
   | true=>match st s t with
    | some (s',t')=>eI ok st n₀ ann n s' t'
    | none=>none
theorem LC {tb:String->Option Builtin} {p:Program} {w:World} {n₀:Nat} {ann:Option Value}:∀ (n:Nat) (s:SharedT) (t:Thread),eI stepOk (stepT (denote tb) p w) n₀ ann n s t=pL tb p w n₀ ann n s t
 | 0,_,_=>rfl
 | n+1,s,t=>by
  unfold eI pL;cases through t with
  | true=>rfl
  | false =>
   cases stepOk n₀ ann t with
   | false=>rfl
   | true =>
    cases stepT (denote tb) p w s t with
    | none=>rfl
    | some r=>exact LC n r.1 r.2
theorem LeftO.NJ {p q:Program} {loose:List Str} {Xt:Shared->Bool} {α:Type} {Yf:Shared->α} {Ya:World->α} {N:Nat} {g0:Bool} {H₀:Params->Heap} {T₀:Params->BT} {n₀:Nat} {life:Life} {mY:Array GenState} {d₀:Drawn} {k₀:Nat} {ann:Option Value}
  {ok:Nat->Option Value->Thread->Bool} {st:(Code->Sem Fin)->Program->World->SharedT->Thread->Option (SharedT×Thread)} {den:(String->Option Builtin)->Code->Sem Fin} {tb:String->Option Builtin}
  (e1:stepOk=ok) (e2:stepT=st) (e3:denote=den) (e4:treeTable=tb)
  (DE:∀ w:World,(fencedOpening treeTable p w N).map (fun s=>(s.heap,s.gens,s.drawn,s.toks))=some (H₀ w.params,mY,d₀,k₀))
  (tr:∀ P:Params,absHeap (T₀ P) n₀ life=H₀ P)
  (size:∀ P:Params,((H₀ P).isNs mainGlobals && mY.size == 0,(H₀ P).objs.size,(H₀ P).nsMap mainGlobals "__annotations__")=(true,n₀,ann))
  (run:∀ (w:World) (os:OsState),(eI ok (st (den tb) p w) n₀ ann N ⟨T₀ w.params,n₀,life,mY,d₀,k₀,os⟩ (topStub p)).map (fun s=>((staticsOk (importedModules p.main.body) (H₀ w.params) s.abs.heap && namesBound p s.abs.heap && gensDone s.abs && laidKept (H₀ w.params) s.abs.heap),
    openSeen q loose (importedModules p.main.body) Xt g0 s.abs,Yf s.abs))=some (true,openGood q loose,Ya w)):LeftO p q loose Xt Yf Ya N g0:=by
 subst e1 e2 e3 e4;refine LeftO.Pz DE tr size fun w os=>?_;rw [<- LC];exact run w os
noncomputable def fv (P:Params):BT:=treeOf (boot_heap P).objs.toList 0 .nil
end L2

namespace L2
open PySem PySem.W PyProof.Rows
theorem aaa {α β γ:Type} {o:Option α} {F:α->β×γ} {G:β×γ} (h1:o.map (fun s=>(F s).1)=some G.1) (h2:o.map (fun s=>(F s).2)=some G.2):o.map F=some G:=by
 cases o with
 | none=>cases h1
 | some a=>injection h1 with h1; injection h2 with h2; exact congrArg some (Prod.ext h1 h2)
theorem atS {α β:Type} {o:Option α} {s:α} {f:α->β} {g:β} (hs:o=some s) (h:o.map f=some g):f s=g:=by
 subst hs; exact Option.some.inj h
theorem jG {α β:Type} {a b:α} {c d:β} (h:a=b) (k:c=d):(a,c)=(b,d):=by rw [h,k]
def F0 (p:Program) (H₀:Heap) (s:SharedT):Bool:=staticsOk (importedModules p.main.body) H₀ s.abs.heap && namesBound p s.abs.heap && gensDone s.abs && laidKept H₀ s.abs.heap
def F3 (p q:Program) (loose:List Str) (Xt:Shared->Bool) (g0:Bool) (s:SharedT):Bool:=s.abs.heap.keysOk (looseW q loose) ((recsOf q).map (·.name)) ((litsOf q).map (·.1)) ((clssOf q (looseW q loose)).map (·.name)) && s.abs.heap.accountedOkI (importedModules p.main.body) && s.abs.heap.isNs mainGlobals && s.abs.heap.isNs builtinsNs && tablesOk q s.abs.heap && Xt s.abs && (if g0 then s.abs.gens.size == 0 else !leftWithCleanup s.abs.gens)
def F1 (q:Program) (s:SharedT):=seen ((recsOf q).map (·.name)) (ownsOf q) [] { s.abs with gens:=#[] }
theorem Wb {p q:Program} {loose:List Str} {Xt:Shared->Bool} {α:Type} {Yf:Shared->α} {Ya:World->α} {g0:Bool} {H₀:Heap} {o:Option SharedT} {w:World}
  (q0:o.map (F0 p H₀)=some true) (q1:o.map (F1 q)=some (expectedOf q)) (q2:o.map (fun s:SharedT=>s.abs.heap.bltView)=some bltViewBooted)
  (q3:o.map (F3 p q loose Xt g0)=some true) (q4:o.map (fun s:SharedT=>tabsOk q s.abs)=some true) (q5:o.map (fun s:SharedT=>pinSeenD q (drecsOf q) s.abs)=some (pinGoodD (drecsOf q)))
  (q6:o.map (fun s:SharedT=>plainSeenE q (looseW q loose) s.abs)=some (plainGoodE q (looseW q loose))) (q7:o.map (fun s:SharedT=>plainSeenD q loose s.abs)=some (plainGoodD q loose))
  (q8:o.map (fun s:SharedT=>wideSeen q s.abs)=some (wideGood q)) (q9:o.map (fun s:SharedT=>clsSeenW q loose s.abs)=some (clsGoodW q loose))
  (lZ:o.map (fun s:SharedT=>Yf s.abs)=some (Ya w)) :
  o.map (fun s:SharedT=>(F0 p H₀ s,openSeen q loose (importedModules p.main.body) Xt g0 s.abs,Yf s.abs))=some (true,openGood q loose,Ya w):=by
 obtain ⟨s,hs,a0⟩:=Option.map_eq_some_iff.mp q0;have a1:=atS hs q1;have a2:=atS hs q2;have a3:=atS hs q3;have a4:=atS hs q4;have a5:=atS hs q5;have a6:=atS hs q6;have a7:=atS hs q7;have a8:=atS hs q8;have a9:=atS hs q9;have a10:=atS hs lZ;clear q0 q1 q2 q3 q4 q5 q6 q7 q8 q9 lZ;subst hs;show some _=some _;refine congrArg some (jG a0 (jG ?_ a10));unfold openSeen openGood;exact jG a1 (jG a2 (jG a3 (jG a4 (jG a5 (jG a6 (jG a7 (jG a8 a9)))))))
theorem wt {α β γ:Type} {o:Option α} {f:α->β} {g:α->γ} {b:β} {c:γ} (h:o.map (fun s=>(f s,g s))=some (b,c)):o.map f=some b:=by
 cases o with
 | none=>cases h
 | some a=>injection h with h; exact congrArg some (congrArg Prod.fst h)
theorem jl {α β γ:Type} {o:Option α} {f:α->β} {g:α->γ} {b:β} {c:γ} (h:o.map (fun s=>(f s,g s))=some (b,c)):o.map g=some c:=by
 cases o with
 | none=>cases h
 | some a=>injection h with h; exact congrArg some (congrArg Prod.snd h)
theorem uC {α β γ:Type} {o:Option α} {l:List β} {f:α->β->γ} {g:β->γ} (n:Nat) (h1:o.map (fun s=>(l.take n).map (f s))=some ((l.take n).map g)) (h2:o.map (fun s=>(l.drop n).map (f s))=some ((l.drop n).map g)):o.map (fun s=>l.map (f s))=some (l.map g):=by
 cases o with
 | none=>cases h1
 | some a =>
  injection h1 with h1;injection h2 with h2;refine congrArg some ?_;show l.map (f a)=l.map g;rw [<- List.take_append_drop n l,List.map_append,List.map_append];exact congr (congrArg _ h1) h2
theorem Rp {K:Params->Frag} {as:List Addr} {e:∀ P,as=(K P).map (·.1)} {o:Option SharedT} {w:World} (h:o.map (fun s=>(K w.params).map fun p=>s.abs.heap.get? p.1)=some ((K w.params).map fun p=>some p.2)) :
  o.map (fun s=>(kHook K as e).obs s.abs)=some ((kHook K as e).val w):=by
 show o.map (fun s:SharedT=>as.map s.abs.heap.get?)=some ((K w.params).map fun p=>some p.2);rw [e w.params];simp only [List.map_map];exact h
end L2

section
open PySem PySem.W PyProof.Rows
namespace L2.bO
theorem sa:(PySem.Challenge.rw_leadnames_k33_leads_are_read).row.wellSaid=true:=by kernel_rfl
theorem K7:(PySem.Challenge.rw_leadnames_k33_leads_are_read).wellSaid=true:=by
 unfold OpenLaw.wellSaid
 iterate 18 refine look_both ?_ ?_
 ·exact sa
 all_goals kernel_rfl
noncomputable def QV:Program:=view (PySem.Challenge.rw_leadnames_k33_leads_are_read).prog [0,2,3,4,5,7,8,9,10,11,12,13,14,15,16,18,19,20,21,22,23,24,25,26,27,28,29,30,31,32,33,34,35,36,38,39,40,41,42,44,45,46,47,48,49,50,51,52,53,57,58,60,61,62,63,64,65,66,67,68,69,70,71,72,75,76,78,79,81,82,83,84,85,86,87,88,89,90,91,92,93,94,95,96,97,98,99,100,101]
theorem kq:∀ w:World,(fencedOpening treeTable (PySem.Challenge.rw_leadnames_k33_leads_are_read).prog w 16554).map (fun s=>(s.heap,s.gens,s.drawn,s.toks))=some (boot_heap w.params,Array.mk [],boot_drawn,boot_toks):=boot_open rfl rfl (fun _=>rfl)
theorem cm:∀ P:Params,absHeap (L2.fv P) 11 {}=boot_heap P:=by intro P; kernel_rfl
theorem gz:∀ P:Params,((boot_heap P).isNs mainGlobals && (Array.mk ([]:List GenState)).size == 0,(boot_heap P).objs.size,(boot_heap P).nsMap mainGlobals "__annotations__")=(true,11,some (.ref 6)):=by intro P; kernel_rfl
set_option maxHeartbeats 0
theorem qL (w:World) (os:OsState):((eI PySem.W.Fast.tw6613529449190102663 (PySem.W.Fast.tw10156331382660048174 (PySem.W.Fast.tw11892475500146522536 PySem.W.Fast.tw14364793385576792824) (PySem.Challenge.rw_leadnames_k33_leads_are_read).prog w) 11 (some (.ref 6)) 16554 ⟨L2.fv w.params,11,{},Array.mk [],boot_drawn,boot_toks,os⟩ (topStub (PySem.Challenge.rw_leadnames_k33_leads_are_read).prog))).map (fun s=>(((staticsOk (importedModules (PySem.Challenge.rw_leadnames_k33_leads_are_read).prog.main.body) (boot_heap w.params) s.abs.heap && namesBound (PySem.Challenge.rw_leadnames_k33_leads_are_read).prog s.abs.heap && gensDone s.abs && laidKept (boot_heap w.params) s.abs.heap)),s.abs.heap.bltView,pinSeenD QV (drecsOf QV) s.abs,plainSeenD QV [PySem.Str.ofString "walk",PySem.Str.ofString "asked_of",PySem.Str.ofString "make_folder",PySem.Str.ofString "make_file"] s.abs,clsSeenW QV [PySem.Str.ofString "walk",PySem.Str.ofString "asked_of",PySem.Str.ofString "make_folder",PySem.Str.ofString "make_file"] s.abs))=some ((true,bltViewBooted,pinGoodD (drecsOf QV),plainGoodD QV [PySem.Str.ofString "walk",PySem.Str.ofString "asked_of",PySem.Str.ofString "make_folder",PySem.Str.ofString "make_file"],clsGoodW QV [PySem.Str.ofString "walk",PySem.Str.ofString "asked_of",PySem.Str.ofString "make_folder",PySem.Str.ofString "make_file"])):=by kernel_rfl
theorem SJ (w:World) (os:OsState):((eI PySem.W.Fast.tw6613529449190102663 (PySem.W.Fast.tw10156331382660048174 (PySem.W.Fast.tw11892475500146522536 PySem.W.Fast.tw14364793385576792824) (PySem.Challenge.rw_leadnames_k33_leads_are_read).prog w) 11 (some (.ref 6)) 16554 ⟨L2.fv w.params,11,{},Array.mk [],boot_drawn,boot_toks,os⟩ (topStub (PySem.Challenge.rw_leadnames_k33_leads_are_read).prog))).map (fun s=>seen ((recsOf QV).map (·.name)) (ownsOf QV) [] { s.abs with gens:=#[] })=some (expectedOf QV):=by kernel_rfl
theorem W9 (w:World) (os:OsState):((eI PySem.W.Fast.tw6613529449190102663 (PySem.W.Fast.tw10156331382660048174 (PySem.W.Fast.tw11892475500146522536 PySem.W.Fast.tw14364793385576792824) (PySem.Challenge.rw_leadnames_k33_leads_are_read).prog w) 11 (some (.ref 6)) 16554 ⟨L2.fv w.params,11,{},Array.mk [],boot_drawn,boot_toks,os⟩ (topStub (PySem.Challenge.rw_leadnames_k33_leads_are_read).prog))).map (fun s=>wideSeen QV s.abs)=some (wideGood QV):=by kernel_rfl
theorem q3 (w:World) (os:OsState):((eI PySem.W.Fast.tw6613529449190102663 (PySem.W.Fast.tw10156331382660048174 (PySem.W.Fast.tw11892475500146522536 PySem.W.Fast.tw14364793385576792824) (PySem.Challenge.rw_leadnames_k33_leads_are_read).prog w) 11 (some (.ref 6)) 16554 ⟨L2.fv w.params,11,{},Array.mk [],boot_drawn,boot_toks,os⟩ (topStub (PySem.Challenge.rw_leadnames_k33_leads_are_read).prog))).map (fun s=>(s.abs.heap.keysOk (looseW QV [PySem.Str.ofString "walk",PySem.Str.ofString "asked_of",PySem.Str.ofString "make_folder",PySem.Str.ofString "make_file"]) ((recsOf QV).map (·.name)) ((litsOf QV).map (·.1)) ((clssOf QV (looseW QV [PySem.Str.ofString "walk",PySem.Str.ofString "asked_of",PySem.Str.ofString "make_folder",PySem.Str.ofString "make_file"])).map (·.name)) && s.abs.heap.accountedOkI (importedModules (PySem.Challenge.rw_leadnames_k33_leads_are_read).prog.main.body) && s.abs.heap.isNs mainGlobals && s.abs.heap.isNs builtinsNs && tablesOk QV s.abs.heap && (fun s=>xlAt QV [] s && recOk (RowW.records (OpenRow.toRowW (PySem.Challenge.rw_leadnames_k33_leads_are_read).row)) s) s.abs && (if true then s.abs.gens.size == 0 else !leftWithCleanup s.abs.gens)))=some (true):=by kernel_rfl
theorem q4 (w:World) (os:OsState):((eI PySem.W.Fast.tw6613529449190102663 (PySem.W.Fast.tw10156331382660048174 (PySem.W.Fast.tw11892475500146522536 PySem.W.Fast.tw14364793385576792824) (PySem.Challenge.rw_leadnames_k33_leads_are_read).prog w) 11 (some (.ref 6)) 16554 ⟨L2.fv w.params,11,{},Array.mk [],boot_drawn,boot_toks,os⟩ (topStub (PySem.Challenge.rw_leadnames_k33_leads_are_read).prog))).map (fun s=>tabsOk QV s.abs)=some (true):=by kernel_rfl
theorem QX (w:World) (os:OsState):((eI PySem.W.Fast.tw6613529449190102663 (PySem.W.Fast.tw10156331382660048174 (PySem.W.Fast.tw11892475500146522536 PySem.W.Fast.tw14364793385576792824) (PySem.Challenge.rw_leadnames_k33_leads_are_read).prog w) 11 (some (.ref 6)) 16554 ⟨L2.fv w.params,11,{},Array.mk [],boot_drawn,boot_toks,os⟩ (topStub (PySem.Challenge.rw_leadnames_k33_leads_are_read).prog))).map (fun s=>(((plainsOf QV (looseW QV [PySem.Str.ofString "walk",PySem.Str.ofString "asked_of",PySem.Str.ofString "make_folder",PySem.Str.ofString "make_file"])).take 8).take 4).map fun c=>s.abs.heap.plainShapeAt c.withCmp)=some ((((plainsOf QV (looseW QV [PySem.Str.ofString "walk",PySem.Str.ofString "asked_of",PySem.Str.ofString "make_folder",PySem.Str.ofString "make_file"])).take 8).take 4).map fun c=>some c.withCmp.plainShape):=by kernel_rfl
theorem Wf (w:World) (os:OsState):((eI PySem.W.Fast.tw6613529449190102663 (PySem.W.Fast.tw10156331382660048174 (PySem.W.Fast.tw11892475500146522536 PySem.W.Fast.tw14364793385576792824) (PySem.Challenge.rw_leadnames_k33_leads_are_read).prog w) 11 (some (.ref 6)) 16554 ⟨L2.fv w.params,11,{},Array.mk [],boot_drawn,boot_toks,os⟩ (topStub (PySem.Challenge.rw_leadnames_k33_leads_are_read).prog))).map (fun s=>(((plainsOf QV (looseW QV [PySem.Str.ofString "walk",PySem.Str.ofString "asked_of",PySem.Str.ofString "make_folder",PySem.Str.ofString "make_file"])).take 8).drop 4).map fun c=>s.abs.heap.plainShapeAt c.withCmp)=some ((((plainsOf QV (looseW QV [PySem.Str.ofString "walk",PySem.Str.ofString "asked_of",PySem.Str.ofString "make_folder",PySem.Str.ofString "make_file"])).take 8).drop 4).map fun c=>some c.withCmp.plainShape):=by kernel_rfl
theorem U6 (w:World) (os:OsState):((eI PySem.W.Fast.tw6613529449190102663 (PySem.W.Fast.tw10156331382660048174 (PySem.W.Fast.tw11892475500146522536 PySem.W.Fast.tw14364793385576792824) (PySem.Challenge.rw_leadnames_k33_leads_are_read).prog w) 11 (some (.ref 6)) 16554 ⟨L2.fv w.params,11,{},Array.mk [],boot_drawn,boot_toks,os⟩ (topStub (PySem.Challenge.rw_leadnames_k33_leads_are_read).prog))).map (fun s=>((plainsOf QV (looseW QV [PySem.Str.ofString "walk",PySem.Str.ofString "asked_of",PySem.Str.ofString "make_folder",PySem.Str.ofString "make_file"])).take 8).map fun c=>s.abs.heap.plainShapeAt c.withCmp)=some (((plainsOf QV (looseW QV [PySem.Str.ofString "walk",PySem.Str.ofString "asked_of",PySem.Str.ofString "make_folder",PySem.Str.ofString "make_file"])).take 8).map fun c=>some c.withCmp.plainShape):=L2.uC 4 (QX w os) (Wf w os)
theorem Rc (w:World) (os:OsState):((eI PySem.W.Fast.tw6613529449190102663 (PySem.W.Fast.tw10156331382660048174 (PySem.W.Fast.tw11892475500146522536 PySem.W.Fast.tw14364793385576792824) (PySem.Challenge.rw_leadnames_k33_leads_are_read).prog w) 11 (some (.ref 6)) 16554 ⟨L2.fv w.params,11,{},Array.mk [],boot_drawn,boot_toks,os⟩ (topStub (PySem.Challenge.rw_leadnames_k33_leads_are_read).prog))).map (fun s=>((plainsOf QV (looseW QV [PySem.Str.ofString "walk",PySem.Str.ofString "asked_of",PySem.Str.ofString "make_folder",PySem.Str.ofString "make_file"])).drop 8).map fun c=>s.abs.heap.plainShapeAt c.withCmp)=some (((plainsOf QV (looseW QV [PySem.Str.ofString "walk",PySem.Str.ofString "asked_of",PySem.Str.ofString "make_folder",PySem.Str.ofString "make_file"])).drop 8).map fun c=>some c.withCmp.plainShape):=by kernel_rfl
theorem q6 (w:World) (os:OsState):((eI PySem.W.Fast.tw6613529449190102663 (PySem.W.Fast.tw10156331382660048174 (PySem.W.Fast.tw11892475500146522536 PySem.W.Fast.tw14364793385576792824) (PySem.Challenge.rw_leadnames_k33_leads_are_read).prog w) 11 (some (.ref 6)) 16554 ⟨L2.fv w.params,11,{},Array.mk [],boot_drawn,boot_toks,os⟩ (topStub (PySem.Challenge.rw_leadnames_k33_leads_are_read).prog))).map (fun s=>plainSeenE QV (looseW QV [PySem.Str.ofString "walk",PySem.Str.ofString "asked_of",PySem.Str.ofString "make_folder",PySem.Str.ofString "make_file"]) s.abs)=some (plainGoodE QV (looseW QV [PySem.Str.ofString "walk",PySem.Str.ofString "asked_of",PySem.Str.ofString "make_folder",PySem.Str.ofString "make_file"])):=L2.uC 8 (U6 w os) (Rc w os)
end L2.bO
end
section
open PySem PySem.W PyProof.Rows
local macro_rules | `(tactic| o_head $H)=>`(tactic| (refine (by assumption:∀ h':PySem.W.Hook,h'=_->PySem.W.OpenRow.Holds _) $H ?_; rfl))
set_option maxHeartbeats 0 in
noncomputable def L2.bO.ff:(h:Hook) ×' ((∀ h':Hook,h'=h->(PySem.Challenge.rw_leadnames_k33_leads_are_read).row.Holds)->(PySem.Challenge.rw_leadnames_k33_leads_are_read).row.Holds):=by
 refine' ⟨_,fun x=>_⟩
 rotate_left
 k_head
end
section
open PySem PySem.W PyProof.Rows
namespace L2.bO
set_option maxHeartbeats 0
theorem ya (w:World) (os:OsState):((eI PySem.W.Fast.tw6613529449190102663 (PySem.W.Fast.tw10156331382660048174 (PySem.W.Fast.tw11892475500146522536 PySem.W.Fast.tw14364793385576792824) (PySem.Challenge.rw_leadnames_k33_leads_are_read).prog w) 11 (some (.ref 6)) 16554 ⟨L2.fv w.params,11,{},Array.mk [],boot_drawn,boot_toks,os⟩ (topStub (PySem.Challenge.rw_leadnames_k33_leads_are_read).prog))).map (fun s=>(((ff.heap_1 w.params).take 365).take 182).map fun p=>s.abs.heap.get? p.1)=some ((((ff.heap_1 w.params).take 365).take 182).map fun p=>some p.2):=by kernel_rfl
theorem yb (w:World) (os:OsState):((eI PySem.W.Fast.tw6613529449190102663 (PySem.W.Fast.tw10156331382660048174 (PySem.W.Fast.tw11892475500146522536 PySem.W.Fast.tw14364793385576792824) (PySem.Challenge.rw_leadnames_k33_leads_are_read).prog w) 11 (some (.ref 6)) 16554 ⟨L2.fv w.params,11,{},Array.mk [],boot_drawn,boot_toks,os⟩ (topStub (PySem.Challenge.rw_leadnames_k33_leads_are_read).prog))).map (fun s=>(((ff.heap_1 w.params).take 365).drop 182).map fun p=>s.abs.heap.get? p.1)=some ((((ff.heap_1 w.params).take 365).drop 182).map fun p=>some p.2):=by kernel_rfl
theorem yc (w:World) (os:OsState):((eI PySem.W.Fast.tw6613529449190102663 (PySem.W.Fast.tw10156331382660048174 (PySem.W.Fast.tw11892475500146522536 PySem.W.Fast.tw14364793385576792824) (PySem.Challenge.rw_leadnames_k33_leads_are_read).prog w) 11 (some (.ref 6)) 16554 ⟨L2.fv w.params,11,{},Array.mk [],boot_drawn,boot_toks,os⟩ (topStub (PySem.Challenge.rw_leadnames_k33_leads_are_read).prog))).map (fun s=>(((ff.heap_1 w.params).drop 365).take 182).map fun p=>s.abs.heap.get? p.1)=some ((((ff.heap_1 w.params).drop 365).take 182).map fun p=>some p.2):=by kernel_rfl
theorem yd (w:World) (os:OsState):((eI PySem.W.Fast.tw6613529449190102663 (PySem.W.Fast.tw10156331382660048174 (PySem.W.Fast.tw11892475500146522536 PySem.W.Fast.tw14364793385576792824) (PySem.Challenge.rw_leadnames_k33_leads_are_read).prog w) 11 (some (.ref 6)) 16554 ⟨L2.fv w.params,11,{},Array.mk [],boot_drawn,boot_toks,os⟩ (topStub (PySem.Challenge.rw_leadnames_k33_leads_are_read).prog))).map (fun s=>(((ff.heap_1 w.params).drop 365).drop 182).map fun p=>s.abs.heap.get? p.1)=some ((((ff.heap_1 w.params).drop 365).drop 182).map fun p=>some p.2):=by kernel_rfl
theorem lZ (w:World) (os:OsState):((eI PySem.W.Fast.tw6613529449190102663 (PySem.W.Fast.tw10156331382660048174 (PySem.W.Fast.tw11892475500146522536 PySem.W.Fast.tw14364793385576792824) (PySem.Challenge.rw_leadnames_k33_leads_are_read).prog w) 11 (some (.ref 6)) 16554 ⟨L2.fv w.params,11,{},Array.mk [],boot_drawn,boot_toks,os⟩ (topStub (PySem.Challenge.rw_leadnames_k33_leads_are_read).prog))).map (fun s=>Hook.obs ff.1 s.abs)=some (Hook.val ff.1 w) :=
 L2.Rp (K:=ff.heap_1) (e:=fun _=>by kernel_rfl) (L2.uC 365 (L2.uC 182 (ya w os) (yb w os)) (L2.uC 182 (yc w os) (yd w os)))
end L2.bO
local macro_rules | `(tactic| o_law)=>`(tactic| refine PySem.W.holds_law L2.bO.K7 fun K7=>?_)
local macro_rules | `(tactic| k_head)=>`(tactic| (
 refine holds_open (q:=L2.bO.QV) (loose:=[PySem.Str.ofString "walk",PySem.Str.ofString "asked_of",PySem.Str.ofString "make_folder",PySem.Str.ofString "make_file"]) (Xt:=fun s=>xlAt L2.bO.QV [] s && recOk (RowW.records (OpenRow.toRowW (PySem.Challenge.rw_leadnames_k33_leads_are_read).row)) s) (XP:=XL L2.bO.QV []) (Yf:=Hook.obs L2.bO.ff.1) (Ya:=Hook.val L2.bO.ff.1) (YP:=Hook.says L2.bO.ff.1) (N:=16554) ?hl (Hook.of L2.bO.ff.1) (Hook.keeps L2.bO.ff.1) (fun s e=>xl_of s (Bool.and_eq_true_iff.mp e).1) XL.keeps (by rfl) (by rfl) (by rfl) (fun s e=>recFacts_of (Bool.and_eq_true_iff.mp e).2) (by rfl) (by first | assumption | decide +kernel) (by decide +kernel) ⟨rfl,rfl,rfl,rfl,rfl,by decide +kernel⟩ ?hw ?hc
 case hl =>
  refine L2.LeftO.NJ PySem.W.Fast.te6613529449190102663 PySem.W.Fast.te10156331382660048174 PySem.W.Fast.te11892475500146522536 PySem.W.Fast.te14364793385576792824 L2.bO.kq L2.bO.cm L2.bO.gz (fun w os=>?_);exact L2.Wb (L2.wt (L2.bO.qL w os)) (L2.bO.SJ w os) (L2.wt (L2.jl (L2.bO.qL w os))) (L2.bO.q3 w os) (L2.bO.q4 w os) (L2.wt (L2.jl (L2.jl (L2.bO.qL w os)))) (L2.bO.q6 w os) (L2.wt (L2.jl (L2.jl (L2.jl (L2.bO.qL w os))))) (L2.bO.W9 w os) (L2.jl (L2.jl (L2.jl (L2.jl (L2.bO.qL w os))))) (L2.bO.lZ w os)))
set_option maxHeartbeats 0 in
open_top L2.bO.hd0 for PySem.Challenge.rw_leadnames_k33_leads_are_read
end

namespace L2
open PySem PySem.Spec PyProof.Rows
abbrev Key:=Sum Int Str
def m6:Key->Value->Bool
 | .inl k,v=>Value.isInt k v
 | .inr x,v=>Value.isStrOf x v
def N4 (w:World):Key->Int
 | .inl k=>hashInt k
 | .inr x=>hashStr w x
theorem kF:∀ {k:Key} {v:Value},m6 k v=true->(∃ i t,k=Sum.inl i/\v=Value.int i t)\/(∃ x t,k=Sum.inr x/\v=Value.str x t)
 | .inl i,v,h=>by
  obtain ⟨t,e⟩:=Value.isInt_shape (k:=i) (v:=v) h;exact .inl ⟨i,t,rfl,e⟩
 | .inr x,v,h=>by
  obtain ⟨t,e⟩:=Value.isStrOf_shape (x:=x) (v:=v) h;exact .inr ⟨x,t,rfl,e⟩
theorem TY (i:Int) (t:Tok):m6 (.inl i) (.int i t)=true:=by simp [m6,Value.isInt]
theorem RX (x:Str) (t:Tok):m6 (.inr x) (.str x t)=true:=by simp [m6,Value.isStrOf]
theorem Oe (a b:Int):decide ((Sum.inl a:Key)=Sum.inl b)=(a == b):=by
 by_cases e:a=b
 ·subst e; simp
 ·have h:¬ (Sum.inl a:Key)=Sum.inl b:=fun q=>e (Sum.inl.inj q);rw [decide_eq_false h];exact (beq_eq_false_iff_ne.mpr e).symm
theorem YL (a b:Str):decide ((Sum.inr a:Key)=Sum.inr b)=decide (a=b):=by
 by_cases e:a=b
 ·subst e; simp
 ·have h:¬ (Sum.inr a:Key)=Sum.inr b:=fun q=>e (Sum.inr.inj q);rw [decide_eq_false h,decide_eq_false e]
theorem Ve (a:Int) (b:Str):decide ((Sum.inl a:Key)=Sum.inr b)=false:=decide_eq_false (fun q=>nomatch q)
theorem S7 (a:Str) (b:Int):decide ((Sum.inr a:Key)=Sum.inl b)=false:=decide_eq_false (fun q=>nomatch q)
def eK (prog:Program) (w:World):PySem.KeyKind prog w Key where
 is:=m6
 hash:=N4 w
 inj:=fun v a b ha hb=>by
  rcases kF ha with ⟨i,t,rfl,rfl⟩ | ⟨x,t,rfl,rfl⟩
  ·rcases kF hb with ⟨j,u,rfl,e⟩ | ⟨y,u,rfl,e⟩
   ·injection e with e1 _; rw [e1]
   ·exact nomatch e
  ·rcases kF hb with ⟨j,u,rfl,e⟩ | ⟨y,u,rfl,e⟩
   ·exact nomatch e
   ·injection e with e1 _; rw [e1]
 byValue:=fun k v h=>by
  rcases kF h with ⟨i,t,rfl,rfl⟩ | ⟨x,t,rfl,rfl⟩ <;> rfl
 pyHash:=fun hv h=>by
  rcases kF hv with ⟨i,t,rfl,rfl⟩ | ⟨x,t,rfl,rfl⟩
  ·exact wpAny_pyHash_int h
  ·exact wpAny_pyHash_str h
 eqBool:=fun hu hv h=>by
  rcases kF hu with ⟨i,t,rfl,rfl⟩ | ⟨x,t,rfl,rfl⟩
  ·rcases kF hv with ⟨j,u,rfl,rfl⟩ | ⟨y,u,rfl,rfl⟩
   ·rw [Oe] at h; exact wpAny_eqBool_int h
   ·rw [Ve] at h; exact SeqAt.EqAt.int_str i t y u _ _ _ _ h
  ·rcases kF hv with ⟨j,u,rfl,rfl⟩ | ⟨y,u,rfl,rfl⟩
   ·rw [S7] at h; exact SeqAt.EqAt.str_int x t j u _ _ _ _ h
   ·rw [YL] at h; exact wpAny_eqBool_str h
 «strs»:=fun k x t v h=>by
  rcases kF h with ⟨i,u,rfl,e⟩ | ⟨y,u,rfl,e⟩
  ·exact nomatch e
  ·injection e with e1 _;subst e1;cases v <;> rfl
theorem Pa (prog:Program) (w:World) (i:Int) (t:Tok):(eK prog w).is (.inl i) (.int i t)=true:=TY i t
theorem Sg (prog:Program) (w:World) (x:Str) (t:Tok):(eK prog w).is (.inr x) (.str x t)=true:=RX x t
inductive V where
 | au | bl (b:Bool) | int (i:Int) | str (x:Str) | byt (b:Array UInt8) | m9 (b:UInt64) | ref (a:Addr) | ty (n:String)
 deriving DecidableEq
def RelV:V->Value->Prop
 | .au,u=>u=Value.none
 | .bl b,u=>u=Value.bool b
 | .int i,u=>∃ t,u=Value.int i t
 | .str x,u=>∃ t,u=Value.str x t
 | .byt b,u=>∃ t,u=Value.bytes b t
 | .m9 b,u=>∃ t,u=Value.float b t
 | .ref a,u=>u=Value.ref a
 | .ty n,u=>u=Value.type n
abbrev Vals:List V->List Value->Prop:=Paired RelV
theorem Vals.length {xs:List V} {us:List Value} (r:Vals xs us):xs.length=us.length:=Paired.length r
theorem Vals.get:∀ {xs:List V} {us:List Value} {i:Nat} {x:V},Vals xs us->xs[i]?=some x->∃ u,us[i]?=some u/\RelV x u
 | _,_,_,_,.nil,e=>by simp at e
 | _,_,0,_,.cons r _,e=>by simp at e; subst e; exact ⟨_,rfl,r⟩
 | _,_,i+1,x,.cons _ t,e=>by
  obtain ⟨u,h1,h2⟩:=Vals.get (i:=i) (x:=x) t (by simpa using e);exact ⟨u,by simpa using h1,h2⟩
theorem Vals.set {x:V} {u:Value} (r:RelV x u):∀ {xs:List V} {us:List Value} (i:Nat),Vals xs us->Vals (xs.set i x) (us.set i u)
 | _,_,_,.nil=>.nil
 | _,_,0,.cons _ t=>.cons r t
 | _,_,i+1,.cons q t=>.cons q (Vals.set r i t)
theorem Vals.append:∀ {xs ys:List V} {us ws:List Value},Vals xs us->Vals ys ws->Vals (xs++ys) (us++ws)
 | _,_,_,_,.nil,s=>s
 | _,_,_,_,.cons r t,s=>.cons r (Vals.append t s)
theorem Vals.take:∀ {xs:List V} {us:List Value} (n:Nat),Vals xs us->Vals (xs.take n) (us.take n)
 | _,_,0,_=>.nil
 | _,_,_+1,.nil=>.nil
 | _,_,n+1,.cons r t=>.cons r (Vals.take n t)
theorem Vals.drop:∀ {xs:List V} {us:List Value} (n:Nat),Vals xs us->Vals (xs.drop n) (us.drop n)
 | _,_,0,r=>r
 | _,_,_+1,.nil=>.nil
 | _,_,n+1,.cons _ t=>Vals.drop n t
def eM:Option V->Option Value->Prop
 | some v,some u=>RelV v u
 | none,none=>True
 | _,_=>False
def KV {κ:Type}:List (κ×V)->List (κ×Value)->Prop:=Paired fun (p:κ×V) (q:κ×Value)=>p.1=q.1/\RelV p.2 q.2
def kV:Key->V
 | .inl i=>.int i
 | .inr x=>.str x
inductive HO where
 /-- a list -/
 | lst (xs:List V)
 /-- a tuple (never changes) -/
 | tup (xs:List V)
 /-- a dict whose keys are ints and texts; one whose keys are tuples of ints and texts (ib empty one is both) -/
 | dK (kvs:List (Key×V)) | dT (kvs:List (List Key×V))
 /-- a set of ints: ao members,ao size -/
 | set (S:Int->Bool) (n:Nat)
 /-- an instance of ib class at C,ao dict at dx,ao attributes -/
 | ins (C dx:Addr) (fs:List (Str×V))
 /-- ib dict of ib instance at x -/
 | own (x:Addr)
 /-- ib dict of an exception -/
 | xd (fs:List (Str×V))
 /-- a bound method,f of x -/
 | met (f x:Addr)
 /-- a range object lo,lo+1,.. below hi -/
 | vW (lo hi:Int)
 /-- a thing that is known to ib object (ib script; a dict while a loop walks it): read,never written while it is so -/
 | eS (o:Obj) (u:HO)
 /-- a code object's table -/
 | mv (ps:Array Value)
 /-- any other thing,by what is true of ao one object (a def of one's own: SetO a S n:=HO.ext fun h=>..) -/
 | ext (φ:Heap->Prop)
abbrev Hp:=Addr->Option HO
def upd (H:Hp) (a:Addr) (o:HO):Hp:=fun b=>if b=a then some o else H b
theorem ax {H:Hp} {a:Addr} {o:HO}:upd H a o a=some o:=by unfold upd; rw [if_pos rfl]
theorem ag {H:Hp} {a b:Addr} {o:HO} (h:b≠a):upd H a o b=H b:=by unfold upd; rw [if_neg h]
theorem mw {H:Hp} {a:Addr} {o u:HO}:upd (upd H a o) a u=upd H a u:=by
 funext b; unfold upd; split <;> rfl
theorem YG {H:Hp} {a b:Addr} {o u:HO} (h:H a=some o) (h':H b=some u) (d:o≠u):a≠b:=by
 intro e; subst e; rw [h] at h'; exact d (Option.some.inj h')
theorem gd {H:Hp} {a b:Addr} {o:HO} (h:H a=some o) (h':H b=none):a≠b:=by
 intro e; subst e; rw [h] at h'; cases h'
def n8 (h:Heap) (a:Addr) (items:Array Value):Prop:=∃ o,h.get? a=some o/\o.cls=.type "tuple" /\ ∃ n,o.data=.seq items n/\o.dict=none
theorem n8.t {h:Heap} {a:Addr} {items:Array Value} (x:n8 h a items):IsTup h a items:=let ⟨o,e,c,n,d,_⟩:=x; ⟨o,e,c,n,d⟩
theorem n8.new (h:Heap) (items:Array Value):n8 (h.push { cls:=.type "tuple",data:=.seq items }) h.objs.size items:=⟨_,Heap.get?_push_size _ rfl,rfl,_,rfl,rfl⟩
section
variable (P:Program) (w:World)
def b9 (H:Hp) (h:Heap) (a:Addr):HO->Prop
 | .lst xs=>xs.length<=sizeLine/\∃ (ao:List Value) (n:Nat),Vals xs ao/\h.get? a=some { cls:=.type "list",data:=.seq ao.toArray n }
 | .tup xs=>xs.length<=sizeLine/\∃ ao:List Value,Vals xs ao/\n8 h a ao.toArray
 | .dK kvs=>kvs.length<=sizeLine/\(a == sysModules)=false/\∃ vs,KV kvs vs/\h.DictOf (eK P w) a vs
 | .dT kvs=>kvs.length<=sizeLine/\(a == sysModules)=false/\∃ xs:List (List Key×Addr×Value),
   Paired (fun (p:List Key×V) (q:List Key×Addr×Value)=>p.1=q.1/\H q.2.1=some (.tup (p.1.map kV))/\RelV p.2 q.2.2) kvs xs /\
   ∃ o es ep,h.get? a=some o/\o.ExactDict/\o.data=.dict es ep/\es.toList=xs.map (entryOfKey (tupleKind (eK P w)))/\(xs.map (·.1)).Nodup
 | .set S n=>h.SetOf (intKind P w) a S n
 | .ins C dx fs=>H dx=some (.own a)/\fs.length<=1000/\dx≠a/\h.get? a=some (PySem.W.instObj C dx) /\
   ∃ mA,h.Ns1 dx mA/\(∀ f,eM (fs.lookup f) (mA f))/\PySem.Within mA (fs.map (·.1))
 | .own _=>∃ o,h.get? a=some o
 | .xd fs=>∃ mA,h.Ns1 a mA/\∀ f,eM (fs.lookup f) (mA f)
 | .vW lo hi=>∃ t u v,h.get? a=some { cls:=.type "range",data:=.fields #[.int lo t,.int hi u,.int 1 v] }
 | .eS o u=>h.get? a=some o/\b9 H h a u
 | .mv ps=>h.get? a=some { cls:=.none,data:=.fields ps }
 | .met f x=>h.get? a=some (PySem.W.methodObj (.ref f) (.ref x))
 | .ext φ=>φ h/\(∃ o,h.get? a=some o)/\∀ h1 h2:Heap,φ h1->(∀ o,h1.get? a=some o->h2.get? a=some o)->φ h2
def ck (H:Hp) (h:Heap):Prop:=∀ a o,H a=some o->b9 P w H h a o
end
section
variable {P:Program} {w:World} {H H':Hp} {h h':Heap} {a:Addr} {o:HO}
theorem b9.lt (x:b9 P w H h a o):a < h.objs.size:=by
 cases o with
 | lst xs=>obtain ⟨_,_,_,_,e⟩:=x; exact Heap.lt_size e
 | tup xs=>obtain ⟨_,_,_,p⟩:=x; exact p.t.lt
 | dK kvs=>obtain ⟨_,_,_,_,o,_,_,e,_⟩:=x; exact Heap.lt_size e
 | dT kvs=>obtain ⟨_,_,_,_,o,_,_,e,_⟩:=x; exact Heap.lt_size e
 | set S n=>obtain ⟨o,_,_,_,e,_⟩:=x; exact Heap.lt_size e
 | ins C dx fs=>obtain ⟨_,_,_,e,_⟩:=x; exact Heap.lt_size e
 | own y=>obtain ⟨_,e⟩:=x; exact Heap.lt_size e
 | xd fs=>obtain ⟨_,⟨_,_,_,e,_⟩,_⟩:=x; exact Heap.lt_size e
 | vW lo hi=>obtain ⟨_,_,_,e⟩:=x; exact Heap.lt_size e
 | eS ob u=>obtain ⟨e,_⟩:=x; exact Heap.lt_size e
 | mv ps=>exact Heap.lt_size (show h.get? a=some _ from x)
 | met f y=>exact Heap.lt_size (show h.get? a=some _ from x)
 | ext φ=>obtain ⟨_,⟨_,e⟩,_⟩:=x; exact Heap.lt_size e
theorem Paired.Az {α β:Type} {F G:α->β->Prop}:∀ {l₁:List α} {l₂:List β},Paired F l₁ l₂->(∀ a b,F a b->G a b)->Paired G l₁ l₂
 | _,_,.nil,_=>.nil
 | _,_,.cons r t,f=>.cons (f _ _ r) (Paired.Az t f)
theorem b9.g8 (x:b9 P w H h a o) (k:∀ b u,(b=a\/H b=some (.own a))->h.get? b=some u->h'.get? b=some u)
  (ho:∀ b,H b=some (.own a)->H' b=some (.own a)) (ht:∀ b xs,H b=some (.tup xs)->H' b=some (.tup xs)):b9 P w H' h' a o:=by
 induction o with
 | lst xs=>obtain ⟨z,ao,n,r,e⟩:=x; exact ⟨z,ao,n,r,k _ _ (.inl rfl) e⟩
 | tup xs=>obtain ⟨z,ao,r,ob,e,c⟩:=x; exact ⟨z,ao,r,ob,k _ _ (.inl rfl) e,c⟩
 | dK kvs=>obtain ⟨z,y,vs,r,ob,es,ep,e,c⟩:=x; exact ⟨z,y,vs,r,ob,es,ep,k _ _ (.inl rfl) e,c⟩
 | dT kvs =>
  obtain ⟨z,y,xs,r,ob,es,ep,e,c⟩:=x;exact ⟨z,y,xs,Paired.Az r fun p q z=>⟨z.1,ht _ _ z.2.1,z.2.2⟩,ob,es,ep,k _ _ (.inl rfl) e,c⟩
 | set S n=>obtain ⟨ob,es,ep,t,e,c⟩:=x; exact ⟨ob,es,ep,t,k _ _ (.inl rfl) e,c⟩
 | ins C dx fs =>
  obtain ⟨d,z,ne,e,mA,⟨od,es,ep,e2,c⟩,r⟩:=x;exact ⟨ho _ d,z,ne,k _ _ (.inl rfl) e,mA,⟨od,es,ep,k _ _ (.inr d) e2,c⟩,r⟩
 | own y=>obtain ⟨ob,e⟩:=x; exact ⟨ob,k _ _ (.inl rfl) e⟩
 | xd fs=>obtain ⟨mA,⟨od,es,ep,e,c⟩,r⟩:=x; exact ⟨mA,⟨od,es,ep,k _ _ (.inl rfl) e,c⟩,r⟩
 | vW lo hi=>obtain ⟨t,u,v,e⟩:=x; exact ⟨t,u,v,k _ _ (.inl rfl) e⟩
 | eS ob u ih=>obtain ⟨e,q⟩:=x; exact ⟨k _ _ (.inl rfl) e,ih q⟩
 | mv ps =>
  have e:h.get? a=some { cls:=.none,data:=.fields ps }:=x;show h'.get? a=some { cls:=.none,data:=.fields ps };exact k a _ (.inl rfl) e
 | met f y =>
  have e:h.get? a=some (PySem.W.methodObj (.ref f) (.ref y)):=x;show h'.get? a=some (PySem.W.methodObj (.ref f) (.ref y));exact k a _ (.inl rfl) e
 | ext φ=>obtain ⟨p,⟨o,e⟩,st⟩:=x; exact ⟨st _ _ p fun o q=>k _ _ (.inl rfl) q,⟨o,k _ _ (.inl rfl) e⟩,st⟩
theorem ck.lt (x:ck P w H h) (e:H a=some o):a < h.objs.size:=(x a o e).lt
theorem ck.fresh (x:ck P w H h) (e:h.objs.size<=a):H a=none:=by
 cases q:H a with
 | none=>rfl
 | some u=>exact absurd (Nat.lt_of_lt_of_le (x.lt q) e) (Nat.lt_irrefl _)
theorem ck.kept (x:ck P w H h) (k:∀ b u,h.get? b=some u->h'.get? b=some u):ck P w H h':=fun a o e =>
 (x a o e).g8 (fun b u _ q=>k b u q) (fun _ q=>q) fun _ _ q=>q
theorem ck.laid (x:ck P w H h) (k:∀ b u,h.get? b=some u->h'.get? b=some u) (hp:h.objs.size<=a) (new:b9 P w (upd H a o) h' a o):ck P w (upd H a o) h':=fun b u e=>by
 have hn:=x.fresh hp;by_cases hb:b=a
 ·subst hb; rw [ax] at e; cases e; exact new
 ·rw [ag hb] at e;exact (x b u e).g8 (fun c v _ q=>k c v q) (fun c q=>by rw [ag (gd q hn)]; exact q) fun c xs q=>by rw [ag (gd q hn)]; exact q
end
def Rd (H:Hp) (a:Addr) (u:HO):Prop:=H a=some u\/∃ o,H a=some (.eS o u)
theorem Rd.ok {P:Program} {w:World} {H:Hp} {h:Heap} {a:Addr} {u:HO} (r:Rd H a u) (x:ck P w H h):b9 P w H h a u:=by
 rcases r with r | ⟨o,r⟩
 ·exact x a u r
 ·obtain ⟨_,q⟩:=x a _ r;exact q
def rD:Option HO->Prop
 | some (.lst _)=>True
 | some (.dK _)=>True
 | some (.dT _)=>True
 | some (.set _ _)=>True
 | some (.ins _ _ _)=>True
 | some (.ext _)=>True
 | _=>False
section
variable {P:Program} {w:World} {H:Hp} {h h':Heap} {x e:Addr} {o':HO}
theorem ck.write (ok:ck P w H h) (mu:rD (H x)) (he:e=x\/H e=some (.own x)) (k:∀ b u,b≠e->h.get? b=some u->h'.get? b=some u) (rg:∃ u,h'.get? e=some u)
  (new:b9 P w (upd H x o') h' x o'):ck P w (upd H x o') h':=fun b u q=>by
 have Mm:∀ c y,H c=some (.own y)->c≠x:=fun c y r z=>by subst z; rw [r] at mu; exact mu
 have ntup:∀ c xs,H c=some (.tup xs)->c≠x:=fun c xs r z=>by subst z; rw [r] at mu; exact mu
 by_cases hb:b=x
 ·subst hb; rw [ax] at q; cases q; exact new
 ·rw [ag hb] at q;by_cases oh:b=e
  ·have q':H b=some (.own x):=by
    rcases he with z | z
    ·exact absurd (oh.trans z) hb
    ·rw [oh]; exact z
   rw [q] at q'; cases q';obtain ⟨v,hv⟩:=rg;exact ⟨v,by rw [oh]; exact hv⟩
  ·refine (ok b u q).g8 (fun c v hc r=>k c v ?_ r) (fun c r=>by rw [ag (Mm c b r)]; exact r) fun c xs r=>by rw [ag (ntup c xs r)]; exact r
   rcases hc with rfl | hc
   ·exact oh
   ·rintro rfl;rcases he with z | z
    ·exact Mm c b hc z
    ·rw [hc] at z; cases z; exact hb rfl
end
structure Un (fs ex:List Addr) (H H':Hp) (h h':Heap):Prop where
 keep:∀ b o,h.get? b=some o->H b=none->b ∉ fs->b ∉ ex->h'.get? b=some o
 slot:∀ b o,h.get? b=some o->H b=none->b∈fs->b ∉ ex->∃ sl,h'.get? b=some { o with slots:=sl }
 free:∀ b o,h.get? b=some o->H b=none->b ∉ ex->H' b=none
 there:∀ b o,h.get? b=some o->b ∉ ex->∃ o',h'.get? b=some o'
 gr:∀ b xs,H b=some (.tup xs)->H' b=some (.tup xs)
 gi:∀ b o u,H b=some (.eS o u)->H' b=some (.eS o u)
 gu:∀ b ps,H b=some (.mv ps)->∃ more,H' b=some (.mv (ps++more))
section
variable {fs fs' ex ex':List Addr} {H H1 H2:Hp} {h h1 h2 h':Heap} {a x e:Addr} {o:HO}
theorem Un.any (u:Un fs ex H H1 h h1) {b:Addr} {ob:Obj} (q:h.get? b=some ob) (n:H b=none) (hx:b ∉ ex):∃ sl,h1.get? b=some { ob with slots:=sl }:=by
 by_cases hb:b∈fs
 ·exact u.slot b ob q n hb hx
 ·exact ⟨ob.slots,u.keep b ob q n hb hx⟩
theorem Un.kept (k:∀ b u,h.get? b=some u->h'.get? b=some u):Un fs ex H H h h' :=
 ⟨fun b ob q _ _ _=>k b ob q,fun b ob q _ _ _=>⟨ob.slots,k b ob q⟩,fun _ _ _ n _=>n,fun b ob q _=>⟨ob,k b ob q⟩,fun _ _ q=>q,fun _ _ _ q=>q,fun _ ps q=>⟨#[],by rw [q]; simp⟩⟩
theorem Un.refl:Un fs ex H H h h:=Un.kept fun _ _ q=>q
theorem Un.laid (k:∀ b u,h.get? b=some u->h'.get? b=some u) (hp:h.objs.size<=a) (hn:H a=none):Un fs ex H (upd H a o) h h' where
 keep:=fun b u q _ _ _=>k b u q
 slot:=fun b u q _ _ _=>⟨u.slots,k b u q⟩
 free:=fun b u q n _=>by rw [ag (Nat.ne_of_lt (Nat.lt_of_lt_of_le (Heap.lt_size q) hp))]; exact n
 there:=fun b u q _=>⟨u,k b u q⟩
 gr:=fun b xs q=>by rw [ag (gd q hn)]; exact q
 gi:=fun b u xs q=>by rw [ag (gd q hn)]; exact q
 gu:=fun b ps q=>⟨#[],by rw [ag (gd q hn),q]; simp⟩
theorem Un.write (mu:rD (H x)) (he:e=x\/H e=some (.own x)) (k:∀ b u,b≠e->h.get? b=some u->h'.get? b=some u) (rg:∃ u,h'.get? e=some u):Un fs ex H (upd H x o) h h':=by
 have hx:∀ b,H b=none->b≠x:=fun b n z=>by subst z; rw [n] at mu; exact mu
 have hb:∀ b,H b=none->b≠e:=fun b n z=>by
  subst z;rcases he with r | r
  ·exact hx b n r
  ·rw [n] at r; cases r
 have hm:∀ b u,H b=some u->¬ rD (some u)->b≠x:=fun b u q nm z=>by subst z; rw [q] at mu; exact nm mu
 refine ⟨fun b u q n _ _=>k b u (hb b n) q,fun b u q n _ _=>⟨u.slots,k b u (hb b n) q⟩,fun b u q n _=>by rw [ag (hx b n)]; exact n,fun b u q _=>?_,
  fun b xs q=>by rw [ag (hm b _ q fun z=>z)]; exact q,fun b u xs q=>by rw [ag (hm b _ q fun z=>z)]; exact q,fun b ps q=>⟨#[],by rw [ag (hm b _ q fun z=>z),q]; simp⟩⟩
 by_cases oh:b=e
 ·subst oh; exact rg
 ·exact ⟨u,k b u oh q⟩
end
def vz (h:Heap) (H:Hp):List Addr:=(List.range h.objs.size).filter fun a=>(H a).isSome
def j4 (h:Heap) (H:Hp):Heap:=PySem.W.hideAll h (vz h H)
theorem WN (h:Heap) (H:Hp):(j4 h H).objs.size=h.objs.size:=PySem.W.hideAll_size _ _
theorem TB {h:Heap} {H:Hp} {b:Addr} {o:Obj} (e:h.get? b=some o) (n:H b=none):(j4 h H).get? b=some o :=
 PySem.W.hideAll_get _ e fun hm=>by
  have q:(H b).isSome=true:=(List.mem_filter.mp hm).2;rw [n] at q; simp at q
theorem Zv {h:Heap} {H:Hp} {b:Addr} {o:Obj} (e:(j4 h H).get? b=some o):h.get? b=some o/\H b=none:=by
 have e':h.get? b=some o:=PySem.W.of_hideAll (vz h H) e;refine ⟨e',?_⟩;cases q:H b with
 | none=>rfl
 | some x =>
  have hm:b∈vz h H:=List.mem_filter.mpr ⟨List.mem_range.mpr (Heap.lt_size e'),by simp [q]⟩;have z:(j4 h H).get? b=none:=PySem.W.hideAll_none (vz h H) hm;rw [z] at e; cases e
def Oz (g h:Heap) (L:Addr):List (Addr×Obj):=(List.range h.objs.size).filterMap fun a=>if a=L\/(g.get? a).isSome=true then none else (h.get? a).map fun o=>(a,o)
def rest (g h:Heap) (L d:Addr):List (Addr×Obj):=(Oz g h L).filter fun p=>decide (p.1≠d)
structure Mod (K:PySem.W.Frag) (mg:Str->Option Value) (base:Heap):Prop where
 iO:K.In base
 glob:base.Ns mainGlobals mg
 blt:∃ mb,base.Ns builtinsNs mb/\∀ x:Str,x ≠ "__name__" -> mb x=bootBuiltins x
 nolimit:base.NoLimit
structure Cx where
 prog:Program
 w:World
 K:PySem.W.Frag
 mg:Str->Option Value
 base:Heap
 A:Around
 N:List Str
 s₀:Shared
 H₀:Hp
 env:Env
 outer:List Env
 stack:List Env
 ex:List Addr
 fn:Str->Bool
 calm:Bool
 pn:List (Addr×Obj)
 xe:Value->Shared->Prop
def bW (l:List Env):List Addr:=l.filterMap (·.frame)
abbrev Cx.fs (X:Cx):List Addr:=bW X.outer
def rC (sc:Scope) (x:Str):Prop:=sc.names.lookup x=some .local\/sc.names.lookup x=some .cell\/sc.names.lookup x=some .free
def Loc (sc:Scope) (x:Str):Prop:=sc.names.lookup x=some .local\/sc.names.lookup x=some .cell
def Look (env:Env) (h:Heap) (m:Str->Option Value) (x:Str) (u:Value):Prop :=
 (env.kindOf x=some .local/\m x=some u)\/((env.kindOf x=some .cell\/env.kindOf x=some .free)/\∃ c,env.cells.lookup x=some c/\h.IsCell c (some u))
structure Cx.Ok (X:Cx):Prop where
 mod:Mod X.K X.mg X.base
 kind:X.env.scope.kind=.function
 glob:X.env.globals=mainGlobals
 blt:X.env.builtins=builtinsNs
 above:X.s₀.heap.objs.size<=X.env.locals
 inj:∀ x y c,X.env.cells.lookup x=some c->X.env.cells.lookup y=some c->x=y
 has:∀ x,(X.env.kindOf x=some .cell\/X.env.kindOf x=some .free)->∃ c,X.env.cells.lookup x=some c
 mj:∀ x c,X.fn x=true->X.env.cells.lookup x=some c->X.s₀.heap.objs.size<=c
 hd:X.calm=true->X.A.handled=none
 frames:X.A.frames=some X.stack
 dq:X.stack=X.outer\/(X.stack=X.env::X.outer/\X.env.frame=some X.env.locals)
 uc:∀ b∈X.ex,b≠X.env.locals/\∀ x c,X.env.cells.lookup x=some c->c≠b
 bs:∀ b o,X.base.get? b=some o->X.s₀.heap.get? b=some o/\X.H₀ b=none
 iq:X.base.objs.size<=X.s₀.heap.objs.size
 mr:∀ b o,X.base.get? b=some o->b ∉ X.ex
 lP:∀ b∈X.ex,b ∉ X.fs
 fS:X.s₀.heap.FunFrames X.base X.outer
 jx:∀ b∈X.fs,X.H₀ b=none
structure Inv (X:Cx) (pins:List (Addr×Obj)) (σ:List (Option V)) (H:Hp) (s:Shared):Prop where
 ok:X.Ok
 os:s.os=X.s₀.os
 bare:AllBare s.gens
 base:Un X.fs X.ex X.H₀ H X.s₀.heap s.heap
 loc:∃ m,s.heap.Ns X.env.locals m/\∀ (i:Nat) (x:Str) (v:V),X.N[i]?=some x->σ[i]?=some (some v)->rC X.env.scope x->∃ u,RelV v u/\Look X.env s.heap m x u
 cell:∀ x c,X.env.cells.lookup x=some c->∃ v,s.heap.IsCell c v
 free:H X.env.locals=none
 fY:∀ x c,X.env.cells.lookup x=some c->H c=none
 pin:∀ p∈X.pn++pins,s.heap.get? p.1=some p.2/\H p.1=none/\p.1≠X.env.locals/\p.1 ∉ X.fs/\∀ v,p.2.data≠.cell v
 aB:ck X.prog X.w H s.heap
 len:σ.length=X.N.length
section
variable {X:Cx} {pins:List (Addr×Obj)} {σ:List (Option V)} {H H':Hp} {s:Shared} {h':Heap}
theorem Cx.Ok.Zn (ok:X.Ok) {b:Addr} {o:Obj} (e:X.base.get? b=some o):b ∉ X.fs:=fun hb=>by
 have:=(ok.fS.mem hb).1;rw [e] at this; cases this
theorem Inv.bs (I:Inv X pins σ H s):∀ b o,X.base.get? b=some o->s.heap.get? b=some o/\H b=none:=fun b o e =>
 ⟨I.base.keep b o (I.ok.bs b o e).1 (I.ok.bs b o e).2 (I.ok.Zn e) (I.ok.mr b o e),I.base.free b o (I.ok.bs b o e).1 (I.ok.bs b o e).2 (I.ok.mr b o e)⟩
theorem Inv.bk (I:Inv X pins σ H s):∀ b o,X.base.get? b=some o->s.heap.get? b=some o:=fun b o e=>(I.bs b o e).1
theorem Inv.mod (I:Inv X pins σ H s):Mod X.K X.mg X.base:=I.ok.mod
theorem Inv.cg (I:Inv X pins σ H s):X.K.In s.heap:=I.ok.mod.iO.keeps I.bk
theorem Inv.lt (I:Inv X pins σ H s):X.env.locals < s.heap.objs.size:=let ⟨_,hn,_⟩:=I.loc; hn.lt
theorem Inv.sz (I:Inv X pins σ H s):X.s₀.heap.objs.size<=s.heap.objs.size:=Nat.le_trans I.ok.above (Nat.le_of_lt I.lt)
theorem Inv.E5 (I:Inv X pins σ H s) {a:Addr} (h:s.heap.objs.size<=a):a ∉ X.fs:=fun hb=>by
 obtain ⟨_,o,ho,_⟩:=I.ok.fS.mem hb;exact absurd (Nat.lt_of_lt_of_le (Heap.lt_size ho) (Nat.le_trans I.sz h)) (Nat.lt_irrefl _)
theorem Inv.nA (I:Inv X pins σ H s):∀ x c,X.env.cells.lookup x=some c->c≠X.env.locals:=fun x c e z=>by
 obtain ⟨v,o,ho,hd⟩:=I.cell x c e;obtain ⟨m,⟨o',es,ep,ho',hd',_⟩,_⟩:=I.loc;rw [z,ho'] at ho; cases ho; rw [hd'] at hd; cases hd
theorem Inv.fS (I:Inv X pins σ H s):s.heap.FunFrames X.base X.outer:=by
 have all:∀ (l:List Env),(∀ b∈bW l,b∈X.fs)->X.s₀.heap.FunFrames X.base l->s.heap.FunFrames X.base l:=by
  intro l
  induction l with
  | nil=>intro _ _; trivial
  | cons env r ih =>
   intro hs hl;obtain ⟨hk,⟨L,o,hf,hn,ho,hd⟩,hr⟩:=hl;have hL:L∈X.fs:=hs L (by unfold bW; rw [List.filterMap_cons,hf]; exact List.mem_cons_self);obtain ⟨sl,e⟩:=I.base.slot L o ho (I.ok.jx L hL) hL fun z=>I.ok.lP L z hL;exact ⟨hk,⟨L,_,hf,hn,e,hd⟩,ih (fun b hb=>hs b (by unfold bW; rw [List.filterMap_cons,hf]; exact List.mem_cons_of_mem _ hb)) hr⟩
 exact all X.outer (fun _ hb=>hb) I.ok.fS
theorem Inv.stack (I:Inv X pins σ H s):s.heap.FunFrames X.base X.stack:=by
 rcases I.ok.dq with e | ⟨e,hf⟩
 ·rw [e]; exact I.fS
 ·rw [e];obtain ⟨m,hn,_⟩:=I.loc;refine .cons (by rw [I.ok.kind]; decide) hf hn ?_ I.fS;exact Heap.get?_none_of_le (Nat.le_trans I.ok.iq I.ok.above)
theorem Inv.vO (I:Inv X pins σ H s):∀ b∈bW X.stack,b∈X.env.locals::X.fs:=fun b hb=>by
 rcases I.ok.dq with e | ⟨e,hf⟩
 ·rw [e] at hb; exact List.mem_cons_of_mem _ hb
 ·rw [e] at hb;unfold bW at hb;rw [List.filterMap_cons,hf] at hb;exact hb
theorem Inv.vC (I:Inv X pins σ H s):∀ b∈bW X.stack,H b=none:=fun b hb=>by
 rcases List.mem_cons.mp (I.vO b hb) with e | hb
 ·rw [e]; exact I.free
 ·obtain ⟨_,o,ho,_⟩:=I.ok.fS.mem hb;exact I.base.free b o ho (I.ok.jx b hb) fun z=>I.ok.lP b z hb
theorem Inv.step {g':Array GenState} {t':Nat} {d':Drawn} {ch:List Addr} (I:Inv X pins σ H s)
  (hZ:∀ b∈ch,(b∈X.ex\/X.s₀.heap.objs.size<=b)/\b≠X.env.locals/\(∀ x c,X.env.cells.lookup x=some c->c≠b)/\∀ p∈X.pn++pins,p.1≠b)
  (keep:∀ b o,b≠X.env.locals->b ∉ X.fs->b ∉ ch->s.heap.get? b=some o->H b=none->h'.get? b=some o)
  (slot:∀ b o,b≠X.env.locals->b∈X.fs->b ∉ ch->s.heap.get? b=some o->H b=none->∃ sl,h'.get? b=some { o with slots:=sl }) (free:∀ b o,b ∉ ch->s.heap.get? b=some o->H b=none->H' b=none)
  (there:∀ b o,b ∉ ch->s.heap.get? b=some o->∃ o',h'.get? b=some o')
  (gr:∀ b xs,H b=some (.tup xs)->H' b=some (.tup xs)) (gi:∀ b o u,H b=some (.eS o u)->H' b=some (.eS o u)) (gu:∀ b ps,H b=some (.mv ps)->∃ more,H' b=some (.mv (ps++more)))
  (ns:∀ m,s.heap.Ns X.env.locals m->h'.Ns X.env.locals m) (aB:ck X.prog X.w H' h') (hg:AllBare g') :
  Inv X pins σ H' { s with heap:=h',gens:=g',drawn:=d',toks:=t' }:=by
 have vj:∀ b o,X.s₀.heap.get? b=some o->b≠X.env.locals:=fun b o e=>Nat.ne_of_lt (Nat.lt_of_lt_of_le (Heap.lt_size e) I.ok.above);have yt:∀ b o,X.s₀.heap.get? b=some o->b ∉ X.ex->b ∉ ch:=fun b o e hx hb=>by
  rcases (hZ b hb).1 with z | z
  ·exact hx z
  ·exact absurd (Nat.lt_of_lt_of_le (Heap.lt_size e) z) (Nat.lt_irrefl _)
 have cellK:∀ x c,X.env.cells.lookup x=some c->∀ v,s.heap.IsCell c v->h'.IsCell c v:=fun x c e v ⟨o,ho,hd⟩=>by
  have uX:c ∉ ch:=fun z=>(hZ c z).2.2.1 x c e rfl;by_cases hc:c∈X.fs
  ·obtain ⟨sl,q⟩:=slot c o (I.nA x c e) hc uX ho (I.fY x c e);exact ⟨_,q,hd⟩
  ·exact ⟨o,keep c o (I.nA x c e) hc uX ho (I.fY x c e),hd⟩
 refine ⟨I.ok,I.os,hg,⟨fun b o e n hb hx=>?_,fun b o e n hb hx=>?_,fun b o e n hx=>?_,fun b o e hx=>?_,fun b xs e=>gr b xs (I.base.gr b xs e),fun b o xs e=>gi b o xs (I.base.gi b o xs e),fun b ps e=>?_⟩,?_,fun x c e=>?_,?_,fun x c e=>?_,fun p hp=>?_,aB,I.len⟩
 ·exact keep b o (vj b o e) hb (yt b o e hx) (I.base.keep b o e n hb hx) (I.base.free b o e n hx)
 ·obtain ⟨sl,e1⟩:=I.base.slot b o e n hb hx;obtain ⟨sl',e2⟩:=slot b _ (vj b o e) hb (yt b o e hx) e1 (I.base.free b o e n hx);exact ⟨sl',e2⟩
 ·obtain ⟨o',e1⟩:=I.base.there b o e hx;exact free b o' (yt b o e hx) e1 (I.base.free b o e n hx)
 ·obtain ⟨o',e1⟩:=I.base.there b o e hx;exact there b o' (yt b o e hx) e1
 ·obtain ⟨m1,e1⟩:=I.base.gu b ps e;obtain ⟨m2,e2⟩:=gu b _ e1;exact ⟨m1++m2,by rw [e2,Array.append_assoc]⟩
 ·obtain ⟨m,hn,hl⟩:=I.loc;refine ⟨m,ns m hn,fun i x v e1 e2 e3=>?_⟩;obtain ⟨u,r,l⟩:=hl i x v e1 e2 e3;refine ⟨u,r,?_⟩;rcases l with l | ⟨k,c,e,z⟩
  ·exact .inl l
  ·exact .inr ⟨k,c,e,cellK x c e _ z⟩
 ·obtain ⟨v,z⟩:=I.cell x c e;exact ⟨v,cellK x c e v z⟩
 ·obtain ⟨m,⟨o,_,_,ho,_⟩,_⟩:=I.loc;exact free _ o (fun z=>(hZ _ z).2.1 rfl) ho I.free
 ·obtain ⟨v,o,ho,hd⟩:=I.cell x c e;exact free c o (fun z=>(hZ c z).2.2.1 x c e rfl) ho (I.fY x c e)
 ·obtain ⟨e,n,ne,nf,d⟩:=I.pin p hp;have uX:p.1 ∉ ch:=fun z=>(hZ p.1 z).2.2.2 p hp rfl;exact ⟨keep p.1 p.2 ne nf uX e n,free p.1 p.2 uX e n,ne,nf,d⟩
theorem Inv.un {t':Nat} (I:Inv X pins σ H s) (u:Un X.fs [] H H' s.heap h') (aB:ck X.prog X.w H' h'):Inv X pins σ H' { s with heap:=h',toks:=t' }:=by
 obtain ⟨m,⟨o,es,ep,ho,r⟩,_⟩:=id I.loc;obtain ⟨sl,hL⟩:=u.any ho I.free (by simp);exact I.step (g':=s.gens) (d':=s.drawn) (ch:=[]) (fun _ z=>nomatch z) (fun b o _ hb _ e n=>u.keep b o e n hb (by simp)) (fun b o _ hb _ e n=>u.slot b o e n hb (by simp)) (fun b o _ e n=>u.free b o e n (by simp)) (fun b o _ e=>u.there b o e (by simp)) u.gr u.gi u.gu (fun m' hm=>by
  obtain ⟨o',es',ep',ho',r'⟩:=hm;rw [ho] at ho'; cases ho';exact ⟨_,es',ep',hL,r'⟩) aB I.bare
theorem Inv.call {g':Array GenState} {t':Nat} {d':Drawn} {ch:List Addr} (I:Inv X pins σ H s) (u:Un (bW X.stack) ch H H' s.heap h') (aB:ck X.prog X.w H' h') (hg:AllBare g')
  (hZ:∀ b∈ch,(b∈X.ex\/X.s₀.heap.objs.size<=b)/\b≠X.env.locals/\(∀ x c,X.env.cells.lookup x=some c->c≠b)/\∀ p∈X.pn++pins,p.1≠b) :
  Inv X pins σ H' { s with heap:=h',gens:=g',drawn:=d',toks:=t' }:=by
 obtain ⟨m,⟨o,es,ep,ho,r⟩,_⟩:=id I.loc;obtain ⟨sl,hL⟩:=u.any ho I.free fun z=>(hZ _ z).2.1 rfl;exact I.step (ch:=ch) hZ (fun b o hL hb hc e n=>u.keep b o e n (fun z=>(List.mem_cons.mp (I.vO b z)).elim hL hb) hc) (fun b o _ _ hc e n=>u.any e n hc) (fun b o hc e n=>u.free b o e n hc) (fun b o hc e=>u.there b o e hc) u.gr u.gi u.gu (fun m' hm=>by
  obtain ⟨o',es',ep',ho',r'⟩:=hm;rw [ho] at ho'; cases ho';exact ⟨_,es',ep',hL,r'⟩) aB hg
theorem Inv.turned {t':Nat} {it:Addr} (I:Inv X pins σ H s) (k:∀ b o,b≠it->s.heap.get? b=some o->h'.get? b=some o) (hn:H it=none) (hL:it≠X.env.locals)
  (h1:it∈X.ex\/X.s₀.heap.objs.size<=it) (h2:∀ x c,X.env.cells.lookup x=some c->c≠it) (h3:∀ p∈X.pn++pins,p.1≠it):Inv X pins σ H { s with heap:=h',toks:=t' }:=by
 have LY:∀ b u,H b=some u->b≠it:=fun b u e z=>by rw [z,hn] at e; cases e
 refine I.step (g':=s.gens) (d':=s.drawn) (ch:=[it]) (fun b hb=>?_) (fun b o _ _ hc e _=>k b o (fun z=>hc (by simp [z])) e) (fun b o _ _ hc e _=>⟨o.slots,k b o (fun z=>hc (by simp [z])) e⟩) (fun _ _ _ _ n=>n)
  (fun b o hc e=>⟨o,k b o (fun z=>hc (by simp [z])) e⟩) (fun _ _ e=>e) (fun _ _ _ e=>e) (fun b ps e=>⟨#[],by rw [e]; simp⟩) (fun m hm=>?_) (fun b u e=>?_) I.bare
 ·have e:b=it:=by simpa using hb
  subst e;exact ⟨h1,hL,h2,h3⟩
 ·obtain ⟨o,es,ep,ho,r⟩:=hm;exact ⟨o,es,ep,k _ o (Ne.symm hL) ho,r⟩
 ·refine (I.aB b u e).g8 (fun c v hc q=>k c v ?_ q) (fun _ q=>q) fun _ _ q=>q;rcases hc with z | z
  ·rw [z]; exact LY b u e
  ·exact LY c _ z
theorem Inv.tok (I:Inv X pins σ H s) (t:Nat):Inv X pins σ H { s with toks:=t }:=I.un (h':=s.heap) (t':=t) Un.refl I.aB
theorem Inv.kept {t':Nat} (I:Inv X pins σ H s) (k:∀ b u,s.heap.get? b=some u->h'.get? b=some u):Inv X pins σ H { s with heap:=h',toks:=t' }:=I.un (Un.kept k) (I.aB.kept k)
theorem Inv.laid {a:Addr} {o:HO} {t':Nat} (I:Inv X pins σ H s) (k:∀ b u,s.heap.get? b=some u->h'.get? b=some u) (hp:s.heap.objs.size<=a) (new:b9 X.prog X.w (upd H a o) h' a o) :
  Inv X pins σ (upd H a o) { s with heap:=h',toks:=t' }:=I.un (Un.laid k hp (I.aB.fresh hp)) (I.aB.laid k hp new)
theorem Inv.write {x e:Addr} {o:HO} {t':Nat} (I:Inv X pins σ H s) (mu:rD (H x)) (he:e=x\/H e=some (.own x)) (k:∀ b u,b≠e->s.heap.get? b=some u->h'.get? b=some u) (rg:∃ u,h'.get? e=some u)
  (new:b9 X.prog X.w (upd H x o) h' x o):Inv X pins σ (upd H x o) { s with heap:=h',toks:=t' }:=I.un (Un.write mu he k rg) (I.aB.write mu he k rg new)
theorem Inv.rM {pins':List (Addr×Obj)} (I:Inv X pins σ H s) (h:∀ p∈pins',s.heap.get? p.1=some p.2/\H p.1=none/\p.1≠X.env.locals/\p.1 ∉ X.fs/\∀ v,p.2.data≠.cell v):Inv X pins' σ H s :=
 ⟨I.ok,I.os,I.bare,I.base,I.loc,I.cell,I.free,I.fY,fun p hp=>(List.mem_append.mp hp).elim (fun z=>I.pin p (List.mem_append_left _ z)) (h p),I.aB,I.len⟩
theorem IM {N:List Str} (hN:N.Nodup) {i j:Nat} {x:Str} (a:N[i]?=some x) (b:N[j]?=some x):i=j:=by
 obtain ⟨h1,e1⟩:=List.getElem?_eq_some_iff.mp a;obtain ⟨h2,e2⟩:=List.getElem?_eq_some_iff.mp b;exact (List.getElem_inj hN).mp (e1.trans e2.symm)
theorem KP {M:Model} {A:Around} {E:Value->Shared->Prop} {i:Nat} {x:Str} {v:V} {u:Value} {Q:Unit->Shared->Prop} (I:Inv X pins σ H s) (hN:X.N.Nodup) (hi:X.N[i]?=some x) (hx:Loc X.env.scope x) (r:RelV v u)
  (h:∀ s',Inv X pins (σ.set i (some v)) H s'->(∃ a,Heap.SameBut a s.heap s'.heap/\(a=X.env.locals\/X.env.cells.lookup x=some a))->Q () s') (hf:X.fn x=true\/X.env.scope.names.lookup x=some .local:=by first | exact .inl rfl | exact .inr rfl | assumption):wpAny M A (storeName X.env x u) Q E s:=by
 obtain ⟨m,hn,hl⟩:=id I.loc;have hcls:(X.env.scope.kind == .class || (X.env.scope.kind == .module && X.env.locals != X.env.globals))=false:=by rw [I.ok.kind]; rfl
 have M4:i < σ.length:=by rw [I.len]; exact (List.getElem?_eq_some_iff.mp hi).1
 have nA:=I.nA;have tracked:∀ {a:Addr} {h':Heap},(∃ o,s.heap.get? a=some o/\H a=none)->Heap.SameBut a s.heap h'->ck X.prog X.w H h':=fun {a h'} ha hs b ob e=>by
  obtain ⟨_,_,mZ⟩:=ha;refine (I.aB b ob e).g8 (fun c w' hc q=>(hs.2 c ?_).trans q) (fun _ q=>q) fun _ _ q=>q;rintro rfl;rcases hc with rfl | hc
  ·rw [mZ] at e; cases e
  ·rw [mZ] at hc; cases hc
 rcases hx with hk | hk
 ·refine wpAny_storeName_local hk hn (fun h' hn' hs=>?_) hcls;obtain ⟨oL,_,_,lq,_⟩:=id hn;refine h _ ⟨I.ok,I.os,I.bare,⟨fun b o e n hb hx=>?_,fun b o e n hb hx=>?_,I.base.free,fun b o e hx=>?_,I.base.gr,I.base.gi,I.base.gu⟩,⟨_,hn',fun j y v' e1 e2 e3=>?_⟩,fun y c e=>?_,I.free,I.fY,fun p hp=>?_,tracked ⟨oL,lq,I.free⟩ hs,by simpa using I.len⟩ ⟨_,hs,.inl rfl⟩
  ·exact (hs.2 b (Nat.ne_of_lt (Nat.lt_of_lt_of_le (Heap.lt_size e) I.ok.above))).trans (I.base.keep b o e n hb hx)
  ·obtain ⟨sl,e1⟩:=I.base.slot b o e n hb hx;exact ⟨sl,(hs.2 b (Nat.ne_of_lt (Nat.lt_of_lt_of_le (Heap.lt_size e) I.ok.above))).trans e1⟩
  ·obtain ⟨o',e1⟩:=I.base.there b o e hx;exact ⟨o',(hs.2 b (Nat.ne_of_lt (Nat.lt_of_lt_of_le (Heap.lt_size e) I.ok.above))).trans e1⟩
  ·by_cases hj:j=i
   ·subst hj;rw [hi] at e1; cases e1;rw [List.getElem?_set_self M4] at e2;cases e2;exact ⟨u,r,.inl ⟨hk,by simp⟩⟩
   ·rw [List.getElem?_set_ne (Ne.symm hj)] at e2;obtain ⟨u',r',q⟩:=hl j y v' e1 e2 e3;refine ⟨u',r',?_⟩;rcases q with ⟨k,e⟩ | ⟨k,c,e,z⟩
    ·refine .inl ⟨k,?_⟩;have:y≠x:=fun e=>hj (IM hN e1 (e ▸ hi));simp [this,e]
    ·exact .inr ⟨k,c,e,z.sameBut hs (nA y c e)⟩
  ·obtain ⟨w',z⟩:=I.cell y c e;exact ⟨w',z.sameBut hs (nA y c e)⟩
  ·obtain ⟨e,n,ne,nf,d⟩:=I.pin p hp;exact ⟨(hs.2 p.1 ne).trans e,n,ne,nf,d⟩
 ·have DO:X.fn x=true:=by
   rcases hf with z | z
   ·exact z
   ·rw [z] at hk; cases hk
  obtain ⟨c,hc⟩:=I.ok.has x (.inl hk);obtain ⟨w',z⟩:=I.cell x c hc;refine wpAny_storeName_cell I.ok.kind hk hc z (fun h' hc' hs=>?_);obtain ⟨oc,MB,hocd⟩:=id z;refine h { s with heap:=h' } ⟨I.ok,I.os,I.bare,⟨fun b o e n hb hx=>?_,fun b o e n hb hx=>?_,I.base.free,fun b o e hx=>?_,I.base.gr,I.base.gi,I.base.gu⟩,⟨m,hn.sameBut hs (Ne.symm (nA x c hc)),fun j y v' e1 e2 e3=>?_⟩,fun y c' e=>?_,I.free,I.fY,fun p hp=>?_,tracked ⟨oc,MB,I.fY x c hc⟩ hs,by simpa using I.len⟩ ⟨c,hs,.inr hc⟩
  ·exact (hs.2 b (Nat.ne_of_lt (Nat.lt_of_lt_of_le (Heap.lt_size e) (I.ok.mj x c DO hc)))).trans (I.base.keep b o e n hb hx)
  ·obtain ⟨sl,e1⟩:=I.base.slot b o e n hb hx;exact ⟨sl,(hs.2 b (Nat.ne_of_lt (Nat.lt_of_lt_of_le (Heap.lt_size e) (I.ok.mj x c DO hc)))).trans e1⟩
  ·obtain ⟨o',e1⟩:=I.base.there b o e hx;exact ⟨o',(hs.2 b (Nat.ne_of_lt (Nat.lt_of_lt_of_le (Heap.lt_size e) (I.ok.mj x c DO hc)))).trans e1⟩
  ·by_cases hj:j=i
   ·subst hj;rw [hi] at e1; cases e1;rw [List.getElem?_set_self M4] at e2;cases e2;exact ⟨u,r,.inr ⟨.inl hk,c,hc,hc'⟩⟩
   ·rw [List.getElem?_set_ne (Ne.symm hj)] at e2;obtain ⟨u',r',q⟩:=hl j y v' e1 e2 e3;refine ⟨u',r',?_⟩;rcases q with q | ⟨k,c',e,z'⟩
    ·exact .inl q
    ·refine .inr ⟨k,c',e,z'.sameBut hs ?_⟩;rintro rfl;exact hj (IM hN e1 (I.ok.inj _ _ _ e hc ▸ hi))
  ·by_cases xP:c'=c
   ·subst xP; exact ⟨_,hc'⟩
   ·obtain ⟨w2,z2⟩:=I.cell y c' e;exact ⟨w2,z2.sameBut hs xP⟩
  ·obtain ⟨e,n,ne,nf,d⟩:=I.pin p hp;refine ⟨(hs.2 p.1 ?_).trans e,n,ne,nf,d⟩;intro q;rw [q,MB] at e;have q':oc=p.2:=Option.some.inj e;exact d w' (by rw [<- q']; exact hocd)
theorem Lv {M:Model} {A:Around} {E:Value->Shared->Prop} {i:Nat} {x:Str} {v:V} {u:Value} {Q:Unit->Shared->Prop} (I:Inv X pins σ H s) (hN:X.N.Nodup) (hi:X.N[i]?=some x) (hx:Loc X.env.scope x) (r:RelV v u)
  (h:∀ s',Inv X pins (σ.set i (some v)) H s'->Q () s') (hf:X.fn x=true\/X.env.scope.names.lookup x=some .local:=by first | exact .inl rfl | exact .inr rfl | assumption):wpAny M A (storeName X.env x u) Q E s :=
 KP I hN hi hx r (fun s' I' _=>h s' I') hf
theorem Inv.Ka {s':Shared} {ch:List Addr} (I:Inv X pins σ H s) (ho:s'.os=s.os) (u:Un (bW X.stack) ch H H' s.heap s'.heap) (aB:ck X.prog X.w H' s'.heap) (hg:AllBare s'.gens)
  (hZ:∀ b∈ch,(b∈X.ex\/X.s₀.heap.objs.size<=b)/\b≠X.env.locals/\(∀ x c,X.env.cells.lookup x=some c->c≠b)/\∀ p∈X.pn++pins,p.1≠b):Inv X pins σ H' s':=by
 obtain ⟨h',g',d',t',o'⟩:=s';have e:o'=s.os:=ho;subst e;exact I.call (g':=g') (t':=t') (d':=d') u aB hg hZ
end
abbrev XK:=Value->Option Addr->Hp->Prop
abbrev St:=List (Option V)
abbrev VK:=V->Hp->Prop
abbrev TE:=St->Hp->VK->Prop
abbrev TT:=St->Hp->(Bool->Hp->Prop)->Prop
abbrev TA:=St->Hp->(List V->Hp->Prop)->Prop
structure Ends where
 nx:St->Hp->Prop
 rt:VK
 bk:St->Hp->Prop:=fun _ _=>False
 ct:St->Hp->Prop:=fun _ _=>False
abbrev TS:=Ends->St->Hp->Prop
def EP (X:Cx) (pins:List (Addr×Obj)) (σ:St) (Q:VK) (u:Value) (s':Shared):Prop:=∃ v H',Inv X pins σ H' s'/\RelV v u/\Q v H'
def TP (X:Cx) (pins:List (Addr×Obj)) (σ:St) (Q:Bool->Hp->Prop) (b:Bool) (s':Shared):Prop:=∃ H',Inv X pins σ H' s'/\Q b H'
def AP (X:Cx) (pins:List (Addr×Obj)) (σ:St) (Q:List V->Hp->Prop) (us:List Value) (s':Shared):Prop:=∃ vs H',Inv X pins σ H' s'/\Vals vs us/\Q vs H'
def SP (X:Cx) (pins:List (Addr×Obj)) (D:Ends) (f:Flow) (s':Shared):Prop :=
 match f with
 | .next=>∃ σ' H',Inv X pins σ' H' s'/\D.nx σ' H'
 | .brk=>∃ σ' H',Inv X pins σ' H' s'/\D.bk σ' H'
 | .cont=>∃ σ' H',Inv X pins σ' H' s'/\D.ct σ' H'
 | .ret u=>∃ v σ' H',Inv X pins σ' H' s'/\RelV v u/\D.rt v H'
def PE (X:Cx) (e:Expr) (t:TE):Prop :=
 ∀ (pins:List (Addr×Obj)) (s:Shared) (σ:St) (H:Hp) (Q:VK),Inv X pins σ H s->t σ H Q->wpAny (model X.prog X.w) X.A (eval e X.env) (EP X pins σ Q) X.xe s
def PT (X:Cx) (e:Expr) (t:TT):Prop :=
 ∀ (pins:List (Addr×Obj)) (s:Shared) (σ:St) (H:Hp) (Q:Bool->Hp->Prop),Inv X pins σ H s->t σ H Q->wpAny (model X.prog X.w) X.A (isTrue e X.env (eval e X.env)) (TP X pins σ Q) X.xe s
def PW (X:Cx) (e:Expr) (t:TT):Prop :=
 ∀ (whole:Sem Value) (pins:List (Addr×Obj)) (s:Shared) (σ:St) (H:Hp) (Q:Bool->Hp->Prop),Inv X pins σ H s->t σ H Q->wpAny (model X.prog X.w) X.A (isTrue e X.env whole) (TP X pins σ Q) X.xe s
theorem PW.pt {X:Cx} {e:Expr} {t:TT} (h:PW X e t):PT X e t:=h _
def PA (X:Cx) (es:List Expr) (t:TA):Prop :=
 ∀ (pos:Pos) (pins:List (Addr×Obj)) (s:Shared) (σ:St) (H:Hp) (Q:List V->Hp->Prop),Inv X pins σ H s->t σ H Q->wpAny (model X.prog X.w) X.A (spliced (backTo pos (starEach es X.env))) (AP X pins σ Q) X.xe s
def PS (X:Cx) (st:Stmt) (t:TS):Prop :=
 ∀ (pins:List (Addr×Obj)) (s:Shared) (σ:St) (H:Hp) (D:Ends),Inv X pins σ H s->t D σ H->wpAny (model X.prog X.w) X.A (exec st X.env) (SP X pins D) X.xe s
def dE (X:Cx) (st:List Stmt) (t:TS):Prop :=
 ∀ (pins:List (Addr×Obj)) (s:Shared) (σ:St) (H:Hp) (D:Ends),Inv X pins σ H s->t D σ H->wpAny (model X.prog X.w) X.A (execs st X.env) (SP X pins D) X.xe s
theorem aD {α:Type} {t:Sem α} {Q Q':α->Shared->Prop} {M:Model} {A:Around} {E:Value->Shared->Prop} {s:Shared} (h:wpAny M A t Q E s) (hQ:∀ a s,Q a s->Q' a s):wpAny M A t Q' E s:=wpAny_mono h hQ fun _ _ x=>x
section
variable {X:Cx}
def Jb (i:Nat):TE:=fun σ H Q=>∃ v,σ[i]?=some (some v)/\Q v H
def tC (v:V):TE:=fun _ H Q=>Q v H
theorem IU {i:Nat} {x:Str} {pos:Pos} (hN:X.N[i]?=some x) (hv:rC X.env.scope x) (hd:(x == ("__debug__" : Str))=false:=by decide) (dj:(x == ("__classdict__" : Str))=false:=by decide):PE X (.Name x pos) (Jb i):=by
 intro pins s σ H Q I h;obtain ⟨v,e,h⟩:=h;obtain ⟨m,hn,hl⟩:=I.loc;obtain ⟨u,r,l⟩:=hl i x v hN e hv;have fin:EP X pins σ Q u s:=⟨v,H,I,r,h⟩;rcases l with ⟨hk,hm⟩ | ⟨hk,c,hc,LI⟩
 ·exact wpAny_Name (wpAny_loadName_local I.ok.kind hk hn hm fin) hd
 ·rcases hk with hk | hk
  ·exact wpAny_Name (wpAny_loadName_cell I.ok.kind hk hc LI fin) hd
  ·exact wpAny_Name (wpAny_loadName_free I.ok.kind hk hc LI fin dj) hd
theorem QU {i j pos}:PE X (.Constant (.int i) j pos) (tC (.int i)):=fun _ _ _ H _ I h=>wpAny_Constant_int ⟨.int i,H,I.tok _,⟨_,rfl⟩,h⟩
theorem Q1 {b j pos}:PE X (.Constant (.bool b) j pos) (tC (.bl b)):=fun _ _ _ H _ I h=>Constant_bool ⟨.bl b,H,I,rfl,h⟩
theorem P4 {j pos}:PE X (.Constant .none j pos) (tC .au):=fun _ _ _ H _ I h=>Constant_none ⟨.au,H,I,rfl,h⟩
theorem Te {x j pos}:PE X (.Constant (.str x) j pos) (tC (.str x)):=fun _ _ _ H _ I h=>Calls.Constant_str ⟨.str x,H,I.tok _,⟨_,rfl⟩,h⟩
def Gl (X:Cx) (x:Str):Prop:=X.env.kindOf x=some .globalImplicit
theorem kW {E:Value->Shared->Prop} {pins:List (Addr×Obj)} {s:Shared} {σ:St} {H:Hp} {x:Str} {u:Value} {pos:Pos} {Q:Value->Shared->Prop} (I:Inv X pins σ H s) (hg:Gl X x) (hm:X.mg x=some u) (h:Q u s)
  (hd:(x == ("__debug__" : Str))=false:=by decide):wpAny (model X.prog X.w) X.A (eval (.Name x pos) X.env) Q E s :=
 Calls.Name_function_global I.ok.kind hg (Calls.loadGlobal_global (by rw [I.ok.glob]; exact I.mod.glob.keeps I.bk) hm h) hd
theorem nY {E:Value->Shared->Prop} {pins:List (Addr×Obj)} {s:Shared} {σ:St} {H:Hp} {x:Str} {u:Value} {pos:Pos} {Q:Value->Shared->Prop} (I:Inv X pins σ H s) (hg:Gl X x) (hm:X.mg x=none) (hv:bootBuiltins x=some u) (h:Q u s)
  (hn:x ≠ "__name__" := by decide) (hd:(x == ("__debug__" : Str))=false:=by decide):wpAny (model X.prog X.w) X.A (eval (.Name x pos) X.env) Q E s:=by
 obtain ⟨mb,h1,h2⟩:=I.mod.blt;exact Calls.Name_function_global I.ok.kind hg (Calls.loadGlobal_builtin (by rw [I.ok.glob]; exact I.mod.glob.keeps I.bk) hm (by rw [I.ok.blt]; exact h1.keeps I.bk) ((h2 x hn).trans hv) h) hd
theorem WR {x:Str} {v:V} {u:Value} {pos:Pos} (hg:Gl X x) (hm:X.mg x=some u) (r:RelV v u) (hd:(x == ("__debug__" : Str))=false:=by decide):PE X (.Name x pos) (tC v) :=
 fun _ _ _ H _ I h=>kW I hg hm ⟨v,H,I,r,h⟩ hd
theorem SO {x:Str} {v:V} {u:Value} {pos:Pos} (hg:Gl X x) (hm:X.mg x=none) (hv:bootBuiltins x=some u) (r:RelV v u) (hn:x ≠ "__name__" := by decide) (hd:(x == ("__debug__" : Str))=false:=by decide):PE X (.Name x pos) (tC v) :=
 fun _ _ _ H _ I h=>nY I hg hm hv ⟨v,H,I,r,h⟩ hn hd
def Ru (ta tb:TE) (k:Int->Int->Hp->Prop):St->Hp->Prop:=fun σ H=>ta σ H fun x H1=>tb σ H1 fun y H2=>∃ i j,x=.int i/\y=.int j/\k i j H2
variable {a b:Expr} {ta tb:TE} {pos:Pos}
def PC (X:Cx) (op:CmpOp) (a b:Expr) (t:TE):Prop :=
 ∀ (pins:List (Addr×Obj)) (s:Shared) (σ:St) (H:Hp) (Q:VK),Inv X pins σ H s->t σ H Q ->
  wpAny (model X.prog X.w) X.A (eval a X.env) (fun v s₁=>wpAny (model X.prog X.w) X.A (eval b X.env) (fun u s₂=>wpAny (model X.prog X.w) X.A (compareOp op v u) (EP X pins σ Q) X.xe s₂) X.xe s₁) X.xe s
theorem wZ (b:Expr) {op:CmpOp} (h:op≠.In) (h2:op≠.NotIn):behindInMarks op b=false:=by
 have e1:(op == CmpOp.In)=false:=by cases op <;> first | rfl | exact absurd rfl h
 have e2:(op == CmpOp.NotIn)=false:=by cases op <;> first | rfl | exact absurd rfl h2
 cases b <;> simp [behindInMarks,e1,e2]
def pM (p:Int->Int->Bool) (ta tb:TE):TE:=fun σ H Q=>Ru ta tb (fun i j H2=>Q (.bl (p i j)) H2) σ H
abbrev Z6:TE->TE->TE:=pM fun i j=>decide (i < j)
abbrev ZZ:TE->TE->TE:=pM fun i j=>decide (i<=j)
abbrev tGt:TE->TE->TE:=pM fun i j=>decide (j < i)
abbrev ZY:TE->TE->TE:=pM fun i j=>decide (j<=i)
abbrev Z9:TE->TE->TE:=pM fun i j=>decide (i=j)
abbrev Z0:TE->TE->TE:=pM fun i j=>!decide (i=j)
def Rz (ta:TE):TE:=fun σ H Q=>ta σ H fun x H1=>Q (.bl (decide (x=.au))) H1
def tB (t:TE):TT:=fun σ H Q=>t σ H fun x H1=>∃ c,x=.bl c/\Q c H1
variable {tA tB':TT} {rest:List Expr}
def yA (t u:TT):TT:=fun σ H Q=>t σ H fun c H1=>if c=true then u σ H1 Q else Q false H1
def zt (t u:TT):TT:=fun σ H Q=>t σ H fun c H1=>if c=true then Q true H1 else u σ H1 Q
def Cz (t:TT):TT:=fun σ H Q=>t σ H fun c H1=>Q (!c) H1
theorem S8 (ha:PT X a tA):PW X (.BoolOp .And [a] pos) tA:=by
 intro wh pins s σ H Q I h;refine isTrue_and (aD (ha pins s σ H Q I h) fun c s1 e=>?_);cases c with
 | true=>exact isTrue_and_nil e
 | false=>exact e
theorem UO (ha:PT X a tA):PW X (.BoolOp .Or [a] pos) tA:=by
 intro wh pins s σ H Q I h;refine isTrue_or (aD (ha pins s σ H Q I h) fun c s1 e=>?_);cases c with
 | false=>exact isTrue_or_nil e
 | true=>exact e
theorem VC (ha:PT X a tA) (hb:PW X (.BoolOp .And (b::rest) pos) tB'):PW X (.BoolOp .And (a::b::rest) pos) (yA tA tB'):=by
 intro wh pins s σ H Q I h;refine isTrue_and (aD (ha pins s σ H _ I h) fun c s1 ⟨H1,I1,q1⟩=>?_);cases c with
 | true=>exact hb wh pins s1 σ H1 Q I1 q1
 | false=>exact ⟨H1,I1,q1⟩
theorem Vf (ha:PT X a tA) (hb:PW X (.BoolOp .Or (b::rest) pos) tB'):PW X (.BoolOp .Or (a::b::rest) pos) (zt tA tB'):=by
 intro wh pins s σ H Q I h;refine isTrue_or (aD (ha pins s σ H _ I h) fun c s1 ⟨H1,I1,q1⟩=>?_);cases c with
 | true=>exact ⟨H1,I1,q1⟩
 | false=>exact hb wh pins s1 σ H1 Q I1 q1
theorem Xs (ha:PT X a tA):PT X (.UnaryOp .Not a pos) (Cz tA):=by
 intro pins s σ H Q I h;exact isTrue_not (ha pins s σ H (fun c H1=>Q (!c) H1) I h)
theorem Q0 {op} {t:TE} (h:PE X a t):PE X (.BoolOp op [a] pos) t:=fun pins s σ H Q I hw=>BoolOp_one (h pins s σ H Q I hw)
def yS (t:TT) (ta tb:TE):TE:=fun σ H Q=>t σ H fun c H1=>if c=true then ta σ H1 Q else tb σ H1 Q
theorem PY {c:Expr} (hc:PT X c tA) (ha:PE X a ta) (hb:PE X b tb):PE X (.IfExp c a b pos) (yS tA ta tb):=by
 intro pins s σ H Q I h;refine wpAny_IfExp (aD (hc pins s σ H _ I h) fun d s1 ⟨H1,I1,q1⟩=>?_);cases d with
 | true=>exact ha pins s1 σ H1 Q I1 q1
 | false=>exact hb pins s1 σ H1 Q I1 q1
end
def aC (K:PySem.W.Frag) (H:Hp) (a:Addr) (xs:List V):Prop :=
 Rd H a (.lst xs) \/
  ∃ (o:Obj) (ao:Array Value) (n:Nat),K.lookup a=some o/\o.cls=.type "list" /\ o.dict=none/\o.data=.seq ao n/\ao.size<=sizeLine/\Vals xs ao.toList
def bJ (K:PySem.W.Frag) (H:Hp) (a:Addr) (xs:List V):Prop :=
 Rd H a (.tup xs) \/
  ∃ (o:Obj) (ao:Array Value) (n:Nat),K.lookup a=some o/\o.cls=.type "tuple" /\ o.data=.seq ao n/\ao.size<=sizeLine/\Vals xs ao.toList
def Qo:Value->Option V
 | .none=>some .au
 | .bool b=>some (.bl b)
 | .int i _=>some (.int i)
 | .str x _=>some (.str x)
 | .bytes b _=>some (.byt b)
 | .float b _=>some (.m9 b)
 | .ref a=>some (.ref a)
 | .type n=>some (.ty n)
 | _=>none
theorem RelV.abs {x:V} {u:Value} (r:RelV x u):Qo u=some x:=by
 cases x with
 | au=>cases r; rfl
 | bl _=>cases r; rfl
 | int _=>obtain ⟨t,rfl⟩:=r; rfl
 | str _=>obtain ⟨t,rfl⟩:=r; rfl
 | byt _=>obtain ⟨t,rfl⟩:=r; rfl
 | m9 _=>obtain ⟨t,rfl⟩:=r; rfl
 | ref _=>cases r; rfl
 | ty _=>cases r; rfl
theorem RelV.inj {x y:V} {u:Value} (r:RelV x u) (q:RelV y u):x=y:=Option.some.inj (r.abs.symm.trans q.abs)
theorem Vals.inj:∀ {xs ys:List V} {us:List Value},Vals xs us->Vals ys us->xs=ys
 | _,_,_,.nil,.nil=>rfl
 | _,_,_,.cons r t,.cons r' t'=>by rw [r.inj r',Vals.inj t t']
section
variable {X:Cx} {pins:List (Addr×Obj)} {σ:St} {H:Hp} {s:Shared} {a:Addr} {xs ys:List V}
theorem aC.of {K:PySem.W.Frag} (h:H a=some (.lst xs)):aC K H a xs:=.inl (.inl h)
theorem bJ.of {K:PySem.W.Frag} (h:H a=some (.tup xs)):bJ K H a xs:=.inl (.inl h)
theorem Inv.list (I:Inv X pins σ H s) (h:aC X.K H a xs):∃ ao:List Value,Vals xs ao/\PlainL s.heap a ao.toArray/\xs.length<=sizeLine:=by
 rcases h with h | ⟨o,ao,n,hk,hc,hd,hs,hz,r⟩
 ·obtain ⟨z,ao,n,r,e⟩:=h.ok I.aB;exact ⟨ao,r,⟨_,n,e,rfl,rfl,rfl⟩,z⟩
 ·refine ⟨ao.toList,r,⟨o,n,I.cg a o hk,hc,hd,by simpa using hs⟩,?_⟩;have e:=r.length;simp only [Array.length_toList] at e;omega
theorem Inv.tuple (I:Inv X pins σ H s) (h:bJ X.K H a xs):∃ ao:List Value,Vals xs ao/\IsTup s.heap a ao.toArray/\xs.length<=sizeLine:=by
 rcases h with h | ⟨o,ao,n,hk,hc,hs,hz,r⟩
 ·obtain ⟨z,ao,r,p⟩:=h.ok I.aB;exact ⟨ao,r,p.t,z⟩
 ·refine ⟨ao.toList,r,⟨o,I.cg a o hk,hc,n,by simpa using hs⟩,?_⟩;have e:=r.length;simp only [Array.length_toList] at e;omega
theorem Inv.UN (I:Inv X pins σ H s) (h:aC X.K H a xs) (h':aC X.K H a ys):xs=ys:=by
 obtain ⟨ao,r,⟨o,n,e,_,_,d⟩,_⟩:=I.list h;obtain ⟨its',r',⟨o',n',e',_,_,d'⟩,_⟩:=I.list h';rw [e] at e'; cases e';rw [d] at d';injection d' with d1 _;have:ao=its':=by simpa using congrArg Array.toList d1
 subst this;exact r.inj r'
end
abbrev Cx.ju (X:Cx) (E:Value->Shared->Prop):Cx:={ X with xe:=E }
abbrev Cx.pz (X:Cx):Cx:=X.ju fun _ _=>False
theorem Cx.Ok.ju {X:Cx} (ok:X.Ok) (E:Value->Shared->Prop):(X.ju E).Ok :=
 ⟨ok.mod,ok.kind,ok.glob,ok.blt,ok.above,ok.inj,ok.has,ok.mj,ok.hd,ok.frames,ok.dq,ok.uc,ok.bs,ok.iq,ok.mr,ok.lP,ok.fS,ok.jx⟩
theorem Cx.Ok.lR {X:Cx} {E:Value->Shared->Prop} (ok:(X.ju E).Ok):X.Ok :=
 ⟨ok.mod,ok.kind,ok.glob,ok.blt,ok.above,ok.inj,ok.has,ok.mj,ok.hd,ok.frames,ok.dq,ok.uc,ok.bs,ok.iq,ok.mr,ok.lP,ok.fS,ok.jx⟩
section
variable {X:Cx} {pins:List (Addr×Obj)} {σ:St} {H:Hp} {s:Shared} {E:Value->Shared->Prop}
theorem Inv.ju (I:Inv X pins σ H s) (E:Value->Shared->Prop):Inv (X.ju E) pins σ H s:=⟨I.ok.ju E,I.os,I.bare,I.base,I.loc,I.cell,I.free,I.fY,I.pin,I.aB,I.len⟩
theorem Inv.lR (I:Inv (X.ju E) pins σ H s):Inv X pins σ H s:=⟨I.ok.lR,I.os,I.bare,I.base,I.loc,I.cell,I.free,I.fY,I.pin,I.aB,I.len⟩
theorem SP.lR {D:Ends} {f:Flow} {s':Shared} (h:SP (X.ju E) pins D f s'):SP X pins D f s':=by
 cases f with
 | next=>obtain ⟨σ',H',I,q⟩:=h; exact ⟨σ',H',I.lR,q⟩
 | brk=>obtain ⟨σ',H',I,q⟩:=h; exact ⟨σ',H',I.lR,q⟩
 | cont=>obtain ⟨σ',H',I,q⟩:=h; exact ⟨σ',H',I.lR,q⟩
 | ret u=>obtain ⟨v,σ',H',I,r,q⟩:=h; exact ⟨v,σ',H',I.lR,r,q⟩
theorem dE.pz {st:List Stmt} {t:TS} (h:dE X.pz st t):dE X st t:=fun pins s σ H D I hw =>
 wpAny_mono (h pins s σ H D (I.ju _) hw) (fun _ _ q=>q.lR) fun _ _ z=>False.elim z
end
section
variable {X:Cx} {st:Stmt} {rest:List Stmt} {t u:TS} {e:Expr} {te:TE} {pos:Pos}
def Bv:TS:=fun D σ H=>D.nx σ H
def VH (t u:TS):TS:=fun D σ H=>t { D with nx:=u D } σ H
theorem VL:dE X [] Bv:=fun _ _ σ H _ I h=>wpAny_execs_nil ⟨σ,H,I,h⟩
theorem U3 (h1:PS X st t) (h2:dE X rest u):dE X (st::rest) (VH t u):=by
 intro pins s σ H D I h;refine wpAny_execs_cons (aD (h1 pins s σ H { D with nx:=u D } I h) fun f s1 q=>?_);cases f with
 | next =>
  obtain ⟨σ',H',I',q⟩:=q;exact h2 pins s1 σ' H' D I' q
 | ret v=>exact q
 | brk=>exact q
 | cont=>exact q
theorem W6 (h1:PS X st t):dE X [st] t:=by
 intro pins s σ H D I h;refine wpAny_execs_cons (aD (h1 pins s σ H D I h) fun f s1 q=>?_);cases f with
 | next=>exact wpAny_execs_nil q
 | ret v=>exact q
 | brk=>exact q
 | cont=>exact q
theorem Inv.quiet {pins:List (Addr×Obj)} {σ:St} {H:Hp} {s:Shared} (I:Inv X pins σ H s):interactive X.env=false:=by simp [interactive,I.ok.kind]
def zA (te:TE):TS:=fun D σ H=>te σ H fun _ H1=>D.nx σ H1
theorem Ry (he:PE X e te) (hs:swapsWith e none pos.line X.env=pure false:=by rfl):PS X (.Expr e pos) (zA te):=by
 intro pins s σ H D I h;exact wpAny_Expr_any (aD (he pins s σ H _ I h) fun v s1 ⟨x,H1,I1,r1,q1⟩=>⟨σ,H1,I1,q1⟩) I.quiet hs
def Dn (te:TE):TS:=fun D σ H=>te σ H D.rt
theorem Xe (he:PE X e te):PS X (.Return (some e) pos) (Dn te):=by
 intro pins s σ H D I h;exact wpAny_Return_some (aD (he pins s σ H _ I h) fun v s1 ⟨x,H1,I1,r1,q1⟩=>⟨x,σ,H1,I1,r1,q1⟩)
def Ab:TS:=fun D _ H=>D.rt .au H
theorem OI:PS X (.Return none pos) Ab:=fun _ _ σ H _ I h=>wpAny_Return_none ⟨.au,σ,H,I,rfl,h⟩
def rH (c:TT) (t u:TS):TS:=fun D σ H=>c σ H fun b H1=>if b=true then t D σ H1 else u D σ H1
theorem Ul {c:Expr} {a b:List Stmt} {tc:TT} (hc:PT X c tc) (ha:dE X a t) (hb:dE X b u):PS X (.If c a b pos) (rH tc t u):=by
 intro pins s σ H D I h;refine wpAny_If (aD (hc pins s σ H _ I h) fun d s1 ⟨H1,I1,q1⟩=>?_);cases d with
 | true=>exact ha pins s1 σ H1 D I1 q1
 | false=>exact hb pins s1 σ H1 D I1 q1
def zQ:TS:=fun _ _ _=>False
theorem SR:PS X st zQ:=fun _ _ _ _ _ _ h=>h.elim
end
abbrev TG:=V->St->Hp->(St->Hp->Prop)->Prop
abbrev jm:=List V->St->Hp->(St->Hp->Prop)->Prop
def PG (X:Cx) (target:Expr) (t:TG):Prop :=
 ∀ (pins:List (Addr×Obj)) (s:Shared) (σ:St) (H:Hp) (v:V) (u:Value) (Q:St->Hp->Prop),Inv X pins σ H s->RelV v u->t v σ H Q ->
  wpAny (model X.prog X.w) X.A (assign target X.env u) (fun _ s'=>∃ σ' H',Inv X pins σ' H' s'/\Q σ' H') X.xe s
def ua (X:Cx) (ts:List Expr) (t:jm):Prop :=
 ∀ (pins:List (Addr×Obj)) (s:Shared) (σ:St) (H:Hp) (vs:List V) (us:List Value) (Q:St->Hp->Prop),Inv X pins σ H s->Vals vs us->t vs σ H Q ->
  wpAny (model X.prog X.w) X.A (assignInOrder ((assignEach ts X.env).map (·.2)) us) (fun _ s'=>∃ σ' H',Inv X pins σ' H' s'/\Q σ' H') X.xe s
abbrev wI:=V->V->V->Hp->(Hp->Prop)->Prop
def xb (X:Cx) (t:wI):Prop :=
 ∀ (pins:List (Addr×Obj)) (s:Shared) (σ:St) (H:Hp) (o i v:V) (ov iv u:Value) (Q:Hp->Prop),Inv X pins σ H s->RelV o ov->RelV i iv->RelV v u->t o i v H Q ->
  wpAny (model X.prog X.w) X.A (setItem ov iv u) (fun _ s'=>∃ H',Inv X pins σ H' s'/\Q H') X.xe s
abbrev Z3:=V->V->Hp->VK->Prop
section
variable {X:Cx} {pos:Pos}
def eV (i:Nat):TG:=fun v σ H Q=>Q (σ.set i (some v)) H
theorem Qs {i:Nat} {x:Str} (hN:X.N.Nodup) (hi:X.N[i]?=some x) (hx:Loc X.env.scope x) (hf:X.fn x=true\/X.env.scope.names.lookup x=some .local:=by first | exact .inl rfl | exact .inr rfl | assumption):PG X (.Name x pos) (eV i):=by
 intro pins s σ H v u Q I r h;exact wpAny_assign_Name (Lv I hN hi hx r (fun s' I'=>⟨_,H,I',h⟩) hf)
def zS:jm:=fun vs σ H Q=>vs=[]/\Q σ H
def zM (t:TG) (u:jm):jm:=fun vs σ H Q=>∃ v r,vs=v::r/\t v σ H fun σ' H'=>u r σ' H' Q
theorem Y4:ua X [] zS:=by
 intro pins s σ H vs us Q I r h;obtain ⟨e,h⟩:=h;subst e;cases r;exact assignInOrder_nil ⟨σ,H,I,h⟩
theorem Xm {e:Expr} {es:List Expr} {t:TG} {u:jm} (h1:PG X e t) (h2:ua X es u)
  (hs:(assignEach (e::es) X.env).map (·.2)=assign e X.env::(assignEach es X.env).map (·.2):=by rfl):ua X (e::es) (zM t u):=by
 intro pins s σ H vs us Q I r h;obtain ⟨v,vr,e1,h⟩:=h;subst e1;cases r with
 | cons r rr =>
  rw [hs];refine assignInOrder_cons (aD (h1 pins s σ H _ _ _ I r h) fun _ s1 ⟨σ1,H1,I1,q1⟩=>?_);exact h2 pins s1 σ1 H1 _ _ Q I1 rr q1
def yx (K:PySem.W.Frag) (n:Nat) (t:jm):TG:=fun v σ H Q=>∃ a xs,v=.ref a/\bJ K H a xs/\xs.length=n/\t xs σ H Q
theorem Rm {es:List Expr} {k:Nat} {t:jm} {n:Nat} (hc:X.calm=true) (h:ua X es t)
  (hn:(assignEach es X.env).length=n:=by rfl) (aO:(assignEach es X.env).findIdx? (·.1)=none:=by rfl):PG X (.Tuple es k pos) (yx X.K n t):=by
 intro pins s σ H v u Q I r hw;obtain ⟨a,xs,e1,hq,hl,hw⟩:=hw;subst e1;cases r;obtain ⟨ao,rv,ht,hz⟩:=I.tuple hq;refine assign_Tuple_tuple (I.ok.hd hc) ht (by simp [hn,<- hl,rv.length]) aO fun h' hx=>?_;have I1:Inv X pins σ H { s with heap:=h' }:=I.kept (t':=s.toks) fun b o e=>hx b o (Nat.ne_of_lt (Heap.lt_size e)) e;exact h pins _ σ H xs _ Q I1 (by simpa using rv) hw
def zI (to ti:TE) (t:wI):TG:=fun v σ H Q=>to σ H fun o H1=>ti σ H1 fun i H2=>t o i v H2 fun H3=>Q σ H3
theorem Ts {o i:Expr} {to ti:TE} {t:wI} (ho:PE X o to) (hi:PE X i ti) (hs:xb X t)
  (ha:∀ v,assign (.Subscript o i pos) X.env v=(do
   let ov <- holding [v] (eval o X.env)
   let iv <- holding [v,ov] (eval i X.env)
   standAt pos
   holding [v,ov,iv] (setItem ov iv v)
   release [v,ov,iv] []):=by intro _; rfl):PG X (.Subscript o i pos) (zI to ti t):=by
 intro pins s σ H v u Q I r h;rw [ha];refine wpAny_bind (wpAny_holding (aD (ho pins s σ H _ I h) fun ov s1 ⟨x,H1,I1,r1,q1⟩=>?_));refine wpAny_bind (wpAny_holding (aD (hi pins s1 σ H1 _ I1 q1) fun iv s2 ⟨y,H2,I2,r2,q2⟩=>?_));refine wpAny_bind (wpAny_standAt (wpAny_bind (wpAny_holding (aD (hs pins s2 σ H2 x y v ov iv u _ I2 r1 r2 r q2) fun _ s3 ⟨H3,I3,q3⟩=>?_))));exact wpAny_release ⟨σ,H3,I3,q3⟩
def jt (te:TE) (g:TG):TS:=fun D σ H=>te σ H fun x H1=>g x σ H1 D.nx
theorem Ww {tg e:Expr} {te:TE} {g:TG} (he:PE X e te) (hg:PG X tg g) (hs:swapsWithSole [tg] e pos.line X.env=pure false:=by rfl) (hw:swappedStores [tg] e X.env=pure none:=by rfl)
  (h1:(assignEach [tg] X.env).map (·.2)=[assign tg X.env]:=by rfl):PS X (.Assign [tg] e pos) (jt te g):=by
 intro pins s σ H D I h;refine wpAny_Assign_stores (aD (he pins s σ H _ I h) fun v s1 ⟨x,H1,I1,r1,q1⟩=>?_) hs hw;rw [h1];exact aD (hg pins s1 σ H1 x v _ I1 r1 q1) fun _ s2 q=>q
theorem NU {i:Nat} {x:Str} {e:Expr} {te:TE} {pos':Pos} (hN:X.N.Nodup) (hi:X.N[i]?=some x) (hx:Loc X.env.scope x) (he:PE X e te) (hs:swapsWith e (some (.Name x pos')) pos.line X.env=pure false:=by rfl) (hf:X.fn x=true\/X.env.scope.names.lookup x=some .local:=by first | exact .inl rfl | exact .inr rfl | assumption) :
  PS X (.Assign [.Name x pos'] e pos) (jt te (eV i)):=by
 intro pins s σ H D I h;refine wpAny_Assign_Name (aD (he pins s σ H _ I h) fun v s1 ⟨y,H1,I1,r1,q1⟩=>?_) hs;exact Lv I1 hN hi hx r1 (fun s2 I2=>⟨_,H1,I2,q1⟩) hf
end
section
variable {X:Cx} {pos:Pos}
def FZ (c:TT) (tb:TS):TS:=fun D σ H=>∃ W:Nat->St->Hp->Prop,(∃ m,W m σ H)/\∀ m σ H,W m σ H ->
 c σ H fun b H1=>if b=true then ∃ N:St->Hp->Prop,(∀ σ' H',N σ' H'->∃ m',m' < m/\W m' σ' H')/\tb { D with nx:=N,ct:=N,bk:=D.nx } σ H1 else D.nx σ H1
theorem Qz {c:Expr} {body:List Stmt} {tc:TT} {tb:TS} (hp:PassesOwn (model X.prog X.w) X.A X.env X.xe) (hc:PT X c tc) (hb:dE X body tb):PS X (.While c body [] pos) (FZ tc tb):=by
 intro pins s σ H D I h;obtain ⟨W,⟨m0,w0⟩,turn⟩:=h;refine wpAny_While (codeAny_whileLoop (fun n s'=>∃ σ' H',Inv X pins σ' H' s'/\W n σ' H') ?_ m0 ⟨σ,H,I,w0⟩);rintro n s1 ⟨σ1,H1,I1,w1⟩;refine wpAny_passesOwn hp (aD (hc pins s1 σ1 H1 _ I1 (turn n σ1 H1 w1)) fun b s2 ⟨H2,I2,q2⟩=>?_);cases b with
 | true =>
  obtain ⟨N,hN,q2⟩:=q2;rw [if_pos rfl];refine wpAny_passesOwn hp (aD (hb pins s2 σ1 H2 _ I2 q2) fun f s3 q3=>?_);cases f with
  | next =>
   obtain ⟨σ3,H3,I3,n3⟩:=q3;obtain ⟨m',hm,w3⟩:=hN σ3 H3 n3;exact ⟨m',hm,σ3,H3,I3,w3⟩
  | cont =>
   obtain ⟨σ3,H3,I3,n3⟩:=q3;obtain ⟨m',hm,w3⟩:=hN σ3 H3 n3;exact ⟨m',hm,σ3,H3,I3,w3⟩
  | brk=>exact q3
  | ret v=>exact q3
 | false =>
  rw [if_neg Bool.false_ne_true];exact wpAny_execs_nil ⟨σ1,H2,I2,q2⟩
end
structure It where
 go:Nat->Hp->Prop
 kO:Nat->Hp->V->Hp->Prop
 stop:Nat->Hp->Prop
def kP (X:Cx) (pins:List (Addr×Obj)) (H:Hp) (b:Addr):Prop :=
 H b=none/\b≠X.env.locals/\b ∉ X.fs/\(b∈X.ex\/X.s₀.heap.objs.size<=b)/\(∀ x c,X.env.cells.lookup x=some c->c≠b)/\∀ p∈X.pn++pins,p.1≠b
theorem Inv.CV {X:Cx} {pins:List (Addr×Obj)} {σ:St} {H H':Hp} {s:Shared} {b:Addr} (I:Inv X pins σ H s) (hb:s.heap.objs.size<=b) (hn:H' b=none):kP X pins H' b:=by
 refine ⟨hn,Nat.ne_of_gt (Nat.lt_of_lt_of_le I.lt hb),I.E5 hb,.inr (Nat.le_trans I.sz hb),fun x c e z=>?_,fun p hp z=>?_⟩
 ·obtain ⟨v,q⟩:=I.cell x c e;exact absurd (Nat.lt_of_lt_of_le q.lt (by rw [z]; exact hb)) (Nat.lt_irrefl _)
 ·exact absurd (Nat.lt_of_lt_of_le (Heap.lt_size (I.pin p hp).1) (by rw [z]; exact hb)) (Nat.lt_irrefl _)
structure Turn (P:Program) (w:World) (K:PySem.W.Frag) (tg:Expr) (J:It) (fp:List Addr) (it:Addr) (tn:Nat->Heap->Prop):Prop where
 mem:it∈fp
 obj:∀ i h,tn i h->∀ b∈fp,∃ o,h.get? b=some o/\∀ v,o.data≠.cell v
 keep:∀ i h h',tn i h->(∀ b∈fp,∀ o,h.get? b=some o->h'.get? b=some o)->tn i h'
 item:∀ (X:Cx),X.prog=P->X.w=w->X.K=K->X.calm=true->∀ (i:Nat) (pins:List (Addr×Obj)) (s:Shared) (σ:St) (H:Hp) (E:Value->Shared->Prop),Inv X pins σ H s->(∀ b∈fp,kP X pins H b)->tn i s.heap->J.go i H ->
  wpAny (model P w) X.A (pyNext (.ref it)) (fun r s1=>∃ u,r=some u /\
   wpAny (model P w) X.A (letOwnedTupleGo tg (.ref it) u) (fun _ s2=>∃ x H',Inv X pins σ H' s2/\RelV x u/\J.kO i H x H'/\tn (i+1) s2.heap/\∀ b∈fp,H' b=none) E s1) E s
 done:∀ (X:Cx),X.prog=P->X.w=w->X.K=K->X.calm=true->∀ (i:Nat) (pins:List (Addr×Obj)) (s:Shared) (σ:St) (H:Hp) (E:Value->Shared->Prop),Inv X pins σ H s->(∀ b∈fp,kP X pins H b)->tn i s.heap->J.stop i H ->
  wpAny (model P w) X.A (pyNext (.ref it)) (fun r s1=>r=none/\Inv X pins σ H s1) E s
 self:∀ (A:Around) (i:Nat) (s:Shared) (Q:Value->Shared->Prop) (E:Value->Shared->Prop),tn i s.heap->Q (.ref it) s->wpAny (model P w) A (pyIter (.ref it)) Q E s
abbrev TI:=St->Hp->(It->Hp->Prop)->Prop
def Fg (X:Cx) (pins:List (Addr×Obj)) (σ:St) (tg:Expr) (R:It->Hp->Prop) (Ek:Value) (s2:Shared):Prop :=
 ∃ (it:Addr) (fp:List Addr) (tn:Nat->Heap->Prop) (J:It) (H':Hp),Ek=.ref it/\Inv X pins σ H' s2/\Turn X.prog X.w X.K tg J fp it tn/\tn 0 s2.heap/\(∀ b∈fp,kP X pins H' b)/\R J H'
def PI (X:Cx) (tg iter:Expr) (wi:TI):Prop :=
 ∀ (pins:List (Addr×Obj)) (s:Shared) (σ:St) (H:Hp) (R:It->Hp->Prop),Inv X pins σ H s->wi σ H R ->
  wpAny (model X.prog X.w) X.A (eval iter X.env) (fun v s1=>wpAny (model X.prog X.w) X.A (pyIter v) (Fg X pins σ tg R) X.xe s1) X.xe s
theorem BW {M:Model} {A:Around} {E:Value->Shared->Prop} {s:Shared} {tg:Expr} {it:Addr} {u:Value} {o:Obj} {n:String} {vs:Array Value} {Q:Unit->Shared->Prop} (ho:s.heap.get? it=some o) (hc:o.cls=.type n) (hd:o.data=.fields vs)
  (hn:["enumerate","zip","dict_itemiterator","dict_reverseitemiterator","odict_iterator","itertools.zip_longest","itertools.pairwise"].contains n=false) (hQ:Q () s):wpAny M A (letOwnedTupleGo tg (.ref it) u) Q E s:=by
 unfold letOwnedTupleGo;cases tg <;> first
  | exact wpAny_pure hQ
  | (cases u <;> first
    | exact wpAny_pure hQ
    | (refine wpAny_bind (wpAny_load ho ?_)
       rw [hc,hd];show wpAny M A (if (["enumerate","zip","dict_itemiterator","dict_reverseitemiterator","odict_iterator","itertools.zip_longest","itertools.pairwise"].contains n && vs[0]? == some (rawInt _))=true then _ else _) Q E s;rw [if_neg (by intro h; rw [hn,Bool.false_and] at h; cases h)];exact wpAny_pure hQ))
def iY (K:PySem.W.Frag) (a:Addr):It :=
 ⟨fun i H=>∃ xs x,aC K H a xs/\xs[i]?=some x,fun i H x H'=>H'=H/\∀ xs,aC K H a xs->xs[i]?=some x,fun i H=>∃ xs,aC K H a xs/\xs.length<=i⟩
def lQ (lo:Int) (n:Nat):It:=⟨fun i _=>i < n,fun i H x H'=>H'=H/\x=.int (lo+i),fun i _=>n<=i⟩
theorem UJ {P:Program} {w:World} {K:PySem.W.Frag} {tg:Expr} (a it:Addr):Turn P w K tg (iY K a) [it] it (fun i h=>h.IsListIter it a i) where
 mem:=by simp
 obj:=fun i h st b hb=>by
  have e:b=it:=by simpa using hb
  subst e;obtain ⟨o,e,c,d⟩:=st;exact ⟨o,e,fun v z=>by rw [d] at z; cases z⟩
 keep:=fun i h h' st k=>st.at fun o e=>k it (by simp) o e
 item:=by
  intro X hP hw hK hc i pins s σ H E I hf st hg;subst hP hw hK;obtain ⟨xs,x,hq,hx⟩:=hg;obtain ⟨ao,rv,p,hz⟩:=I.list hq;obtain ⟨u,hu,ru⟩:=rv.get hx;obtain ⟨f0,f1,f2,f3,f4,f5⟩:=hf it (by simp);refine wpAny_pyNext_list_item st p.isList (x:=u) (by simpa using hu) fun h' st' sb=>?_;have I1:Inv X pins σ H { s with heap:=h' }:=I.turned (t':=s.toks) (fun b o hb e=>(sb.2 b hb).trans e) f0 f1 f3 f4 f5;obtain ⟨o,e,c,d⟩:=id st';exact ⟨u,rfl,BW (s:={ s with heap:=h' }) e c d (by decide) ⟨x,H,I1,ru,⟨rfl,fun ys hy=>by rw [I.UN hy hq]; exact hx⟩,st',fun b hb=>(hf b hb).1⟩⟩
 done:=by
  intro X hP hw hK hc i pins s σ H E I hf st hg;subst hP hw hK;obtain ⟨xs,hq,hx⟩:=hg;obtain ⟨ao,rv,p,hz⟩:=I.list hq;obtain ⟨f0,f1,f2,f3,f4,f5⟩:=hf it (by simp);have hl:=rv.length;exact wpAny_pyNext_list_end (I.ok.hd hc) st p.isList (by simp; omega) fun h' eb=>⟨rfl,I.turned (t':=s.toks) (fun b o hb e=>eb b o hb e) f0 f1 f3 f4 f5⟩
 self:=fun _ _ _ _ _ st h=>wpAny_pyIter_listiter st h
theorem Tq {P:Program} {w:World} {K:PySem.W.Frag} {tg:Expr} (it:Addr) (lo:Int) (n:Nat):Turn P w K tg (lQ lo n) [it] it (fun i h=>IsRangeIter h it (lo+(i:Nat) * 1) ((n:Int) - (i:Nat)) 1) where
 mem:=by simp
 obj:=fun i h st b hb=>by
  have e:b=it:=by simpa using hb
  subst e;exact ⟨_,st,fun v z=>by
   have z':Data.fields _=Data.cell v:=z;cases z'⟩
 keep:=fun i h h' st k=>k it (by simp) _ st
 item:=by
  intro X hP hw hK hc i pins s σ H E I hf st hg;subst hP hw hK;obtain ⟨f0,f1,f2,f3,f4,f5⟩:=hf it (by simp);have W:=Walks.range (prog:=X.prog) (w:=X.w) (I.ok.hd hc) it lo 1 n;refine W.item i s _ _ hg st fun v h' tk hv st' kk=>?_;obtain ⟨t,rfl⟩:=hv;have I1:Inv X pins σ H { s with heap:=h',toks:=tk }:=I.turned (fun b o hb e=>kk b o (by simpa using hb) e) f0 f1 f3 f4 f5;refine ⟨_,rfl,BW (s:={ s with heap:=h',toks:=tk }) (n := "range_iterator") st' rfl rfl (by decide) ⟨.int (lo+i),H,I1,⟨t,?_⟩,⟨rfl,rfl⟩,st',fun b hb=>(hf b hb).1⟩⟩;rw [Int.mul_one]
 done:=by
  intro X hP hw hK hc i pins s σ H E I hf st hg;subst hP hw hK;obtain ⟨f0,f1,f2,f3,f4,f5⟩:=hf it (by simp);exact wpAny_pyNext_range_end (I.ok.hd hc) st (by have:n<=i:=hg; omega) fun h' eb=>⟨rfl,I.turned (t':=s.toks) (fun b o hb e=>eb b o hb e) f0 f1 f3 f4 f5⟩
 self:=fun _ _ _ _ _ st h=>wpAny_pyIter_rangeiter st h
section
variable {X:Cx} {tg:Expr}
def XE (K:PySem.W.Frag) (tl:TE):TI:=fun σ H R=>tl σ H fun x H1=>∃ a,x=.ref a/\(∃ xs,aC K H1 a xs)/\R (iY K a) H1
theorem OK {l:Expr} {tl:TE} (hl:PE X l tl):PI X tg l (XE X.K tl):=by
 intro pins s σ H R I h;refine aD (hl pins s σ H _ I h) fun v s1 ⟨x,H1,I1,r1,q1⟩=>?_;obtain ⟨a,e,⟨xs,hq⟩,q⟩:=q1;subst e;cases r1;obtain ⟨ao,rv,p,hz⟩:=I1.list hq;refine wpAny_pyIter_list p.isList ?_;refine ⟨s1.heap.objs.size,[s1.heap.objs.size],_,_,H1,rfl,I1.kept (t':=s1.toks) fun b o e=>Heap.get?_push_of_some _ e,UJ a _,⟨_,Heap.get?_push_size _ rfl,rfl,rfl⟩,fun b hb=>?_,q⟩;have e:b=s1.heap.objs.size:=by simpa using hb
 subst e;exact I1.CV (Nat.le_refl _) (I1.aB.fresh (Nat.le_refl _))
theorem OT {pins:List (Addr×Obj)} {σ:St} {H:Hp} {s:Shared} {R:It->Hp->Prop} {E:Value->Shared->Prop} {lo hi:Int} {t u v:Tok} {tk:Nat} (I:Inv X pins σ H s) (h1:-(2 ^ 62)<=lo) (h2:lo < 2 ^ 62) (h3:-(2 ^ 62)<=hi) (h4:hi < 2 ^ 62)
  (q:R (lQ lo (hi - lo).toNat) H):wpAny (model X.prog X.w) X.A (pyIter (.ref s.heap.objs.size)) (Fg X pins σ tg R) E { s with heap:=s.heap.push { cls:=.type "range",data:=.fields #[.int lo t,.int hi u,.int 1 v] },toks:=tk }:=by
 refine wpAny_pyIter_range (IsRange.new ..) (small_one h1 h2 h3 h4) ?_;have I1:Inv X pins σ H { s with heap:=s.heap.push { cls:=.type "range",data:=.fields #[.int lo t,.int hi u,.int 1 v] },toks:=tk }:=I.kept fun b o e=>Heap.get?_push_of_some _ e;refine ⟨(s.heap.push { cls:=.type "range",data:=.fields #[.int lo t,.int hi u,.int 1 v] }).objs.size,[(s.heap.push { cls:=.type "range",data:=.fields #[.int lo t,.int hi u,.int 1 v] }).objs.size],_,_,H,rfl,
  I1.kept (t':=tk) fun b o e=>Heap.get?_push_of_some _ e,Tq _ lo (hi - lo).toNat,?_,fun b hb=>?_,q⟩
 ·have e1:lo+((0:Nat):Int) * 1=lo:=by simp
  have e2:(((hi - lo).toNat:Nat):Int) - ((0:Nat):Int)=Builtin.Range.rangeSize lo hi 1:=by rw [rangeSize_one]; split <;> omega
  show IsRangeIter _ _ (lo+((0:Nat):Int) * 1) ((((hi - lo).toNat:Nat):Int) - ((0:Nat):Int)) 1;rw [e1,e2];exact Heap.get?_push_size _ rfl
 ·have e:b=(s.heap.push { cls:=.type "range",data:=.fields #[.int lo t,.int hi u,.int 1 v] }).objs.size:=by simpa using hb
  subst e;exact I1.CV (Nat.le_refl _) (I1.aB.fresh (Nat.le_refl _))
def Zl (ta:TA):TI:=fun σ H R=>ta σ H fun vs H1=>∃ j:Int,vs=[.int j]/\-(2 ^ 62)<=j/\j < 2 ^ 62/\R (lQ 0 j.toNat) H1
theorem Sn {a:Expr} {ta:TA} {p pos:Pos} (hg:Gl X "range") (hm:X.mg "range" = none) (ha:PA X [a] ta) (hs:starEach [a] X.env=[(false,eval a X.env)]:=by rfl):PI X tg (.Call (.Name "range" p) [a] [] pos) (Zl ta):=by
 intro pins s σ H R I h;refine Call_ (nY I hg hm boot_range (PyProof.Rows.callWith_type1 (aD (ha pos pins s σ H _ I h) fun us s1 ⟨vs,H1,I1,r1,q1⟩=>?_) hs rfl));obtain ⟨j,e,q1,q2,q⟩:=q1;subst e;cases r1 with
 | cons r rr =>
  cases rr;obtain ⟨t,rfl⟩:=r;exact call_range_1 (OT I1 (by omega) (by omega) q1 q2 (by simpa using q))
def vw (wi:TI) (g:TG) (tb:TS):TS:=fun D σ H=>wi σ H fun J H1=>∃ W:Nat->Nat->St->Hp->Prop,(∃ m,W 0 m σ H1)/\∀ i m σ H,W i m σ H ->
 (J.stop i H/\D.nx σ H)\/(J.go i H/\∃ N:St->Hp->Prop,(∀ σ' H',N σ' H'->∃ m',m' < m/\W (i+1) m' σ' H')/\∀ x H',J.kO i H x H'->g x σ H' fun σ2 H2=>tb { D with nx:=N,ct:=N,bk:=D.nx } σ2 H2)
def sY (fp:List Addr) (h:Heap):List (Addr×Obj):=fp.filterMap fun b=>(h.get? b).map fun o=>(b,o)
theorem v8 {fp:List Addr} {h:Heap} {b:Addr} {o:Obj} (hb:b∈fp) (e:h.get? b=some o):(b,o)∈sY fp h:=List.mem_filterMap.mpr ⟨b,hb,by rw [e]; rfl⟩
theorem ZP {fp:List Addr} {h:Heap} {p:Addr×Obj} (hp:p∈sY fp h):p.1∈fp/\h.get? p.1=some p.2:=by
 obtain ⟨b,hb,e⟩:=List.mem_filterMap.mp hp;cases q:h.get? b with
 | none=>rw [q] at e; cases e
 | some o =>
  rw [q] at e;have e':(b,o)=p:=Option.some.inj e;subst e';exact ⟨hb,q⟩
theorem Inv.pinned {pins:List (Addr×Obj)} {σ:St} {H:Hp} {s:Shared} {fp:List Addr} (I:Inv X pins σ H s) (hf:∀ b∈fp,kP X pins H b) (ho:∀ b∈fp,∃ o,s.heap.get? b=some o/\∀ v,o.data≠.cell v):Inv X (pins++sY fp s.heap) σ H s :=
 I.rM fun p hp=>(List.mem_append.mp hp).elim (fun z=>I.pin p (List.mem_append_right _ z)) fun z=>by
  obtain ⟨hb,e⟩:=ZP z;obtain ⟨f0,f1,f2,_⟩:=hf p.1 hb;obtain ⟨o,e',d⟩:=ho p.1 hb;rw [e] at e'; cases e';exact ⟨e,f0,f1,f2,d⟩
theorem Inv.BQ {pins pl:List (Addr×Obj)} {σ:St} {H:Hp} {s:Shared} (I:Inv X (pins++pl) σ H s):Inv X pins σ H s:=I.rM fun p hp=>I.pin p (List.mem_append_right _ (List.mem_append_left _ hp))
theorem W7 {iter:Expr} {body:List Stmt} {wi:TI} {g:TG} {tb:TS} {pos:Pos} (hp:PassesOwn (model X.prog X.w) X.A X.env X.xe) (hc:X.calm=true) (hi:PI X tg iter wi) (hg:PG X tg g) (hb:dE X body tb)
  (hs:∀ x,foldedSetIterable iter X.env x=pure x:=by intro _; rfl):PS X (.For tg iter body [] pos) (vw wi g tb):=by
 intro pins s σ H D I h;refine wpAny_For (aD (hi pins s σ H _ I h) fun v s1 h1=>aD h1 fun Ek s2 h2=>?_) hs;obtain ⟨it,fp,tn,J,H2,e,I2,T,fO,f2,W,⟨m0,w0⟩,turn⟩:=h2;subst e
 -- what stays true of ib iterator's objects through ib loop
 have EB:∀ {H':Hp},(∀ b∈fp,H' b=none)->∀ b∈fp,kP X pins H' b:=fun hn b hb=>⟨hn b hb,(f2 b hb).2⟩;refine codeAny_forLoop_any (fun n s'=>∃ i σ' H',Inv X pins σ' H' s'/\tn i s'.heap/\(∀ b∈fp,H' b=none)/\W i n σ' H') ?_ m0 ⟨0,σ,H2,I2,fO,fun b hb=>(f2 b hb).1,w0⟩;rintro n s3 ⟨i,σ3,H3,I3,LQ,yg,w3⟩;rcases turn i n σ3 H3 w3 with ⟨stop,qn⟩ | ⟨go,N,hN,step⟩
 ·refine wpAny_passesOwn hp (aD (T.done X rfl rfl rfl hc i pins s3 σ3 H3 X.xe I3 (EB yg) LQ stop) fun r s4 ⟨hr,I4⟩=>?_);subst hr;exact wpAny_execs_nil ⟨σ3,H3,I4,qn⟩
 ·refine wpAny_passesOwn hp (aD (T.item X rfl rfl rfl hc i pins s3 σ3 H3 X.xe I3 (EB yg) LQ go) fun r s4 ⟨u,hr,h4⟩=>?_);subst hr;refine wpAny_passesOwn hp (aD h4 fun _ s5 ⟨x,H5,I5,r5,y5,qT,xV⟩=>?_);have I5':=I5.pinned (EB xV) (T.obj _ _ qT);refine wpAny_passesOwn hp (aD (hg _ s5 σ3 H5 x u _ I5' r5 (step x H5 y5)) fun _ s6 ⟨σ6,H6,I6,q6⟩=>?_);refine wpAny_passesOwn hp (aD (hb _ s6 σ6 H6 _ I6 q6) fun f s7 q7=>?_);have again:∀ {σ7:St} {H7:Hp},Inv X (pins++sY fp s5.heap) σ7 H7 s7->N σ7 H7->∃ m,m < n/\∃ i σ' H',Inv X pins σ' H' s7/\tn i s7.heap/\(∀ b∈fp,H' b=none)/\W i m σ' H':=fun {σ7 H7} I7 n7=>by
   obtain ⟨m',hm,w7⟩:=hN σ7 H7 n7;refine ⟨m',hm,i+1,σ7,H7,I7.BQ,T.keep _ _ _ qT fun b hb o e=>(I7.pin (b,o) (List.mem_append_right _ (List.mem_append_right _ (v8 hb e)))).1,fun b hb=>?_,w7⟩;obtain ⟨o,e,d⟩:=T.obj _ _ qT b hb;exact (I7.pin (b,o) (List.mem_append_right _ (List.mem_append_right _ (v8 hb e)))).2.1
  cases f with
  | next=>obtain ⟨σ7,H7,I7,n7⟩:=q7; exact again I7 n7
  | cont=>obtain ⟨σ7,H7,I7,n7⟩:=q7; exact again I7 n7
  | brk=>obtain ⟨σ7,H7,I7,q7⟩:=q7; exact ⟨σ7,H7,I7.BQ,q7⟩
  | ret v=>obtain ⟨x7,σ7,H7,I7,r7,q7⟩:=q7; exact ⟨x7,σ7,H7,I7.BQ,r7,q7⟩
end
theorem OG {K:PySem.W.Frag} {a:Addr} {xs:List V} {g:TG} {tb:TS} {D:Ends} {σ:St} {H:Hp} (Pv:Nat->St->Hp->Prop) (h0:Pv 0 σ H) (hl:∀ i σ H,i<=xs.length->Pv i σ H->aC K H a xs)
  (hs:∀ i x σ H,xs[i]?=some x->Pv i σ H->g x σ H fun σ2 H2=>tb { D with nx:=Pv (i+1),ct:=Pv (i+1),bk:=D.nx } σ2 H2) (hd:∀ σ H,Pv xs.length σ H->D.nx σ H) :
  ∃ W:Nat->Nat->St->Hp->Prop,(∃ m,W 0 m σ H)/\∀ i m σ H,W i m σ H ->
   ((iY K a).stop i H/\D.nx σ H)\/((iY K a).go i H/\∃ N:St->Hp->Prop,(∀ σ' H',N σ' H'->∃ m',m' < m/\W (i+1) m' σ' H')/\∀ x H',(iY K a).kO i H x H'->g x σ H' fun σ2 H2=>tb { D with nx:=N,ct:=N,bk:=D.nx } σ2 H2):=by
 refine ⟨fun i m σ H=>m=xs.length - i/\i<=xs.length/\Pv i σ H,⟨xs.length,by simp,Nat.zero_le _,h0⟩,?_⟩;rintro i m σ H ⟨rfl,hi,p⟩;have q:=hl i σ H hi p;by_cases b8:i < xs.length
 ·refine .inr ⟨⟨xs,xs[i],q,by simp [b8]⟩,Pv (i+1),fun σ' H' p'=>⟨xs.length - (i+1),by omega,rfl,b8,p'⟩,fun x H' y=>?_⟩;obtain ⟨e,y⟩:=y;subst e;exact hs i x σ _ (y xs q) p
 ·have e:i=xs.length:=by omega
  subst e;exact .inl ⟨⟨xs,q,Nat.le_refl _⟩,hd σ H p⟩
theorem Zx {lo:Int} {n:Nat} {g:TG} {tb:TS} {D:Ends} {σ:St} {H:Hp} (Pv:Nat->St->Hp->Prop) (h0:Pv 0 σ H)
  (hs:∀ i σ H,i < n->Pv i σ H->g (.int (lo+i)) σ H fun σ2 H2=>tb { D with nx:=Pv (i+1),ct:=Pv (i+1),bk:=D.nx } σ2 H2) (hd:∀ σ H,Pv n σ H->D.nx σ H) :
  ∃ W:Nat->Nat->St->Hp->Prop,(∃ m,W 0 m σ H)/\∀ i m σ H,W i m σ H ->
   ((lQ lo n).stop i H/\D.nx σ H)\/((lQ lo n).go i H/\∃ N:St->Hp->Prop,(∀ σ' H',N σ' H'->∃ m',m' < m/\W (i+1) m' σ' H')/\∀ x H',(lQ lo n).kO i H x H'->g x σ H' fun σ2 H2=>tb { D with nx:=N,ct:=N,bk:=D.nx } σ2 H2):=by
 refine ⟨fun i m σ H=>m=n - i/\i<=n/\Pv i σ H,⟨n,by simp,Nat.zero_le _,h0⟩,?_⟩;rintro i m σ H ⟨rfl,hi,p⟩;by_cases b8:i < n
 ·refine .inr ⟨b8,Pv (i+1),fun σ' H' p'=>⟨n - (i+1),by omega,rfl,b8,p'⟩,fun x H' y=>?_⟩;obtain ⟨e,y⟩:=y;subst e y;exact hs i σ _ b8 p
 ·have e:i=n:=by omega
  subst e;exact .inl ⟨Nat.le_refl _,hd σ H p⟩
abbrev R2:=V->V->Hp->VK->Prop
def bg (X:Cx) (f:Value->Value->Sem Value) (r:R2):Prop :=
 ∀ (pins:List (Addr×Obj)) (s:Shared) (σ:St) (H:Hp) (x y:V) (v u:Value) (Q:VK),Inv X pins σ H s->RelV x v->RelV y u->r x y H Q ->
  wpAny (model X.prog X.w) X.A (f v u) (EP X pins σ Q) X.xe s
def tw (X:Cx) (f:Value->Sem Value) (r:V->Hp->VK->Prop):Prop :=
 ∀ (pins:List (Addr×Obj)) (s:Shared) (σ:St) (H:Hp) (x:V) (v:Value) (Q:VK),Inv X pins σ H s->RelV x v->r x H Q ->
  wpAny (model X.prog X.w) X.A (f v) (EP X pins σ Q) X.xe s
def cI (X:Cx) (f:Value) (r:List V->Hp->VK->Prop):Prop :=
 ∀ (pins:List (Addr×Obj)) (s:Shared) (σ:St) (H:Hp) (xs:List V) (us:List Value) (Q:VK),Inv X pins σ H s->Vals xs us->r xs H Q ->
  wpAny (model X.prog X.w) X.A (call f us) (EP X pins σ Q) X.xe s
def ir (r:R2) (ta tb:TE):TE:=fun σ H Q=>ta σ H fun x H1=>tb σ H1 fun y H2=>r x y H2 Q
def BE (r:V->Hp->VK->Prop) (ta:TE):TE:=fun σ H Q=>ta σ H fun x H1=>r x H1 Q
def rI (C:Int->Int->Prop) (g:Int->Int->V):R2:=fun x y H Q=>∃ i j,x=.int i/\y=.int j/\C i j/\Q (g i j) H
def ng (g:Int->Int->V):R2:=fun x y H Q=>∃ i j,x=.int i/\y=.int j/\Q (g i j) H
def rU (g:Int->V):V->Hp->VK->Prop:=fun x H Q=>∃ i,x=.int i/\Q (g i) H
section
variable {X:Cx} {a b c:Expr} {ta tb tc:TE} {pos:Pos}
theorem Aa (ha:PE X a ta) (hb:PE X b tb) {pins:List (Addr×Obj)} {s:Shared} {σ:St} {H:Hp} {R:V->V->Hp->Prop} (I:Inv X pins σ H s)
  (h:ta σ H fun x H1=>tb σ H1 fun y H2=>R x y H2) {Q:Value->Shared->Prop} {f:Value->Value->Sem Value}
  (hf:∀ v u s2 x y H2,Inv X pins σ H2 s2->RelV x v->RelV y u->R x y H2->wpAny (model X.prog X.w) X.A (f v u) Q X.xe s2) :
  wpAny (model X.prog X.w) X.A (eval a X.env) (fun v s₁=>wpAny (model X.prog X.w) X.A (eval b X.env) (fun u s₂=>wpAny (model X.prog X.w) X.A (f v u) Q X.xe s₂) X.xe s₁) X.xe s:=by
 refine aD (ha pins s σ H _ I h) fun v s1 ⟨x,H1,I1,r1,q1⟩=>?_;refine aD (hb pins s1 σ H1 _ I1 q1) fun u s2 ⟨y,H2,I2,r2,q2⟩=>?_;exact hf v u s2 x y H2 I2 r1 r2 q2
theorem Pp {op:Operator} {r:R2} (ho:bg X (binaryOp op) r) (ha:PE X a ta) (hb:PE X b tb):PE X (.BinOp a op b pos) (ir r ta tb):=by
 intro pins s σ H Q I h;exact wpAny_BinOp (Aa ha hb I h fun v u s2 x y H2 I2 rx ry q=>ho pins s2 σ H2 x y v u Q I2 rx ry q)
theorem Zd {op:UnaryOp} {r:V->Hp->VK->Prop} (ho:tw X (unaryOp op) r) (ha:PE X a ta):PE X (.UnaryOp op a pos) (BE r ta):=by
 intro pins s σ H Q I h;exact UnaryOp_ (aD (ha pins s σ H _ I h) fun v s1 ⟨x,H1,I1,r1,q1⟩=>ho pins s1 σ H1 x v Q I1 r1 q1)
theorem yL {f:Value->Value->Sem Value} {C:Int->Int->Prop} {g:Int->Int->Int}
  (rule:∀ (i j:Int) (t u:Tok) (s:Shared) (Q:Value->Shared->Prop) (E:Value->Shared->Prop),C i j->Q (.int (g i j) s.toks) { s with toks:=s.toks+1 }->wpAny (model X.prog X.w) X.A (f (.int i t) (.int j u)) Q E s) :
  bg X f (rI C fun i j=>.int (g i j)):=by
 intro pins s σ H x y v u Q I rx ry h;obtain ⟨i,j,rfl,rfl,hc,q⟩:=h;obtain ⟨t,rfl⟩:=rx;obtain ⟨t',rfl⟩:=ry;exact rule i j t t' s _ _ hc ⟨.int (g i j),H,I.tok _,⟨_,rfl⟩,q⟩
theorem Tg {f:Value->Value->Sem Value} {g:Int->Int->Int}
  (rule:∀ (i j:Int) (t u:Tok) (s:Shared) (Q:Value->Shared->Prop) (E:Value->Shared->Prop),Q (.int (g i j) s.toks) { s with toks:=s.toks+1 }->wpAny (model X.prog X.w) X.A (f (.int i t) (.int j u)) Q E s) :
  bg X f (ng fun i j=>.int (g i j)):=by
 intro pins s σ H x y v u Q I rx ry h;obtain ⟨i,j,rfl,rfl,q⟩:=h;obtain ⟨t,rfl⟩:=rx;obtain ⟨t',rfl⟩:=ry;exact rule i j t t' s _ _ ⟨.int (g i j),H,I.tok _,⟨_,rfl⟩,q⟩
theorem yT {f:Value->Value->Sem Value} {g:Int->Int->Bool}
  (rule:∀ (i j:Int) (t u:Tok) (s:Shared) (Q:Value->Shared->Prop) (E:Value->Shared->Prop),Q (.bool (g i j)) s->wpAny (model X.prog X.w) X.A (f (.int i t) (.int j u)) Q E s) :
  bg X f (ng fun i j=>.bl (g i j)):=by
 intro pins s σ H x y v u Q I rx ry h;obtain ⟨i,j,rfl,rfl,q⟩:=h;obtain ⟨t,rfl⟩:=rx;obtain ⟨t',rfl⟩:=ry;exact rule i j t t' s _ _ ⟨.bl (g i j),H,I,rfl,q⟩
def Ki (i j:Int):Prop:=0 < j/\j < 1073741824
def wQ (i j:Int):Prop:=(-(2 ^ 64) < i/\i < 2 ^ 64)\/(-(2 ^ 64) < j/\j < 2 ^ 64)
theorem wQ.ok {i j:Int} (h:wQ i j):IntMulOk i j:=by
 rcases h with ⟨h1,h2⟩ | ⟨h1,h2⟩
 ·exact .of_left (intBits_le_64 h1 h2)
 ·exact .of_right (intBits_le_64 h1 h2)
theorem U1:bg X (binaryOp .Add) (ng fun i j=>.int (i+j)):=Tg fun _ _ _ _ _ _ _ q=>add_int q
theorem Yo:bg X (binaryOp .Mult) (rI wQ fun i j=>.int (i * j)):=yL fun _ _ _ _ _ _ _ hc q=>mul_int q hc.ok
theorem WE:bg X (binaryOp .FloorDiv) (rI Ki fun i j=>.int (i / j)):=yL fun i j _ _ _ _ _ hc q=>by
 have h1:(0:Int) < j:=hc.1;have h2:j < 1073741824:=hc.2;exact floordiv_int (by omega) (by rw [Int.fdiv_eq_ediv_of_nonneg i (by omega)]; exact q) (.inl (PyProof.noPylong_small (by omega)))
theorem ZJ:bg X (binaryOp .Mod) (rI (fun _ j=>0 < j) fun i j=>.int (i % j)):=yL fun i j _ _ _ _ _ hc q=>by
 have h1:(0:Int) < j:=hc;exact mod_int' (by omega) (by rw [Int.fmod_eq_emod_of_nonneg i (by omega)]; exact q)
theorem WY {f:Value->Sem Value} {g:Int->Int}
  (rule:∀ (i:Int) (t:Tok) (s:Shared) (Q:Value->Shared->Prop) (E:Value->Shared->Prop),Q (.int (g i) s.toks) { s with toks:=s.toks+1 }->wpAny (model X.prog X.w) X.A (f (.int i t)) Q E s) :
  tw X f (rU fun i=>.int (g i)):=by
 intro pins s σ H x v Q I rx h;obtain ⟨i,rfl,q⟩:=h;obtain ⟨t,rfl⟩:=rx;exact rule i t s _ _ ⟨.int (g i),H,I.tok _,⟨_,rfl⟩,q⟩
theorem Zh:tw X (unaryOp .USub) (rU fun i=>.int (-i)):=WY fun _ _ _ _ _ q=>neg_int q
end
def xC:V->V->Bool
 | .au,.au=>true | .au,.int _=>true | .int _,.au=>true | .au,.bl _=>true | .bl _,.au=>true | .au,.str _=>true | .str _,.au=>true
 | .int _,.int _=>true | .bl _,.bl _=>true | .str _,.str _=>true | .byt _,.byt _=>true
 | .int _,.str _=>true | .str _,.int _=>true | .bl _,.str _=>true | .str _,.bl _=>true
 | _,_=>false
def R1:R2:=fun x y H Q=>xC x y=true/\Q (.bl (decide (x=y))) H
def N6:R2:=fun x y H Q=>xC x y=true/\Q (.bl (!decide (x=y))) H
theorem G7 {i j:Int}:decide (V.int i=V.int j)=(i == j):=by
 rw [Bool.eq_iff_iff];simp
theorem JA {i j:Bool}:decide (V.bl i=V.bl j)=(i == j):=by
 rw [Bool.eq_iff_iff];simp
theorem Ir {i j:Str}:decide (V.str i=V.str j)=(i == j):=by
 rw [Bool.eq_iff_iff];simp
theorem FR {i j:Array UInt8}:decide (V.byt i=V.byt j)=(i.toList == j.toList):=by
 rw [Bool.eq_iff_iff];cases i;cases j;simp
section
variable {X:Cx} {a b c:Expr} {ta tb tc:TE} {pos:Pos}
theorem cx {pins:List (Addr×Obj)} {σ:St} {H:Hp} {s:Shared} {Q:VK} {k k':Bool} (I:Inv X pins σ H s) (q:Q (.bl k) H) (e:k=k'):EP X pins σ Q (.bool k') s:=by
 subst e;exact ⟨.bl k,H,I,rfl,q⟩
theorem Y9:bg X (compareOp .Eq) R1:=by
 intro pins s σ H x y v u Q I rx ry h;obtain ⟨hs,q⟩:=h;cases x with
 | au =>
  cases rx;cases y with
  | au=>cases ry; exact PySem.EqNone.eq_none_none (cx I q (by simp))
  | bl j=>cases ry; exact PySem.EqNone.eq_none_bool (cx I q (by simp))
  | int j=>obtain ⟨t',rfl⟩:=ry; exact PySem.EqNone.eq_none_int (cx I q (by simp))
  | str j=>obtain ⟨t',rfl⟩:=ry; exact PySem.EqNone.eq_none_str (cx I q (by simp))
  | _=>exact absurd (show false=true from hs) Bool.false_ne_true
 | bl i =>
  cases rx;cases y with
  | au=>cases ry; exact PySem.EqNone.eq_bool_none (cx I q (by simp))
  | bl j=>cases ry; exact eq_bool (cx I q JA)
  | str j=>obtain ⟨t',rfl⟩:=ry; exact PySem.EqMixed.eq_bool_str (cx I q (by simp))
  | _=>exact absurd (show false=true from hs) Bool.false_ne_true
 | int i =>
  obtain ⟨t,rfl⟩:=rx;cases y with
  | au=>cases ry; exact PySem.EqNone.eq_int_none (cx I q (by simp))
  | int j=>obtain ⟨t',rfl⟩:=ry; exact eq_int (cx I q G7)
  | str j=>obtain ⟨t',rfl⟩:=ry; exact PySem.EqMixed.eq_int_str (cx I q (by simp))
  | _=>exact absurd (show false=true from hs) Bool.false_ne_true
 | str i =>
  obtain ⟨t,rfl⟩:=rx;cases y with
  | au=>cases ry; exact PySem.EqNone.eq_str_none (cx I q (by simp))
  | bl j=>cases ry; exact PySem.EqMixed.eq_str_bool (cx I q (by simp))
  | int j=>obtain ⟨t',rfl⟩:=ry; exact PySem.EqMixed.eq_str_int (cx I q (by simp))
  | str j=>obtain ⟨t',rfl⟩:=ry; exact eq_str (cx I q Ir)
  | _=>exact absurd (show false=true from hs) Bool.false_ne_true
 | byt i =>
  obtain ⟨t,rfl⟩:=rx;cases y with
  | byt j=>obtain ⟨t',rfl⟩:=ry; exact PySem.W.eq_bytes (cx I q FR)
  | _=>exact absurd (show false=true from hs) Bool.false_ne_true
 | _=>cases y <;> exact absurd (show false=true from hs) Bool.false_ne_true
theorem S2:bg X (compareOp .NotEq) N6:=by
 intro pins s σ H x y v u Q I rx ry h;obtain ⟨hs,q⟩:=h;cases x with
 | au =>
  cases rx;cases y with
  | au=>cases ry; exact PySem.EqNone.ne_none_none (cx I q (by simp))
  | bl j=>cases ry; exact PySem.EqNone.ne_none_bool (cx I q (by simp))
  | int j=>obtain ⟨t',rfl⟩:=ry; exact PySem.EqNone.ne_none_int (cx I q (by simp))
  | str j=>obtain ⟨t',rfl⟩:=ry; exact PySem.EqNone.ne_none_str (cx I q (by simp))
  | _=>exact absurd (show false=true from hs) Bool.false_ne_true
 | bl i =>
  cases rx;cases y with
  | au=>cases ry; exact PySem.EqNone.ne_bool_none (cx I q (by simp))
  | bl j=>cases ry; exact ne_bool (cx I q (congrArg not JA))
  | str j=>obtain ⟨t',rfl⟩:=ry; exact PySem.EqMixed.ne_bool_str (cx I q (by simp))
  | _=>exact absurd (show false=true from hs) Bool.false_ne_true
 | int i =>
  obtain ⟨t,rfl⟩:=rx;cases y with
  | au=>cases ry; exact PySem.EqNone.ne_int_none (cx I q (by simp))
  | int j=>obtain ⟨t',rfl⟩:=ry; exact ne_int (cx I q (congrArg not G7))
  | str j=>obtain ⟨t',rfl⟩:=ry; exact PySem.EqMixed.ne_int_str (cx I q (by simp))
  | _=>exact absurd (show false=true from hs) Bool.false_ne_true
 | str i =>
  obtain ⟨t,rfl⟩:=rx;cases y with
  | au=>cases ry; exact PySem.EqNone.ne_str_none (cx I q (by simp))
  | bl j=>cases ry; exact PySem.EqMixed.ne_str_bool (cx I q (by simp))
  | int j=>obtain ⟨t',rfl⟩:=ry; exact PySem.EqMixed.ne_str_int (cx I q (by simp))
  | str j=>obtain ⟨t',rfl⟩:=ry; exact ne_str (cx I q (congrArg not Ir))
  | _=>exact absurd (show false=true from hs) Bool.false_ne_true
 | byt i =>
  obtain ⟨t,rfl⟩:=rx;cases y with
  | byt j=>obtain ⟨t',rfl⟩:=ry; exact PySem.W.ne_bytes (cx I q (congrArg not FR))
  | _=>exact absurd (show false=true from hs) Bool.false_ne_true
 | _=>cases y <;> exact absurd (show false=true from hs) Bool.false_ne_true
theorem OH:bg X (compareOp .Lt) (ng fun i j=>.bl (decide (i < j))):=yT fun _ _ _ _ _ _ _ q=>lt_int q
theorem Uv:bg X (compareOp .LtE) (ng fun i j=>.bl (decide (i<=j))):=yT fun _ _ _ _ _ _ _ q=>le_int q
theorem Tj:bg X (compareOp .Gt) (ng fun i j=>.bl (decide (j < i))):=yT fun _ _ _ _ _ _ _ q=>gt_int q
theorem ZH:bg X (compareOp .In) (fun x y H Q=>∃ i j,x=.str i/\y=.str j/\Q (.bl (!(Builtin.Str.occurrences j i 0 j.length 1).isEmpty)) H):=by
 intro pins s σ H x y v u Q I rx ry h;obtain ⟨i,j,rfl,rfl,q⟩:=h;obtain ⟨t,rfl⟩:=rx;obtain ⟨t',rfl⟩:=ry;exact in_str (cx I q rfl)
theorem qk:bg X (compareOp .Is) (fun x y H Q=>y=.au/\Q (.bl (decide (x=.au))) H):=by
 intro pins s σ H x y v u Q I rx ry h;obtain ⟨rfl,q⟩:=h;cases ry;refine is_none_gen (cx I q ?_);cases x <;> first
  | (cases rx; rfl)
  | (obtain ⟨t,rfl⟩:=rx; rfl)
theorem nB:bg X (compareOp .IsNot) (fun x y H Q=>y=.au/\Q (.bl (!decide (x=.au))) H):=by
 intro pins s σ H x y v u Q I rx ry h;obtain ⟨rfl,q⟩:=h;cases ry;refine isnot_none_gen (cx I q ?_);cases x <;> first
  | (cases rx; rfl)
  | (obtain ⟨t,rfl⟩:=rx; rfl)
theorem bg.or {f:Value->Value->Sem Value} {r r':R2} (h:bg X f r) (h':bg X f r'):bg X f (fun x y H Q=>r x y H Q\/r' x y H Q):=by
 intro pins s σ H x y v u Q I rx ry q;rcases q with q | q
 ·exact h pins s σ H x y v u Q I rx ry q
 ·exact h' pins s σ H x y v u Q I rx ry q
theorem PB {op:CmpOp} {r:R2} (ho:bg X (compareOp op) r) (ha:PE X a ta) (hb:PE X b tb) (hm:behindInMarks op b=false):PE X (.Compare a [op] [b] pos) (ir r ta tb):=by
 intro pins s σ H Q I h;exact wpAny_Compare1 (Aa ha hb I h fun v u s2 x y H2 I2 rx ry q=>ho pins s2 σ H2 x y v u Q I2 rx ry q) hm
theorem tG:(sizeLine:Nat) < 2 ^ 63:=by rw [sizeLine_eq]; decide
theorem OJ:bg X (binaryOp .Add) (fun x y H Q=>∃ i j,x=.str i/\y=.str j/\i.length+j.length<=sizeLine/\Q (.str (i++j)) H):=by
 intro pins s σ H x y v u Q I rx ry h;obtain ⟨i,j,rfl,rfl,hz,q⟩:=h;obtain ⟨t,rfl⟩:=rx;obtain ⟨t',rfl⟩:=ry;exact add_str (fun t' tk=>⟨.str (i++j),H,I.tok _,⟨_,rfl⟩,q⟩) hz
theorem vals1 {x:V} {us:List Value} (r:Vals [x] us):∃ u,us=[u]/\RelV x u:=by
 cases r with
 | cons r1 r2=>cases r2; exact ⟨_,rfl,r1⟩
theorem vals2 {x y:V} {us:List Value} (r:Vals [x,y] us):∃ u w',us=[u,w']/\RelV x u/\RelV y w':=by
 cases r with
 | cons r1 r2 =>
  cases r2 with
  | cons r3 r4=>cases r4; exact ⟨_,_,rfl,r1,r3⟩
def RM (K:PySem.W.Frag) (x:V) (H:Hp) (n:Nat):Prop :=
 match x with
 | .str y=>y.length<=sizeLine/\n=y.length
 | .byt y=>y.size<=sizeLine/\n=y.size
 | .ref p=>(∃ xs,aC K H p xs/\n=xs.length)\/∃ xs,bJ K H p xs/\n=xs.length
 | _=>False
theorem Ib:cI X (.builtin "len") (fun xs H Q=>∃ x n,xs=[x]/\RM X.K x H n/\Q (.int n) H):=by
 intro pins s σ H xs us Q I r h;obtain ⟨x,n,rfl,e,q⟩:=h;obtain ⟨u,rfl,rx⟩:=vals1 r;have hl:=tG;have hs:sizeLine=16777216:=sizeLine_eq;cases x with
 | str y =>
  obtain ⟨t,rfl⟩:=rx;obtain ⟨hy,e'⟩:y.length<=sizeLine/\n=y.length:=e;subst e';exact len_str (by omega) ⟨.int _,H,I.tok _,⟨_,rfl⟩,q⟩
 | byt y =>
  obtain ⟨t,rfl⟩:=rx;obtain ⟨hy,e'⟩:y.size<=sizeLine/\n=y.size:=e;subst e';exact PySem.W.len_bytes (by omega) ⟨.int _,H,I.tok _,⟨_,rfl⟩,q⟩
 | ref p =>
  cases rx;have e':(∃ xs,aC X.K H p xs/\n=xs.length)\/∃ xs,bJ X.K H p xs/\n=xs.length:=e;rcases e' with ⟨xs,hx,e'⟩ | ⟨xs,hx,e'⟩
  ·subst e';obtain ⟨ao,r',pl,hz⟩:=I.list hx;have hlen:=r'.length;exact Calls.call_len_list pl.isList (by simp only [List.size_toArray]; omega) ⟨.int xs.length,H,I.tok _,⟨_,by simp only [List.size_toArray]; rw [hlen]⟩,q⟩
  ·subst e';obtain ⟨ao,r',pl,hz⟩:=I.tuple hx;have hlen:=r'.length;exact len_tuple pl (by simp only [List.size_toArray]; omega) ⟨.int xs.length,H,I.tok _,⟨_,by simp only [List.size_toArray]; rw [hlen]⟩,q⟩
 | _=>exact (show False from e).elim
end
structure nU (h:Heap) (x dx C:Addr) (mA:Str->Option Value):Prop where
 obj:h.get? x=some (PySem.W.instObj C dx)
 ns:h.Ns1 dx mA
 ne:dx≠x
theorem RB {h:Heap} {dx:Addr} {mA:Str->Option Value} (n:h.Ns1 dx mA):∃ od,h.get? dx=some od/\∀ name,PySem.W.lookIn name od=some (mA name):=by
 obtain ⟨o,es,ep,ho,hd,hk,_,hm⟩:=n;refine ⟨o,ho,fun name=>?_⟩;have e:=hm name;unfold nsFind findBy at e;rw [<- Array.find?_toList] at e;unfold PySem.W.lookIn;rw [hd];dsimp only;split
 ·rename_i y q;rw [q] at e;exact congrArg some e
 ·rename_i q;rw [q] at e;have a:es.toList.any (·.refKey)=false:=by
   rw [List.any_eq_false];intro y hy;obtain ⟨z,t,hkey⟩:=hk y (Array.mem_toList_iff.mp hy);simp [DictEntry.refKey,hkey]
  have a':¬ es.toList.any (·.refKey)=true:=by rw [a]; exact Bool.false_ne_true
  rw [if_neg a'];exact congrArg some e
theorem nU.look {h:Heap} {x dx C:Addr} {mA:Str->Option Value} (I:nU h x dx C mA):∃ od,PySem.W.InstAt h x (PySem.W.instObj C dx) C (some od)/\∀ name,PySem.W.lookIn name od=some (mA name) :=
 let ⟨od,ho,hl⟩:=RB I.ns
 ⟨od,⟨I.obj,rfl,rfl,ho⟩,hl⟩
section
variable {prog:Program} {w:World} {A:Around} {E:Value->Shared->Prop} {s:Shared} {K:PySem.W.Frag} {x dx C f:Addr} {mA:Str->Option Value} {name:Str} {v:Value}
theorem get_map {expr:Bool} {Q:Value->Shared->Prop} (X:K.In s.heap) (I:nU s.heap x dx C mA) (hg:PySem.W.plainGet K C name=true) (hh:PySem.W.hasDictIn K C=true)
  (ha:PySem.W.findIn K (.ref C) name=some none) (hv:mA name=some v) (hv':PySem.W.handedIn v=true) (h:Q v { s with toks:=s.toks+1 }) :
  wpAny (model prog w) A (getAttr (.ref x) name expr) Q E s:=by
 obtain ⟨od,J,hl⟩:=I.look;exact PySem.W.get_value X J (PySem.W.plainGet_of hg).1 (PySem.W.findObj_own hh ha rfl (by rw [hl,hv])) hv' h
theorem Ui {pl:Sem Bool} {Q:Value×List Value->Shared->Prop} (X:K.In s.heap) (I:nU s.heap x dx C mA) (hg:PySem.W.plainGet K C name=true)
  (hf:PySem.W.findIn K (.ref C) name=some (some (.ref f))) (ht:PySem.W.isFn K (.ref f)=true) (hv:mA name=none) (h:Q (.ref f,[.ref x]) s) :
  wpAny (model prog w) A (getMethod (.ref x) name pl) Q E s:=by
 obtain ⟨od,J,hl⟩:=I.look;exact PySem.W.method_fn X J (PySem.W.plainGet_of hg).1 (PySem.W.plainGet_of hg).2 hf (beq_iff_eq.mp ht) (by show (PySem.W.lookIn name od).map (·.isSome)=some false; rw [hl,hv]; rfl) h
theorem Od {ns:List Str} {Q:Unit->Shared->Prop} (X:K.In s.heap) (I:nU s.heap x dx C mA)
  (hs:PySem.W.findIn K (.ref C) "__setattr__" = some (some (.builtin "object.__setattr__"))) (hp:PySem.W.plainOver K C=true) (ht:PySem.W.takerIn K C name=some none) (hh:PySem.W.hasDictIn K C=true)
  (hw:PySem.Within mA ns) (hsz:ns.length<=sizeLine)
  (h:∀ h',nU h' x dx C (fun y=>if y=name then some v else mA y)->Heap.SameBut dx s.heap h'->Q () { s with heap:=h',toks:=s.toks+2 }) :
  wpAny (model prog w) A (setAttr (.ref x) name v) Q E s:=by
 obtain ⟨od,J,hl⟩:=I.look;refine PySem.W.set_plain X J hs (PySem.W.osa_open (s:={ s with toks:=s.toks+1 }) (r:=none) X J hp ht fun b=>?_);obtain ⟨cd,hc,hd'⟩:=PySem.W.any_some hh;have hx:s.heap.get? x=some ⟨.ref C,some dx,.plain,#[]⟩:=I.obj;refine wpAny_bind (wpAny_pure (wpAny_bind (wpAny_bind (wpAny_loadPart hx (wpAny_bind (PySem.W.Looks.here (s:={ s with toks:=s.toks+1 }) (PySem.W.looks_clsIn X hc) ?_))))));rw [hd'];refine wpAny_pure (a:=some dx) (wpAny_bind (wpAny_pure (wpAny_bind ?_)));refine wpAny_nsSet1 (s:={ s with toks:=s.toks+1 }) I.ns fun h' gJ ye=>?_;obtain ⟨oD,esD,epD,Du,El,Et⟩:=gJ.count (PySem.Within.cons name v hw);refine wpAny_bind (wpAny_lookBehind Du (by rw [El]; exact pastItsLine_dict (Nat.le_trans Et (by rw [List.length_cons]; omega))) ?_);exact wpAny_pure (h _ ⟨(ye.2 _ (Ne.symm I.ne)).trans I.obj,gJ,I.ne⟩ ye)
theorem QK {R:Result->Shared->Prop} {vs:List Value} {kw:List (Str×Value)} (X:K.In s.heap) (hm:PySem.W.makesIn K C=true)
  (hi:PySem.W.findIn K (.ref C) "__init__" = some (some (.ref f))) (hf:PySem.W.typeIn K (.ref f)=some (.type "function"))
  (h:codeAny (model prog w) (A.under (.builtin "type.__call__" ⟨.ref C::vs,kw⟩)) (.call (.ref f) ⟨.ref (s.heap.objs.size+1)::vs,kw⟩) (PySem.W.InitBack (s.heap.objs.size+1) R)
   { s with heap:=(s.heap.push PySem.W.emptyDict).push (PySem.W.instObj C s.heap.objs.size) }) :
  codeAny (model prog w) A (.call (.ref C) ⟨vs,kw⟩) R s:=by
 obtain ⟨hh,g,d,t,os⟩:=s;exact PySem.W.make_core (PySem.W.makes_of X hm) (PySem.W.looks_findIn X hi) (fun self=>PySem.W.bind_fn X self hf) (.inl rfl) h
end
def ay (f:Str) (v:V):List (Str×V)->List (Str×V)
 | []=>[(f,v)]
 | (g,x)::r=>if g=f then (g,v)::r else (g,x)::ay f v r
theorem eB (f g:Str) (v:V):∀ fs:List (Str×V),(ay f v fs).lookup g=if g=f then some v else fs.lookup g
 | []=>by
  show List.lookup g [(f,v)]=_;by_cases h:g=f
  ·have hb:(g == f)=true:=beq_iff_eq.mpr h;simp only [List.lookup,hb,if_pos h]
  ·have hb:(g == f)=false:=beq_eq_false_iff_ne.mpr h;simp only [List.lookup,hb,if_neg h]
 | (k,x)::r=>by
  have ih:=eB f g v r;rw [show ay f v ((k,x)::r)=(if k=f then (k,v)::r else (k,x)::ay f v r) from rfl];by_cases hk:k=f
  ·rw [if_pos hk];by_cases h:g=k
   ·have hb:(g == k)=true:=beq_iff_eq.mpr h;simp only [List.lookup,hb,if_pos (h.trans hk)]
   ·have hb:(g == k)=false:=beq_eq_false_iff_ne.mpr h;simp only [List.lookup,hb,if_neg (fun e:g=f=>h (e.trans hk.symm))]
  ·rw [if_neg hk];by_cases h:g=k
   ·have hb:(g == k)=true:=beq_iff_eq.mpr h;simp only [List.lookup,hb,if_neg (fun e:g=f=>hk (h.symm.trans e))]
   ·have hb:(g == k)=false:=beq_eq_false_iff_ne.mpr h;simp only [List.lookup,hb];exact ih
theorem zR (f:Str) (v:V):∀ fs:List (Str×V),f∈(ay f v fs).map (·.1)/\∀ g,g∈fs.map (·.1)->g∈(ay f v fs).map (·.1)
 | []=>⟨by simp [ay],fun g h=>by simp at h⟩
 | (k,x)::r=>by
  obtain ⟨i1,i2⟩:=zR f v r;rw [show ay f v ((k,x)::r)=(if k=f then (k,v)::r else (k,x)::ay f v r) from rfl];by_cases hk:k=f
  ·rw [if_pos hk];subst hk;exact ⟨by simp,fun g h=>by simpa using h⟩
  ·rw [if_neg hk];refine ⟨?_,fun g h=>?_⟩
   ·rw [List.map_cons];exact List.mem_cons_of_mem _ i1
   ·rw [List.map_cons] at h ⊢;rcases List.mem_cons.mp h with e | e
    ·exact List.mem_cons.mpr (.inl e)
    ·exact List.mem_cons_of_mem _ (i2 g e)
theorem C2 (f:Str) (v:V):∀ fs:List (Str×V),(ay f v fs).length<=fs.length+1
 | []=>by simp [ay]
 | (k,x)::r=>by
  have ih:=C2 f v r;rw [show ay f v ((k,x)::r)=(if k=f then (k,v)::r else (k,x)::ay f v r) from rfl];by_cases hk:k=f
  ·rw [if_pos hk,List.length_cons,List.length_cons]; omega
  ·rw [if_neg hk,List.length_cons,List.length_cons]; omega
theorem eM.some_of {v:V} {o:Option Value} (r:eM (some v) o):∃ u,o=some u/\RelV v u:=by
 cases o with
 | none=>exact (show False from r).elim
 | some u=>exact ⟨u,rfl,r⟩
theorem eM.none_of {o:Option Value} (r:eM none o):o=none:=by
 cases o with
 | none=>rfl
 | some u=>exact (show False from r).elim
theorem VE {v:V} {u:Value} (r:RelV v u):PySem.W.handedIn u=true:=by
 cases v with
 | au=>cases (show u=Value.none from r); rfl
 | bl b=>cases (show u=Value.bool b from r); rfl
 | int i=>obtain ⟨t,e⟩:=(show ∃ t,u=Value.int i t from r); cases e; rfl
 | str x=>obtain ⟨t,e⟩:=(show ∃ t,u=Value.str x t from r); cases e; rfl
 | byt b=>obtain ⟨t,e⟩:=(show ∃ t,u=Value.bytes b t from r); cases e; rfl
 | m9 b=>obtain ⟨t,e⟩:=(show ∃ t,u=Value.float b t from r); cases e; rfl
 | ref a=>cases (show u=Value.ref a from r); rfl
 | ty n=>cases (show u=Value.type n from r); rfl
section
variable {P:Program} {w:World} {H H':Hp} {h h':Heap} {a C dx:Addr} {fs fs':List (Str×V)}
theorem wO (aB:ck P w H h) (e:H a=some (.ins C dx fs)):∃ mA,nU h a dx C mA/\(∀ f,eM (fs.lookup f) (mA f))/\PySem.Within mA (fs.map (·.1))/\fs.length<=1000/\H dx=some (.own a):=by
 obtain ⟨d,z,ne,ob,mA,n,r,q⟩:=(show b9 P w H h a (.ins C dx fs) from aB a _ e);exact ⟨mA,⟨ob,n,ne⟩,r,q,z,d⟩
end
structure cX (K:PySem.W.Frag) (C:Addr):Prop where
 pg:PySem.W.plainGet K C Str.empty=true
 hd:PySem.W.hasDictIn K C=true
 po:PySem.W.plainOver K C=true
 sa:PySem.W.findIn K (.ref C) "__setattr__" = some (some (.builtin "object.__setattr__"))
theorem cX.get {K:PySem.W.Frag} {C:Addr} (c:cX K C) (f:Str):PySem.W.plainGet K C f=true:=c.pg
def bM (K:PySem.W.Frag) (C:Addr) (f:Str):Prop:=PySem.W.findIn K (.ref C) f=some none
theorem bM.VW {K:PySem.W.Frag} {C:Addr} {f:Str} (n:bM K C f):PySem.W.takerIn K C f=some none:=by
 unfold PySem.W.takerIn;rw [show PySem.W.findIn K (.ref C) f=some none from n];rfl
structure Z7 (K:PySem.W.Frag) (C:Addr) (f:Str) (v:V) (u:Value):Prop where
 at_:PySem.W.findIn K (.ref C) f=some (some u)
 rel:RelV v u
 get:PySem.W.specialIn K u "__get__" = some none
 cp:PySem.W.copiedNames.contains f=false
structure Meth (K:PySem.W.Frag) (C:Addr) (m:Str) (f:Addr):Prop where
 at_:PySem.W.findIn K (.ref C) m=some (some (.ref f))
 fn:PySem.W.isFn K (.ref f)=true
 kp:PySem.W.keepIn K (.ref f)=true
section
variable {X:Cx} {pins:List (Addr×Obj)} {σ:St} {H:Hp} {s:Shared} {a C dx:Addr} {fs:List (Str×V)} {f:Str} {v:V} {A:Around} {E:Value->Shared->Prop}
theorem Hi {b:Bool} {Q:Value->Shared->Prop} (I:Inv X pins σ H s) (e:H a=some (.ins C dx fs)) (c:cX X.K C) (n:bM X.K C f) (l:fs.lookup f=some v)
  (h:∀ u s',Inv X pins σ H s'->RelV v u->Q u s'):wpAny (model X.prog X.w) A (getAttr (.ref a) f b) Q E s:=by
 obtain ⟨mA,O,r,_,_,_⟩:=wO I.aB e;obtain ⟨u,hu,ru⟩:=eM.some_of (v:=v) (o:=mA f) (by rw [<- l]; exact r f);exact get_map I.cg O (c.get f) c.hd n hu (VE ru) (h u _ (I.tok _) ru)
theorem Cg {m:Str} {g:Addr} {pl:Sem Bool} {Q:Value×List Value->Shared->Prop} (I:Inv X pins σ H s) (e:H a=some (.ins C dx fs)) (c:cX X.K C) (k:Meth X.K C m g) (l:fs.lookup m=none)
  (h:Q (.ref g,[.ref a]) s):wpAny (model X.prog X.w) A (getMethod (.ref a) m pl) Q E s:=by
 obtain ⟨mA,O,r,_,_,_⟩:=wO I.aB e;have hn:mA m=none:=eM.none_of (by rw [<- l]; exact r m);exact Ui I.cg O (c.get m) k.at_ k.fn hn h
theorem Ih {y:V} {u:Value} {Q:Unit->Shared->Prop} (I:Inv X pins σ H s) (e:H a=some (.ins C dx fs)) (c:cX X.K C) (n:bM X.K C f) (hl:fs.length < 1000) (ry:RelV y u)
  (h:∀ s',Inv X pins σ (upd H a (.ins C dx (ay f y fs))) s'->Q () s'):wpAny (model X.prog X.w) A (setAttr (.ref a) f u) Q E s:=by
 obtain ⟨mA,O,r,wi,_,ho⟩:=wO I.aB e;have hz:(fs.map (·.1)).length<=sizeLine:=by rw [List.length_map,sizeLine_eq]; omega
 refine Od I.cg O c.sa c.po n.VW c.hd wi hz fun h' O' sb=>h _ ?_;have hd:∃ o,h'.get? dx=some o:=let ⟨o,_,_,e',_⟩:=O'.ns; ⟨o,e'⟩
 refine I.write (x:=a) (e:=dx) (by rw [e]; exact True.intro) (.inr ho) (fun b q hb z=>(sb.2 b hb).trans z) hd ?_;refine ⟨by rw [ag O.ne]; exact ho,?_,O.ne,O'.obj,_,O'.ns,fun g=>?_,fun g hg=>?_⟩
 ·have:=C2 f y fs; omega
 ·show eM ((ay f y fs).lookup g) (if g=f then some u else mA g);rw [eB];by_cases q:g=f
  ·rw [if_pos q,if_pos q]; exact ry
  ·rw [if_neg q,if_neg q]; exact r g
 ·by_cases q:g=f
  ·rw [q]; exact (zR f y fs).1
  ·refine (zR f y fs).2 g (wi g fun z=>hg ?_);show (if g=f then some u else mA g)=none;rw [if_neg q]; exact z
theorem Inv.made (I:Inv X pins σ H s):Inv X pins σ (upd (upd H s.heap.objs.size (.own (s.heap.objs.size+1))) (s.heap.objs.size+1) (.ins C s.heap.objs.size []))
  { s with heap:=(s.heap.push PySem.W.emptyDict).push (PySem.W.instObj C s.heap.objs.size) }:=by
 have e1:(s.heap.push PySem.W.emptyDict).get? s.heap.objs.size=some PySem.W.emptyDict:=Heap.get?_push_size s.heap rfl;have e2:((s.heap.push PySem.W.emptyDict).push (PySem.W.instObj C s.heap.objs.size)).get? (s.heap.objs.size+1)=some (PySem.W.instObj C s.heap.objs.size):=by
  have:=Heap.get?_push_size (s.heap.push PySem.W.emptyDict) (o:=PySem.W.instObj C s.heap.objs.size) rfl
  rwa [Heap.size_push] at this
 have e3:(s.heap.push PySem.W.emptyDict).Ns s.heap.objs.size (fun _=>none):=⟨PySem.W.emptyDict,#[],_,e1,rfl,(fun e he=>absurd he (by simp)),fun _=>rfl⟩;have I1:=I.laid (a:=s.heap.objs.size) (o:=.own (s.heap.objs.size+1)) (h':=s.heap.push PySem.W.emptyDict) (t':=s.toks) (fun b u q=>Heap.get?_push_of_some _ q) (Nat.le_refl _) ⟨_,e1⟩;refine I1.laid (a:=s.heap.objs.size+1) (o:=.ins C s.heap.objs.size []) (t':=s.toks) (fun b u q=>Heap.get?_push_of_some _ q) (Nat.le_of_eq (Heap.size_push _ _)) ?_;have ne:s.heap.objs.size≠s.heap.objs.size+1:=Nat.ne_of_lt (Nat.lt_succ_self _);refine ⟨by rw [ag ne,ax],Nat.zero_le _,ne,e2,fun _=>none,(Heap.Ns1.of_empty e3).at fun o q=>Heap.get?_push_of_some _ q,fun _=>True.intro,fun y hy=>absurd rfl hy⟩
theorem QR {prog:Program} {w:World} {env:Env} {e:Expr} {f:Str} {pos:Pos} {s:Shared} {Q:Value->Shared->Prop} (hb:attributeBase e f env (eval e env)=eval e env)
  (h:wpAny (model prog w) A (eval e env) (fun o s₁=>wpAny (model prog w) A (getAttr o f true) Q E s₁) E s):wpAny (model prog w) A (eval (.Attribute e f pos) env) Q E s :=
 Attribute_any_ h (by rw [arm_eval_Attribute,hb])
end
def BH (X:Cx) (op:Operator) (rd:V->V->Hp->VK->Prop):Prop :=
 ∀ (pins:List (Addr×Obj)) (s:Shared) (σ:St) (H:Hp) (x y:V) (u v:Value) (Q:VK),Inv X pins σ H s->RelV x u->RelV y v->rd x y H Q->wpAny (model X.prog X.w) X.A (inplaceOp op u v) (EP X pins σ Q) X.xe s
section
variable {X:Cx} {o e value:Expr} {f:Str} {pos pos' tpos:Pos} {ta tv:TE}
def JC:V->V->Hp->VK->Prop:=fun x y H Q=>∃ i j,x=.int i/\y=.int j/\Q (.int (i+j)) H
theorem kj:BH X .Add JC:=by
 rintro pins s σ H x y u v Q I rx ry ⟨i,j,rfl,rfl,q⟩;obtain ⟨t,rfl⟩:=(show ∃ t,u=Value.int i t from rx);obtain ⟨t',rfl⟩:=(show ∃ t',v=Value.int j t' from ry);exact PyProof.Rows.iadd_int ⟨.int (i+j),H,I.tok _,⟨_,rfl⟩,q⟩
end
section
variable {X:Cx} {pins:List (Addr×Obj)} {σ:St} {H:Hp} {s:Shared} {A:Around} {E:Value->Shared->Prop} {Q:Value->Shared->Prop} {c:Value} {b:Bool}
inductive fw (K:PySem.W.Frag) (H:Hp):V->Value->Prop where
 | au:fw K H .au (.type "NoneType")
 | bl (x:Bool):fw K H (.bl x) (.type "bool")
 | int (i:Int):fw K H (.int i) (.type "int")
 | str (x:Str):fw K H (.str x) (.type "str")
 | m9 (x:UInt64):fw K H (.m9 x) (.type "float")
 | lst {a:Addr} {xs:List V} (e:H a=some (.lst xs)):fw K H (.ref a) (.type "list")
 | eS {a:Addr} {o:Obj} {xs:List V} (e:H a=some (.eS o (.lst xs))):fw K H (.ref a) (.type "list")
 | tup {a:Addr} {xs:List V} (e:H a=some (.tup xs)):fw K H (.ref a) (.type "tuple")
 | dK {a:Addr} {kvs:List (Key×V)} (e:H a=some (.dK kvs)):fw K H (.ref a) (.type "dict")
 | dT {a:Addr} {kvs:List (List Key×V)} (e:H a=some (.dT kvs)):fw K H (.ref a) (.type "dict")
 | ins {a C dx:Addr} {fs:List (Str×V)} (e:H a=some (.ins C dx fs)) (cl:cX K C) (ha:PySem.W.findIn K (.ref C) "__class__" = some (some (.builtin "object.__class__")))
   (hn:PySem.W.specialIn K (.builtin "object.__class__") "__get__" = some (some (.builtin "getset_descriptor.__get__"))) (eC:PySem.W.takesIn K (.builtin "object.__class__")=some true)
   (hm:PySem.W.mroIn K C (.type "object")=some true):fw K H (.ref a) (.ref C)
theorem BP {x:V} {u t:Value} (I:Inv X pins σ H s) (rx:RelV x u) (ty:fw X.K H x t) (e:PySem.W.kitOne X.K t c=some b) (h:∀ tk,Q (.bool b) { s with toks:=tk }) :
  wpAny (model X.prog X.w) A (call (.builtin "isinstance") [u,c]) Q E s:=by
 cases ty with
 | au=>cases (show u=Value.none from rx); exact PySem.W.kia_one PySem.W.kitx_none I.cg True.intro e (fun z=>nomatch z) h
 | bl y=>cases (show u=Value.bool y from rx); exact PySem.W.kia_one PySem.W.kitx_bool I.cg True.intro e (fun z=>nomatch z) h
 | int i=>obtain ⟨t,q⟩:=(show ∃ t,u=Value.int i t from rx); cases q; exact PySem.W.kia_one PySem.W.kitx_int I.cg True.intro e (fun z=>nomatch z) h
 | str y=>obtain ⟨t,q⟩:=(show ∃ t,u=Value.str y t from rx); cases q; exact PySem.W.kia_one PySem.W.kitx_str I.cg True.intro e (fun z=>nomatch z) h
 | m9 y=>obtain ⟨t,q⟩:=(show ∃ t,u=Value.float y t from rx); cases q; exact PySem.W.kia_one PySem.W.kitx_float I.cg True.intro e (fun z=>nomatch z) h
 | @lst a xs ea =>
  cases (show u=Value.ref a from rx);obtain ⟨_,_,n,_,h1⟩:=(show b9 X.prog X.w H s.heap a (.lst xs) from I.aB a _ ea);exact PySem.W.kia_one PySem.W.kitx_list I.cg ⟨_,h1,rfl⟩ e (fun z=>nomatch z) h
 | @eS a ob xs ea =>
  cases (show u=Value.ref a from rx);obtain ⟨_,_,_,n,_,h1⟩:=(show b9 X.prog X.w H s.heap a (.eS ob (.lst xs)) from I.aB a _ ea);exact PySem.W.kia_one PySem.W.kitx_list I.cg ⟨_,h1,rfl⟩ e (fun z=>nomatch z) h
 | @tup a xs ea =>
  cases (show u=Value.ref a from rx);obtain ⟨_,_,_,p⟩:=(show b9 X.prog X.w H s.heap a (.tup xs) from I.aB a _ ea);obtain ⟨o,h1,h2,_⟩:=p;exact PySem.W.kia_one PySem.W.kitx_tuple I.cg ⟨o,h1,h2⟩ e (fun z=>nomatch z) h
 | @dK a kvs ea =>
  cases (show u=Value.ref a from rx);obtain ⟨_,_,vs,_,p⟩:=(show b9 X.prog X.w H s.heap a (.dK kvs) from I.aB a _ ea);obtain ⟨o,es,ep,h1,h2,_⟩:=p;exact PySem.W.kia_one PySem.W.kitx_dict I.cg ⟨o,h1,h2.1⟩ e (fun z=>nomatch z) h
 | @dT a kvs ea =>
  cases (show u=Value.ref a from rx);obtain ⟨_,_,xs,_,o,es,ep,h1,h2,_⟩:=(show b9 X.prog X.w H s.heap a (.dT kvs) from I.aB a _ ea);exact PySem.W.kia_one PySem.W.kitx_dict I.cg ⟨o,h1,h2.1⟩ e (fun z=>nomatch z) h
 | @ins a C dx fs ea cl ha hn eC hm =>
  cases (show u=Value.ref a from rx);obtain ⟨mA,O,_⟩:=wO I.aB ea;obtain ⟨od,J,_⟩:=O.look;exact PySem.W.kia_one (PySem.W.kitx_own (cl.get _) cl.hd ha hn eC hm) I.cg J e (fun z=>nomatch z) h
end
structure bH (k:Nat) (A:Around):Prop where
 hd:A.handled=none
 dp:A.depth+3 * k+5 < recursionLimit
 un:A.units+16 * k+200 < cLine
theorem bH.mono {j k:Nat} {A:Around} (r:bH k A) (h:j<=k):bH j A:=⟨r.hd,by have:=r.dp; omega,by have:=r.un; omega⟩
theorem bH.deeper {k:Nat} {A:Around} (r:bH (k+1) A) (env:Env):bH k (A.deeper env) :=
 ⟨r.hd,by have:=r.dp; show A.depth+1+3 * k+5 < _; omega,by have:=r.un; show A.units+3+16 * k+200 < _; omega⟩
theorem T5 {A:Around} {C:Addr} {us:List Value} {kw:List (Str×Value)}:(A.under (.builtin "type.__call__" ⟨.ref C::us,kw⟩)).depth=A.depth+1:=by
 first | rfl | simp [Around.under,Code.weight,Code.isCreation,Code.isGuard,Code.isCaller,Code.frames,Code.isFrame,guardIds]
theorem Uh {A:Around} {C:Addr} {us:List Value} {kw:List (Str×Value)}:(A.under (.builtin "type.__call__" ⟨.ref C::us,kw⟩)).units=A.units+1:=by
 first | rfl | simp [Around.under,Code.cUnits,Code.frames,Code.isFrame]
theorem bH.make {k:Nat} {A:Around} (r:bH (k+1) A) (C:Addr) (us:List Value) (kw:List (Str×Value)):bH k (A.under (.builtin "type.__call__" ⟨.ref C::us,kw⟩)) :=
 ⟨r.hd,by have:=r.dp; rw [T5]; omega,by have:=r.un; rw [Uh]; omega⟩
theorem bH.depth {k:Nat} {A:Around} (r:bH k A):A.depth < recursionLimit:=by have:=r.dp; omega
theorem bH.units {k:Nat} {A:Around} (r:bH k A):A.units+64 < cLine:=by have:=r.un; omega
theorem bH.gg {k:Nat} {A:Around} (r:bH k A):A.units < cLine:=by have:=r.un; omega
def fR:TA:=fun _ H Q=>Q [] H
def fD (ta:TE) (tr:TA):TA:=fun σ H Q=>ta σ H fun x H1=>tr σ H1 fun xs H2=>Q (x::xs) H2
section
variable {X:Cx} {e:Expr} {es:List Expr} {te:TE} {t:TA} {pos:Pos}
theorem Wq:PA X [] fR:=fun _ _ _ _ H Q I h=>Calls.spliced_nil ⟨[],H,I,.nil,h⟩
theorem Qj (ha:PE X e te) (hr:PA X es t) (hs:starEach (e::es) X.env=(false,eval e X.env)::starEach es X.env:=by rfl):PA X (e::es) (fD te t):=by
 intro pos pins s σ H Q I h;rw [hs];show wpAny _ _ (spliced ((false,eval e X.env)::backTo pos (starEach es X.env))) _ _ s;refine Calls.spliced_cons (aD (ha pins s σ H _ I h) fun u s1 ⟨x,H1,I1,r1,q1⟩=>?_);exact aD (hr pos pins s1 σ H1 _ I1 q1) fun us s2 ⟨xs,H2,I2,r2,q2⟩=>⟨x::xs,H2,I2,.cons r1 r2,q2⟩
def ko (t:TA):TE:=fun σ H Q=>t σ H fun xs H1=>xs.length<=sizeLine/\∀ p,H1 p=none->Q (.ref p) (upd H1 p (.tup xs))
def wc (t:TA):TE:=fun σ H Q=>t σ H fun xs H1=>xs.length<=sizeLine/\∀ p,H1 p=none->Q (.ref p) (upd H1 p (.lst xs))
theorem RO {x1} (h:PA X es t):PE X (.Tuple es x1 pos) (ko t):=by
 intro pins s σ H Q I hq;refine wpAny_Tuple_spliced (aD (h pos pins s σ H _ I hq) fun us s1 ⟨xs,H1,I1,r,z,q⟩=>⟨by rw [<- r.length]; exact z,?_⟩);have hf:H1 s1.heap.objs.size=none:=I1.aB.fresh (Nat.le_refl _);refine ⟨.ref s1.heap.objs.size,upd H1 s1.heap.objs.size (.tup xs),I1.laid (t':=s1.toks) (fun b u e=>Heap.get?_push_of_some _ e) (Nat.le_refl _) ?_,rfl,q _ hf⟩;exact ⟨z,us,r,⟨_,Heap.get?_push_size _ rfl,rfl,_,rfl,rfl⟩⟩
theorem O8 (h:PA X es t):PE X (.List es pos) (wc t):=by
 intro pins s σ H Q I hq;refine wpAny_List_spliced (aD (h pos pins s σ H _ I hq) fun us s1 ⟨xs,H1,I1,r,z,q⟩=>⟨by rw [<- r.length]; exact z,?_⟩);have hf:H1 s1.heap.objs.size=none:=I1.aB.fresh (Nat.le_refl _);refine ⟨.ref s1.heap.objs.size,upd H1 s1.heap.objs.size (.lst xs),I1.laid (t':=s1.toks) (fun b u e=>Heap.get?_push_of_some _ e) (Nat.le_refl _) ?_,rfl,q _ hf⟩;exact ⟨z,us,0,r,Heap.get?_push_size _ rfl⟩
end
abbrev Sp:=List V->Hp->VK->XK->Prop
abbrev eT:=List Env->Hp->Shared->XK->Value->Shared->Prop
structure lO (P:Program) (w:World) (K:PySem.W.Frag) (mg:Str->Option Value) (base:Heap) (A:Around) (outer:List Env) (s:Shared) (H:Hp):Prop where
 frames:A.frames=some outer
 mod:Mod K mg base
 bs:∀ b o,base.get? b=some o->s.heap.get? b=some o/\H b=none
 iq:base.objs.size<=s.heap.objs.size
 fS:s.heap.FunFrames base outer
 jx:∀ b∈bW outer,H b=none
 aB:ck P w H s.heap
 bare:AllBare s.gens
def CE (outer:List Env) (P:Program) (w:World) (H:Hp) (s:Shared) (Q:VK) (u:Value) (s':Shared):Prop :=
 ∃ v H',s'.os=s.os/\AllBare s'.gens/\Un (bW outer) [] H H' s.heap s'.heap/\ck P w H' s'.heap/\RelV v u/\Q v H'
def CR (CX:eT) (outer:List Env) (P:Program) (w:World) (H:Hp) (s:Shared) (Q:VK) (E:XK) (r:Result) (s':Shared):Prop :=
 match r with
 | .ok (.ret u)=>CE outer P w H s Q u s'
 | .ok _=>False
 | .error e=>CX outer H s E e s'
structure az (P:Program) (w:World) (K:PySem.W.Frag) (mg:Str->Option Value) (base:Heap) (CX:eT) (k:Nat) (f:Addr) (fd:FuncData) (ps:List Str) (sp:Sp):Prop where
 len:∀ vs H Q E,sp vs H Q E->vs.length=ps.length
 run:∀ (A:Around) (outer:List Env) (s:Shared) (H:Hp) (args:Args) (us:List Value) (vs:List V) (Q:VK) (E:XK),bH k A->lO P w K mg base A outer s H->BindsTo s fd args (ps.zip us)->Vals vs us->sp vs H Q E ->
  codeAny (model P w) A (.call (.ref f) args) (CR CX outer P w H s Q E) s
theorem az.imp {P:Program} {w:World} {K:PySem.W.Frag} {mg:Str->Option Value} {base:Heap} {CX:eT} {k:Nat} {f:Addr} {fd:FuncData} {ps:List Str} {sp sp':Sp} (F:az P w K mg base CX k f fd ps sp)
  (h:∀ vs H Q E,sp' vs H Q E->sp vs H Q E):az P w K mg base CX k f fd ps sp' :=
 ⟨fun vs H Q E q=>F.len vs H Q E (h _ _ _ _ q),fun A outer s H args us vs Q E hr he hb hv hs=>F.run A outer s H args us vs Q E hr he hb hv (h _ _ _ _ hs)⟩
theorem lO.make {P:Program} {w:World} {K:PySem.W.Frag} {mg:Str->Option Value} {base:Heap} {A:Around} {outer:List Env} {s:Shared} {H:Hp} (e:lO P w K mg base A outer s H) (C:Addr) (us:List Value) (kw:List (Str×Value)) :
  lO P w K mg base (A.under (.builtin "type.__call__" ⟨.ref C::us,kw⟩)) outer s H:=⟨by first | exact e.frames | (simpa [Around.under,Code.envs,Code.isFrame,pushEnvs] using e.frames),e.mod,e.bs,e.iq,e.fS,e.jx,e.aB,e.bare⟩
section
variable {X:Cx} {pins:List (Addr×Obj)} {σ:St} {H:Hp} {s s':Shared}
theorem Inv.sN (I:Inv X pins σ H s):lO X.prog X.w X.K X.mg X.base X.A X.stack s H :=
 ⟨I.ok.frames,I.ok.mod,I.bs,Nat.le_trans I.ok.iq I.sz,I.stack,I.vC,I.aB,I.bare⟩
theorem Inv.after {Q:VK} {u:Value} (I:Inv X pins σ H s) (h:CE X.stack X.prog X.w H s Q u s'):EP X pins σ Q u s':=by
 obtain ⟨v,H',os,bare,un,aB,r,q⟩:=h;obtain ⟨hh,g,d,t,os'⟩:=s';obtain rfl:os'=s.os:=os;exact ⟨v,H',I.call (h':=hh) (g':=g) (d':=d) (t':=t) (ch:=[]) un aB bare (fun b z=>absurd z (by simp)),r,q⟩
end
def xB (sp:Sp) (bE:List V) (E:XK) (t:TA):TE:=fun σ H Q=>t σ H fun vs H1=>sp (vs++bE) H1 Q E
inductive MI (C:Addr) (m:Str) (x:V) (H:Hp) (q:Prop):Prop
 | mk:∀ a dx fs,x=.ref a->H a=some (.ins C dx fs)->fs.lookup m=none->q->MI C m x H q
def se (C:Addr) (m:Str) (sp:Sp) (bE:List V) (E:XK) (ta:TE) (t:TA):TE:=fun σ H Q=>ta σ H fun x H1=>MI C m x H1 (t σ H1 fun vs H2=>sp (x::(vs++bE)) H2 Q E)
def sM (C:Addr) (sp:Sp) (bE:List V) (E:XK) (t:TA):TE:=fun σ H Q=>t σ H fun vs H1=>∀ x dx,H1 x=none->H1 dx=none->dx≠x ->
 sp (.ref x::(vs++bE)) (upd (upd H1 dx (.own x)) x (.ins C dx [])) (fun v H2=>v=.au/\Q (.ref x) H2) E
def Binds (K:PySem.W.Frag) (fd:FuncData) (ps:List Str) (ds:List Value):Prop :=
 ∀ (s:Shared) (us:List Value),K.In s.heap->(us++ds).length=ps.length->BindsTo s fd ⟨us,[]⟩ (ps.zip (us++ds))
theorem Binds.all {K:PySem.W.Frag} {fd:FuncData} {ps:List Str} (h:∀ us:List Value,us.length=ps.length->bindArgs fd ⟨us,[]⟩=pure (ps.zip us)):Binds K fd ps []:=fun s us _ hl=>by
 rw [List.append_nil] at hl ⊢;exact .of_eq (h us hl)
def Passes (CX:eT) (X:Cx) (E:XK):Prop:=∀ (pins:List (Addr×Obj)) (σ:St) (H:Hp) (s:Shared) (e:Value) (s':Shared),Inv X pins σ H s->CX X.stack H s E e s'->X.xe e s'
section
variable {X:Cx} {CX:eT} {k:Nat} {f C:Addr} {fd:FuncData} {ps:List Str} {sp:Sp} {bE:List V} {ds:List Value} {E:XK} {x m:Str} {p pos apos:Pos} {e o:Expr} {es:List Expr} {ta:TE} {t:TA}
theorem BX {pins:List (Addr×Obj)} {σ:St} {H:Hp} {s:Shared} {Q:VK} {us:List Value} {vs:List V} (F:az X.prog X.w X.K X.mg X.base CX k f fd ps sp) (hr:bH k X.A) (hb:Binds X.K fd ps ds) (hd:Vals bE ds) (hx:Passes CX X E)
  (I:Inv X pins σ H s) (r:Vals vs us) (h:sp (vs++bE) H Q E):wpAny (model X.prog X.w) X.A (call (.ref f) us) (EP X pins σ Q) X.xe s:=by
 have r2:Vals (vs++bE) (us++ds):=r.append hd;have hl:(us++ds).length=ps.length:=by rw [<- r2.length]; exact F.len _ _ _ _ h
 refine wpAny_call (codeAny_mono (F.run X.A X.stack s H ⟨us,[]⟩ (us++ds) (vs++bE) Q E hr I.sN (hb s us I.cg hl) r2 h) fun r s' hq=>?_);cases r with
 | error e=>exact hx pins σ H s e s' I hq
 | ok fl =>
  cases fl with
  | ret u=>exact I.after hq
  | next=>exact False.elim hq
  | brk=>exact False.elim hq
  | cont=>exact False.elim hq
theorem Sa (F:az X.prog X.w X.K X.mg X.base CX k f fd ps sp) (hr:bH k X.A) (hg:Gl X x) (hm:X.mg x=some (.ref f)) (hk:PySem.W.keepIn X.K (.ref f)=true) (hb:Binds X.K fd ps ds) (hd:Vals bE ds) (hx:Passes CX X E)
  (ha:PA X (e::es) t) (bV:(x == ("__debug__" : Str))=false:=by decide) (he:starEach (e::es) X.env=(false,eval e X.env)::starEach es X.env:=by rfl) (bj:(backTo pos (starEach es X.env)).any (·.1)=false:=by rfl) :
  PE X (.Call (.Name x p) (e::es) [] pos) (xB sp bE E t):=by
 intro pins s σ H Q I h;refine wpAny_Call_Name_kw (kW I hg hm ?_ bV);refine PySem.W.callWith_K (h₀:=X.base) I.ok.mod.iO hk (aD (ha pos pins s σ H _ I h) fun us s1 ⟨vs,H1,I1,r,q⟩=>⟨I1.cg,?_⟩) he bj;exact BX F hr hb hd hx I1 r q
theorem Pg {pl:Sem Bool} (he:PE X o ta) (c:cX X.K C) (hm:Meth X.K C m f) (F:az X.prog X.w X.K X.mg X.base CX k f fd ps sp) (hr:bH k X.A) (hb:Binds X.K fd ps ds) (hd:Vals bE ds) (hx:Passes CX X E) (ha:PA X (e::es) t)
  (aO:starEach (e::es) X.env=(false,eval e X.env)::starEach es X.env:=by rfl) (bj:(backTo pos (starEach es X.env)).any (·.1)=false:=by rfl)
  (ht:eval (.Call (.Attribute o m apos) (e::es) [] pos) X.env=(do
   let ov <- eval o X.env
   standAt apos.atName
   let (f,first) <- holding [ov] (getMethod ov m pl)
   callWith pos f first (backTo pos (starEach (e::es) X.env)) (backToKw pos (keywordEach [] X.env))):=by rfl) :
  PE X (.Call (.Attribute o m apos) (e::es) [] pos) (se C m sp bE E ta t):=by
 intro pins s σ H Q I h;refine PySem.W.methodCall_KW (pl:=pl) (aD (he pins s σ H _ I h) fun u s1 ⟨x,H1,I1,rx,a,dx,fs,ex,ea,l,q⟩=>?_) ht;subst ex;obtain rfl:u=Value.ref a:=rx;refine Cg I1 ea c hm l ?_;refine PySem.W.callWith_K (first:=[.ref a]) (h₀:=X.base) I.ok.mod.iO hm.kp (aD (ha pos pins s1 σ H1 _ I1 q) fun us s2 ⟨vs,H2,I2,r,q2⟩=>⟨I2.cg,?_⟩) aO bj;exact BX (us:=.ref a::us) (vs:=.ref a::vs) F hr hb hd hx I2 (.cons rfl r) q2
theorem Wm {pl:Sem Bool} (he:PE X o ta) (c:cX X.K C) (hm:Meth X.K C m f) (F:az X.prog X.w X.K X.mg X.base CX k f fd ps sp) (hr:bH k X.A) (hb:Binds X.K fd ps ds) (hd:Vals bE ds) (hx:Passes CX X E)
  (ht:eval (.Call (.Attribute o m apos) [] [] pos) X.env=(do
   let ov <- eval o X.env
   standAt apos.atName
   let (f,first) <- holding [ov] (getMethod ov m pl)
   callWith pos f first (backTo pos (starEach [] X.env)) (backToKw pos (keywordEach [] X.env))):=by rfl) :
  PE X (.Call (.Attribute o m apos) [] [] pos) (se C m sp bE E ta fR):=by
 intro pins s σ H Q I h;refine PySem.W.methodCall_KW (pl:=pl) (aD (he pins s σ H _ I h) fun u s1 ⟨x,H1,I1,rx,a,dx,fs,ex,ea,l,q⟩=>?_) ht;subst ex;obtain rfl:u=Value.ref a:=rx;refine Cg I1 ea c hm l ?_;exact PySem.W.callWith_K0 (first:=[.ref a]) I1.cg hm.kp (BX (us:=[.ref a]) (vs:=[.ref a]) F hr hb hd hx I1 (.cons rfl .nil) q)
structure Mk (K:PySem.W.Frag) (C f:Addr):Prop where
 makes:PySem.W.makesIn K C=true
 init:PySem.W.findIn K (.ref C) "__init__" = some (some (.ref f))
 fn:PySem.W.isFn K (.ref f)=true
 kp:PySem.W.keepIn K (.ref C)=true
theorem Ll {pins:List (Addr×Obj)} {σ:St} {H:Hp} {s:Shared} {Q:VK} {us:List Value} {vs:List V} (M:Mk X.K C f) (F:az X.prog X.w X.K X.mg X.base CX k f fd ps sp) (hr:bH (k+1) X.A) (hb:Binds X.K fd ps ds) (hd:Vals bE ds)
  (hx:Passes CX X E) (I:Inv X pins σ H s) (r:Vals vs us)
  (h:∀ x dx,H x=none->H dx=none->dx≠x->sp (.ref x::(vs++bE)) (upd (upd H dx (.own x)) x (.ins C dx [])) (fun v H2=>v=.au/\Q (.ref x) H2) E) :
  wpAny (model X.prog X.w) X.A (call (.ref C) us) (EP X pins σ Q) X.xe s:=by
 have hq:=h (s.heap.objs.size+1) s.heap.objs.size (I.aB.fresh (Nat.le_succ _)) (I.aB.fresh (Nat.le_refl _)) (Nat.ne_of_lt (Nat.lt_succ_self _));have I2:=Inv.made (C:=C) I;have r2:Vals (V.ref (s.heap.objs.size+1)::(vs++bE)) (Value.ref (s.heap.objs.size+1)::(us++ds)):=.cons rfl (r.append hd);have hl:(Value.ref (s.heap.objs.size+1)::us++ds).length=ps.length:=by
  have e:=r2.length;rw [F.len _ _ _ _ hq] at e;exact e.symm
 refine wpAny_call (QK (f:=f) I.cg M.makes M.init (beq_iff_eq.mp M.fn) (codeAny_mono (F.run _ X.stack _ _ ⟨Value.ref (s.heap.objs.size+1)::us,[]⟩ (Value.ref (s.heap.objs.size+1)::(us++ds)) _ _ E (hr.make C us [])
  (I2.sN.make C us []) (hb _ (Value.ref (s.heap.objs.size+1)::us) I2.cg hl) r2 hq) fun r s' hq'=>?_))
 cases r with
 | error e=>exact hx pins σ _ _ e s' I2 hq'
 | ok fl =>
  cases fl with
  | ret u =>
   obtain ⟨v,H',I3,rv,ev,q3⟩:=I2.after hq';subst ev;exact ⟨rv,⟨V.ref (s.heap.objs.size+1),H',I3,rfl,q3⟩⟩
  | next=>exact False.elim hq'
  | brk=>exact False.elim hq'
  | cont=>exact False.elim hq'
theorem WO (M:Mk X.K C f) (F:az X.prog X.w X.K X.mg X.base CX k f fd ps sp) (hr:bH (k+1) X.A) (hg:Gl X x) (hm:X.mg x=some (.ref C)) (hb:Binds X.K fd ps ds) (hd:Vals bE ds) (hx:Passes CX X E)
  (ha:PA X (e::es) t) (bV:(x == ("__debug__" : Str))=false:=by decide) (he:starEach (e::es) X.env=(false,eval e X.env)::starEach es X.env:=by rfl) (bj:(backTo pos (starEach es X.env)).any (·.1)=false:=by rfl) :
  PE X (.Call (.Name x p) (e::es) [] pos) (sM C sp bE E t):=by
 intro pins s σ H Q I h;refine wpAny_Call_Name_kw (kW I hg hm ?_ bV);refine PySem.W.callWith_K (h₀:=X.base) I.ok.mod.iO M.kp (aD (ha pos pins s σ H _ I h) fun us s1 ⟨vs,H1,I1,r,q⟩=>⟨I1.cg,?_⟩) he bj;exact Ll M F hr hb hd hx I1 r q
theorem Pw (M:Mk X.K C f) (F:az X.prog X.w X.K X.mg X.base CX k f fd ps sp) (hr:bH (k+1) X.A) (hg:Gl X x) (hm:X.mg x=some (.ref C)) (hb:Binds X.K fd ps ds) (hd:Vals bE ds) (hx:Passes CX X E)
  (bV:(x == ("__debug__" : Str))=false:=by decide):PE X (.Call (.Name x p) [] [] pos) (sM C sp bE E fR):=by
 intro pins s σ H Q I h;refine wpAny_Call_Name_kw (kW I hg hm ?_ bV);exact PySem.W.callWith_K0 I.cg M.kp (Ll (us:=[]) M F hr hb hd hx I .nil h)
end
def PK (X:Cx) (j0:List Keyword) (t:TA):Prop :=
 ∀ (pos:Pos) (pins:List (Addr×Obj)) (s:Shared) (σ:St) (H:Hp) (Q:List V->Hp->Prop),Inv X pins σ H s->t σ H Q->wpAny (model X.prog X.w) X.A (evalAll ((backToKw pos (keywordEach j0 X.env)).map (·.2))) (AP X pins σ Q) X.xe s
section
variable {X:Cx} {CX:eT} {k:Nat} {f C:Addr} {fd:FuncData} {ps ks:List Str} {sp:Sp} {E:XK} {x m:Str} {p pos apos DS:Pos} {e o:Expr} {es:List Expr} {j0:List Keyword} {te ta:TE} {t tk:TA} {nm:Option Str}
theorem OE:PK X [] fR:=fun _ _ _ _ H Q I h=>wpAny_evalAll_nil ⟨[],H,I,.nil,h⟩
theorem Tu (ha:PE X e te) (hr:PK X j0 t):PK X (⟨nm,e,DS⟩::j0) (fD te t):=by
 intro pos pins s σ H Q I h;show wpAny _ _ (evalAll ((do let v <- eval e X.env; standAt pos; pure v)::(backToKw pos (keywordEach j0 X.env)).map (·.2))) _ _ s;refine wpAny_evalAll_cons (wpAny_bind (aD (ha pins s σ H _ I h) fun u s1 ⟨x,H1,I1,r1,q1⟩=>wpAny_bind (wpAny_standAt (wpAny_pure ?_))));exact aD (hr pos pins s1 σ H1 _ I1 q1) fun us s2 ⟨xs,H2,I2,r2,q2⟩=>⟨x::xs,H2,I2,.cons r1 r2,q2⟩
structure wR (K:PySem.W.Frag) (fd:FuncData) (ps ks:List Str) (g:List Value->List Value->List Value) (gV:List V->List V->List V):Prop where
 to:∀ (s:Shared) (us ws:List Value),K.In s.heap->(g us ws).length=ps.length->BindsTo s fd ⟨us,ks.zip ws⟩ (ps.zip (g us ws))
 rel:∀ {vs:List V} {us:List Value} {zs:List V} {ws:List Value},Vals vs us->Vals zs ws->Vals (gV vs zs) (g us ws)
def Cj (sp:Sp) (gV:List V->List V->List V) (E:XK) (t tk:TA):TE:=fun σ H Q=>t σ H fun vs H1=>tk σ H1 fun zs H2=>sp (gV vs zs) H2 Q E
variable {g:List Value->List Value->List Value} {gV:List V->List V->List V}
theorem Yh {pins:List (Addr×Obj)} {σ:St} {H:Hp} {s:Shared} {Q:VK} {us ws:List Value} {vs zs:List V} (F:az X.prog X.w X.K X.mg X.base CX k f fd ps sp) (hr:bH k X.A) (hb:wR X.K fd ps ks g gV) (hx:Passes CX X E)
  (I:Inv X pins σ H s) (r:Vals vs us) (rz:Vals zs ws) (h:sp (gV vs zs) H Q E):wpAny (model X.prog X.w) X.A (call (.ref f) us (ks.zip ws)) (EP X pins σ Q) X.xe s:=by
 have r2:=hb.rel r rz;have hl:(g us ws).length=ps.length:=by rw [<- r2.length]; exact F.len _ _ _ _ h
 refine wpAny_call (codeAny_mono (F.run X.A X.stack s H ⟨us,ks.zip ws⟩ (g us ws) (gV vs zs) Q E hr I.sN (hb.to s us ws I.cg hl) r2 h) fun r s' hq=>?_);cases r with
 | error e=>exact hx pins σ H s e s' I hq
 | ok fl =>
  cases fl with
  | ret u=>exact I.after hq
  | next=>exact False.elim hq
  | brk=>exact False.elim hq
  | cont=>exact False.elim hq
theorem Ye (F:az X.prog X.w X.K X.mg X.base CX k f fd ps sp) (hr:bH k X.A) (hg:Gl X x) (hm:X.mg x=some (.ref f)) (hk:PySem.W.keepIn X.K (.ref f)=true) (hb:wR X.K fd ps ks g gV) (hx:Passes CX X E)
  (ha:PA X (e::es) t) (DM:PK X j0 tk) (gD:(backToKw pos (keywordEach j0 X.env)).all (·.1.isSome)=true:=by rfl) (u7:(backToKw pos (keywordEach j0 X.env)).filterMap (·.1)=ks:=by rfl)
  (bV:(x == ("__debug__" : Str))=false:=by decide) (he:starEach (e::es) X.env=(false,eval e X.env)::starEach es X.env:=by rfl)
  (bj:((backTo pos (starEach (e::es) X.env)).any (·.1) || (backToKw pos (keywordEach j0 X.env)).any (·.1.isNone))=false:=by rfl) :
  PE X (.Call (.Name x p) (e::es) j0 pos) (Cj sp gV E t tk):=by
 intro pins s σ H Q I h;refine wpAny_Call_Name_kw (kW I hg hm ?_ bV);refine PySem.W.callWith_KW (h₀:=X.base) I.ok.mod.iO hk gD (aD (ha pos pins s σ H _ I h) fun us s1 ⟨vs,H1,I1,r,q⟩=>?_) bj he;refine aD (DM pos pins s1 σ H1 _ I1 q) fun ws s2 ⟨zs,H2,I2,rz,q2⟩=>⟨I2.cg,?_⟩;rw [u7];exact Yh F hr hb hx I2 r rz q2
end
structure aE (N P:List Str) (sc:Scope):Prop where
 kind:sc.kind=.function
 co:sc.isCoroutine=false
 gen:sc.isGenerator=false
 nd:N.Nodup
 pre:N.take P.length=P
 par:∀ x∈P,sc.names.lookup x=some .local\/sc.names.lookup x=some .cell
 Wy:∀ y∈sc.names,y.2≠.free
theorem Hu {kindOf:Str->Option NameKind} {x:Str}:∀ {binds:List (Str×Value)} {m:Str->Option Value},(∀ v,(x,v) ∉ binds)->bindL kindOf binds m x=m x
 | [],_,_=>rfl
 | (n,v)::r,m,h=>by
  unfold bindL;rw [Hu fun w hw=>h w (List.mem_cons_of_mem _ hw)];split
  ·have:x≠n:=by rintro rfl; exact h v List.mem_cons_self
   simp [this]
  ·rfl
theorem Fm {kindOf:Str->Option NameKind} {x:Str}:∀ {binds:List (Str×Value)} {m:Str->Option Value},(∀ v,(x,v) ∉ binds)->bindC kindOf binds m x=m x
 | [],_,_=>rfl
 | (n,v)::r,m,h=>by
  unfold bindC;rw [Fm fun w hw=>h w (List.mem_cons_of_mem _ hw)];split
  ·rfl
  ·have:x≠n:=by rintro rfl; exact h v List.mem_cons_self
   simp [this]
theorem GS {kindOf:Str->Option NameKind} {x:Str} {v:Value}:∀ {P:List Str} {vs:List Value} {i:Nat} {m:Str->Option Value},P.Nodup->P[i]?=some x->vs[i]?=some v->kindOf x=some .local ->
  bindL kindOf (P.zip vs) m x=some v
 | [],_,_,_,_,h,_,_=>by simp at h
 | _::_,[],_,_,_,_,h,_=>by simp at h
 | p::P,w::vs,0,m,nd,h1,h2,hk=>by
  simp at h1 h2; subst h1; subst h2;show bindL kindOf ((p,w)::P.zip vs) m p=_;unfold bindL;rw [Hu fun v hv=>(List.nodup_cons.mp nd).1 (List.of_mem_zip hv).1,if_pos hk];simp
 | p::P,w::vs,i+1,m,nd,h1,h2,hk=>by
  show bindL kindOf ((p,w)::P.zip vs) m x=_;unfold bindL;exact GS (i:=i) (List.nodup_cons.mp nd).2 (by simpa using h1) (by simpa using h2) hk
theorem Ly {kindOf:Str->Option NameKind} {x:Str} {v:Value}:∀ {P:List Str} {vs:List Value} {i:Nat} {m:Str->Option Value},P.Nodup->P[i]?=some x->vs[i]?=some v->kindOf x≠some .local ->
  bindC kindOf (P.zip vs) m x=some v
 | [],_,_,_,_,h,_,_=>by simp at h
 | _::_,[],_,_,_,_,h,_=>by simp at h
 | p::P,w::vs,0,m,nd,h1,h2,hk=>by
  simp at h1 h2; subst h1; subst h2;show bindC kindOf ((p,w)::P.zip vs) m p=_;unfold bindC;rw [Fm fun v hv=>(List.nodup_cons.mp nd).1 (List.of_mem_zip hv).1,if_neg hk];simp
 | p::P,w::vs,i+1,m,nd,h1,h2,hk=>by
  show bindC kindOf ((p,w)::P.zip vs) m x=_;unfold bindC;exact Ly (i:=i) (List.nodup_cons.mp nd).2 (by simpa using h1) (by simpa using h2) hk
def start (N:List Str) (vs:List V):St:=vs.map some++List.replicate (N.length - vs.length) none
def gU (CX:eT) (P:Program) (w:World) (K:PySem.W.Frag) (mg:Str->Option Value) (base:Heap) (N:List Str) (qual:Str) (scope:Scope) (f:Addr) (cd:Value) (A:Around) (outer:List Env) (s:Shared) (H:Hp) (E:XK):Cx where
 prog:=P
 w:=w
 K:=K
 mg:=mg
 base:=base
 A:=A.deeper (envOfC qual scope s.heap.objs.size f cd)
 N:=N
 s₀:=s
 H₀:=H
 env:=envOfC qual scope s.heap.objs.size f cd
 outer:=outer
 stack:=envOfC qual scope s.heap.objs.size f cd::outer
 ex:=[]
 calm:=true
 fn:=fun _=>true
 pn:=[]
 xe:=fun e s'=>wpAny (model P w) (A.deeper (envOfC qual scope s.heap.objs.size f cd)) (leaving (envOfC qual scope s.heap.objs.size f cd) e) (fun _ s''=>CX outer H s E e s'') (fun e' s''=>CX outer H s E e' s'') s'
theorem KQ {sc:Scope} {n:Nat} {x:Str} (h:sc.names.lookup x=some .cell):∃ c,(cellsFrom n sc.names []).lookup x=some c:=by
 have q:=PySem.W.cellsFrom_some sc.names n [] (.inl h);exact Option.isSome_iff_exists.mp q
theorem U8 {CX:eT} {P:Program} {w:World} {K:PySem.W.Frag} {mg:Str->Option Value} {base:Heap} {N ps:List Str} {qual:Str} {scope:Scope} {f:Addr} {cd:Value} {A:Around} {outer:List Env} {s s1:Shared} {H:Hp} {E:XK} {us:List Value} {vs:List V}
  (S:aE N ps scope) (hd:A.handled=none) (e0:lO P w K mg base A outer s H) (hl:vs.length=ps.length) (r:Vals vs us)
  (x:InCallC s s.heap.objs.size (bindL (envOfC qual scope s.heap.objs.size f cd).kindOf (ps.zip us) fun _=>none) (cellsFrom (s.heap.objs.size+1) scope.names []) (bindC (envOfC qual scope s.heap.objs.size f cd).kindOf (ps.zip us) fun _=>none) s1) :
  Inv (gU CX P w K mg base N qual scope f cd A outer s H E) [] (start N vs) H s1:=by
 have bj:ps.length<=N.length:=by have:=congrArg List.length S.pre; rw [List.length_take] at this; omega
 obtain ⟨h1,tk,rfl,hk⟩:=x.done;have uF:∀ b:Addr,b ∉ (gU CX P w K mg base N qual scope f cd A outer s H E).ex:=fun b z=>absurd (show b∈([]:List Addr) from z) (by simp);refine ⟨⟨e0.mod,S.kind,rfl,rfl,Nat.le_refl _,fun y z c h1 h2=>?_,fun y hy=>?_,fun y c _ h=>?_,fun _=>hd,Around.frames_deeper e0.frames,.inr ⟨rfl,rfl⟩,fun b z=>absurd z (uF b),e0.bs,e0.iq,fun b _ _=>uF b,fun b z=>absurd z (uF b),e0.fS,e0.jx⟩,
  rfl,e0.bare,Un.kept hk,⟨_,x.toInCall.ns,fun i y v h1 h2 h3=>?_⟩,fun y c h=>⟨_,x.cell y c h⟩,e0.aB.fresh (Nat.le_refl _),fun y c h=>?_,fun p hp=>absurd (show p∈([]:List (Addr×Obj)) from hp) (by simp),e0.aB.kept hk,?_⟩
 ·exact name_of_addr x.apart (PySem.mem_of_lookup h1) (PySem.mem_of_lookup h2)
 ·have hy:scope.names.lookup y=some .cell\/scope.names.lookup y=some .free:=hy;rcases hy with hy | hy
  ·exact KQ hy
  ·exact absurd rfl (S.Wy _ (PySem.mem_of_lookup hy))
 ·exact Nat.le_of_lt (x.above y c (PySem.mem_of_lookup h))
 ·have hi:i < vs.length:=by
   unfold start at h2;by_cases hi:i < vs.length
   ·exact hi
   ·rw [List.getElem?_append_right (by simpa using hi)] at h2;rw [List.getElem?_replicate] at h2;split at h2 <;> cases h2
  have ha:vs[i]?=some v:=by
   unfold start at h2;rw [List.getElem?_append_left (by simpa using hi),List.getElem?_map] at h2;cases e:vs[i]? with
   | none=>rw [e] at h2; cases h2
   | some a=>rw [e] at h2; cases h2; rfl
  obtain ⟨u,hu,rv⟩:=r.get ha;have hp:ps[i]?=some y:=by
   rw [<- S.pre,List.getElem?_take_of_lt (by omega)]; exact h1
  have MW:ps.Nodup:=by rw [<- S.pre]; exact S.nd.sublist (List.take_sublist _ _)
  refine ⟨u,rv,?_⟩;rcases S.par y (List.mem_of_getElem? hp) with k | k
  ·exact .inl ⟨k,GS MW hp hu k⟩
  ·obtain ⟨c,e⟩:=KQ (n:=s.heap.objs.size+1) k;refine .inr ⟨.inl k,c,e,?_⟩;have q:=x.cell y c e;rw [Ly MW hp hu (by show scope.names.lookup y≠_; rw [k]; decide)] at q;exact q
 ·exact e0.aB.fresh (Nat.le_of_lt (x.above y c (PySem.mem_of_lookup h)))
 ·unfold start;show _=N.length;rw [List.length_append,List.length_map,List.length_replicate];omega
theorem Cv {CX:eT} {P:Program} {w:World} {K:PySem.W.Frag} {mg:Str->Option Value} {base:Heap} {k:Nat} {f:Addr} {name qual:Str} {params:Arguments} {body:List Stmt} {scope:Scope} {dV kV doc pm aw ct oc:Value} {an od:Option Addr}
  {dW:Array (Option Value)} {N ps:List Str} {sp:Sp} (lk:K.lookup f=some ⟨oc,od,.func (PySem.W.fnOf name qual params body scope dV kV doc pm an aw ct),dW⟩) (dj:PySem.W.codeIn K aw qual=true) (S:aE N ps scope)
  (len:∀ vs H Q E,sp vs H Q E->vs.length=ps.length)
  (ER:∀ (A:Around) (outer:List Env) (s:Shared) (H:Hp) (vs:List V) (Q:VK) (E:XK),bH k (A.deeper (envOfC qual scope s.heap.objs.size f aw))->sp vs H Q E ->
   ∃ t,dE (gU CX P w K mg base N qual scope f aw A outer s H E) body t/\t { nx:=fun _ H'=>Q .au H',rt:=Q } (start N vs) H) :
  az P w K mg base CX (k+1) f (PySem.W.fnOf name qual params body scope dV kV doc pm an aw ct) ps sp:=by
 refine ⟨len,fun A outer s H args us vs Q E hr e0 hb r gH=>?_⟩;have hl:=len _ _ _ _ gH;have KX:K.In s.heap:=e0.mod.iO.keeps fun b o e=>(e0.bs b o e).1;have lim:s.heap.NoLimit:=e0.mod.nolimit.keeps fun b o e=>(e0.bs b o e).1;have hkind:∀ y∈ps.zip us,scope.names.lookup y.1=some .local\/(scope.names.lookup y.1=some .cell/\((cellsFrom (s.heap.objs.size+1) scope.names []).lookup y.1).isSome=true):=fun ⟨n,v⟩ hy=>by
  rcases S.par n (List.of_mem_zip hy).1 with q | q
  ·exact .inl q
  ·exact .inr ⟨q,PySem.W.cellsFrom_some _ _ _ (.inl q)⟩
 refine codeAny_call_function hr.depth (KX _ _ lk) rfl S.co S.gen rfl (PySem.W.codeRec_of KX dj) (hb _ _ _ _ ?_);refine wpAny_newFunctionEnv_cells S.kind hkind fun env he s1 x=>?_;subst he;refine ⟨lim.keeps x.toInCall.keep,codeAny_func ?_⟩;obtain ⟨t,ht,hq⟩:=ER A outer s H vs Q E (hr.deeper _) gH;have I:Inv (gU CX P w K mg base N qual scope f aw A outer s H E) [] (start N vs) H s1:=U8 S hr.hd e0 hl r x;refine wpAny_mono (ht [] s1 (start N vs) H _ I hq) (fun fl s' hs=>?_) fun e s' hs=>hs;have fin:∀ {σ':St} {H':Hp} {v:V} {u:Value},Inv (gU CX P w K mg base N qual scope f aw A outer s H E) [] σ' H' s'->RelV v u->Q v H'->CE outer P w H s Q u s' :=
  fun {σ' H' v u} J rv q=>⟨v,H',J.os,J.bare,J.base,J.aB,rv,q⟩
 cases fl with
 | ret u =>
  obtain ⟨v,σ',H',J,rv,q⟩:=hs;exact fin J rv q
 | next =>
  obtain ⟨σ',H',J,q⟩:=hs;exact fin (v:=V.au) (u:=Value.none) J rfl q
 | brk =>
  obtain ⟨_,_,_,q⟩:=hs;exact False.elim q
 | cont =>
  obtain ⟨_,_,_,q⟩:=hs;exact False.elim q
section
variable {X:Cx} {x:Str} {p pos:Pos} {e:Expr} {es:List Expr} {t:TA} {id T:String} {r:List V->Hp->VK->Prop}
def nM (r:List V->Hp->VK->Prop) (t:TA):TE:=fun σ H Q=>t σ H fun vs H1=>r vs H1 Q
theorem Qc (hc:cI X (.builtin id) r) (hg:Gl X x) (hm:X.mg x=none) (hv:bootBuiltins x=some (.builtin id)) (ha:PA X (e::es) t) (hn:x ≠ "__name__" := by decide) (bV:(x == ("__debug__" : Str))=false:=by decide)
  (he:starEach (e::es) X.env=(false,eval e X.env)::starEach es X.env:=by rfl) (bj:(backTo pos (starEach es X.env)).any (·.1)=false:=by rfl):PE X (.Call (.Name x p) (e::es) [] pos) (nM r t):=by
 intro pins s σ H Q I h;refine wpAny_Call_Name_kw (nY I hg hm hv ?_ hn bV);exact PyProof.Rows.callWith_builtin1 (aD (ha pos pins s σ H _ I h) fun us s1 ⟨vs,H1,I1,r1,q1⟩=>hc pins s1 σ H1 vs us Q I1 r1 q1) he bj
theorem VZ (hc:cI X (.type T) r) (hg:Gl X x) (hm:X.mg x=none) (hv:bootBuiltins x=some (.type T)) (ha:PA X (e::es) t) (hn:x ≠ "__name__" := by decide) (bV:(x == ("__debug__" : Str))=false:=by decide)
  (he:starEach (e::es) X.env=(false,eval e X.env)::starEach es X.env:=by rfl) (bj:(backTo pos (starEach es X.env)).any (·.1)=false:=by rfl):PE X (.Call (.Name x p) (e::es) [] pos) (nM r t):=by
 intro pins s σ H Q I h;refine wpAny_Call_Name_kw (nY I hg hm hv ?_ hn bV);exact PyProof.Rows.callWith_type1 (aD (ha pos pins s σ H _ I h) fun us s1 ⟨vs,H1,I1,r1,q1⟩=>hc pins s1 σ H1 vs us Q I1 r1 q1) he bj
end
end L2
namespace HT
open PySem PyProof.Rows
section
open PySem.SeqAt
open PySem.AutoSeq1 (wpAny_loadPart')
open PySem.MeetsSeq PySem.MeetsSeq2 PySem.MeetsSeq3
end
section
variable {prog:Program} {w:World} {A:Around} {E:Value->Shared->Prop} {s:Shared}
theorem YJ {t b:Addr} {vs ws:List Value} {Q:Value->Shared->Prop} (ht:IsTup s.heap t vs.toArray) (hb:IsTup s.heap b ws.toArray) (hv:vs≠[])
  (h1:ws=[]->Q (.ref t) s) (h2:ws≠[]->Q (.ref s.heap.objs.size) { s with heap:=s.heap.push { cls:=.type "tuple",data:=.seq (vs++ws).toArray } })
  (hsz:vs.length+ws.length<=sizeLine):wpAny (model prog w) A (binaryOp .Add (.ref t) (.ref b)) Q E s:=by
 obtain ⟨⟨cls,dd,data,sl⟩,ho,hc,n,hd⟩:=id ht;obtain ⟨⟨cls2,xZ,data2,yq⟩,og,jc,n2,hd2⟩:=id hb;simp only at hc hd jc hd2;subst hc hd jc hd2;have e:vs.toArray++ws.toArray=(vs++ws).toArray:=by simp
 by_cases hw:ws=[]
 ·exact concat_meets ⟨_,ho,rfl⟩ ⟨_,og,rfl⟩ noFill_tuple_add seq_tuple_add PySem.F.slot_tuple_add PySem.F.entry_tuple_add (PySem.F.args_tuple_add_2 _ _)
   (tuple_addW1 t b vs.toArray ws.toArray n n2 dd xZ sl yq (by simpa using hv) (by simp [hw])) ⟨ho,og,h1 hw⟩
 ·refine concat_meets ⟨_,ho,rfl⟩ ⟨_,og,rfl⟩ noFill_tuple_add seq_tuple_add PySem.F.slot_tuple_add PySem.F.entry_tuple_add (PySem.F.args_tuple_add_2 _ _)
   (tuple_addW2 t b vs.toArray ws.toArray n n2 dd xZ sl yq (by simpa using hv) (by simpa using hw) (by rw [List.size_toArray,List.size_toArray]; exact hsz)) ⟨ho,og,?_⟩
  rw [e];exact h2 hw
def bh (n d:Nat):Option Int->Nat
 | none=>d
 | some v=>if v < 0 then (v+(n:Int)).toNat else min v.toNat n
theorem zd (n d:Nat):bh n d none=d:=rfl
theorem sj (n d k:Nat):bh n d (some (k:Int))=min k n:=by
 show (if (k:Int) < 0 then ((k:Int)+(n:Int)).toNat else min (k:Int).toNat n)=min k n;rw [if_neg (by omega),Int.toNat_natCast]
theorem Q2 (n d:Nat) (hd:d<=n) (o:Option Int):bh n d o<=n:=by
 cases o with
 | none=>exact hd
 | some v =>
  show (if v < 0 then (v+(n:Int)).toNat else min v.toNat n)<=n;by_cases hv:v < 0
  ·rw [if_pos hv]; omega
  ·rw [if_neg hv]; exact Nat.min_le_right _ _
theorem JS (v:Int) (n d:Nat):(if v < 0 then max (v+(n:Int)) 0 else min v (n:Int))=((bh n d (some v):Nat):Int):=by
 show (if v < 0 then max (v+(n:Int)) 0 else min v (n:Int))=(((if v < 0 then (v+(n:Int)).toNat else min v.toNat n):Nat):Int);by_cases hv:v < 0
 ·simp only [if_pos hv]; omega
 ·simp only [if_neg hv]; omega
theorem Vj (lo hi:Option Int) (n:Nat):Builtin.Slice.sliceAdjust lo hi 1 (n:Int)=(((bh n 0 lo:Nat):Int),((bh n n hi:Nat):Int)):=by
 have h1:¬ ((1:Int) < 0):=by omega
 unfold Builtin.Slice.sliceAdjust;simp only [h1,if_false];refine Prod.ext ?_ ?_
 ·cases lo with
  | none=>rfl
  | some v=>exact JS v n 0
 ·cases hi with
  | none=>rfl
  | some v=>exact JS v n n
theorem NH (i j:Nat):Builtin.Slice.slicePlaces (i:Int) (j:Int) 1=j - i:=by
 unfold Builtin.Slice.slicePlaces;have h1:(1:Int) > 0:=by omega
 simp only [h1,if_true,Int.ediv_one];split <;> omega
theorem Fq {v:Value} {o:Option Int} {Q:Option Int->Shared->Prop} (p:IsPart v o) (h:Q o s):wpAny (model prog w) A (Builtin.Slice.slicePartIndex v) Q E s:=by
 cases p with
 | none=>exact slicePart_none h
 | int i t=>exact slicePart_int h
theorem FG {sl:Addr} {vl vu:Value} {lo hi:Option Int} {n:Nat} {Q:Int×Int×Nat->Shared->Prop} (hs:s.heap.IsSliceOf sl vl vu .none) (pl:IsPart vl lo) (pu:IsPart vu hi)
  (h:Q (((bh n 0 lo:Nat):Int),1,bh n n hi - bh n 0 lo) s):wpAny (model prog w) A (Builtin.Slice.sliceApplied (.ref sl) (pure (n:Int))) Q E s:=by
 obtain ⟨os,lz,yn,uW⟩:=id hs;unfold Builtin.Slice.sliceApplied Builtin.Slice.sliceFields;refine wpAny_bind (wpAny_bind (wpAny_field lz uW (x:=vl) rfl (wpAny_bind (wpAny_field lz uW (x:=vu) rfl (wpAny_bind (wpAny_field lz uW (x:=.none) rfl (wpAny_pure ?_)))))));refine wpAny_bind (slicePart_none ?_);show wpAny _ _ (if ((1:Int) == 0)=true then _ else _) _ _ s;rw [if_neg (by decide)];refine wpAny_bind (Fq pl (wpAny_bind (Fq pu (wpAny_bind (wpAny_pure ?_)))));show wpAny _ _ (match Builtin.Slice.sliceAdjust lo hi 1 (n:Int) with | (lo,hi)=>pure (lo,(1:Int),Builtin.Slice.slicePlaces lo hi 1)) _ _ s;rw [Vj lo hi n];show wpAny _ _ (pure (((bh n 0 lo:Nat):Int),(1:Int),Builtin.Slice.slicePlaces ((bh n 0 lo:Nat):Int) ((bh n n hi:Nat):Int) 1)) _ _ s;rw [NH];exact wpAny_pure h
theorem ZR (xs:Array Value) (i k:Nat):((List.range k).filterMap fun (m:Nat)=>xs[((i:Int)+(m:Int) * 1).toNat]?).toArray=((xs.toList.drop i).take k).toArray:=by
 have e:(fun (m:Nat)=>xs[((i:Int)+(m:Int) * 1).toNat]?)=fun m=>xs[i+m]?:=by
  funext m
  have:((i:Int)+(m:Int) * 1).toNat=i+m:=by omega
  rw [this]
 rw [e];have:=pick_run xs i k;rw [List.filterMap_map] at this;have e2:((fun x=>xs[x]?) ∘ fun x=>i+x)=fun m=>xs[i+m]?:=rfl;rw [e2] at this;rw [this]
theorem UQ {t sl:Addr} {items:Array Value} {vl vu:Value} {lo hi:Option Int} {Q:Value->Shared->Prop} (ht:IsTup s.heap t items) (hs:s.heap.IsSliceOf sl vl vu .none) (pl:IsPart vl lo) (pu:IsPart vu hi)
  (hw:¬ (bh items.size 0 lo=0/\bh items.size items.size hi=items.size))
  (h:Q (.ref s.heap.objs.size) { s with heap:=s.heap.push { cls:=.type "tuple",data:=.seq ((items.toList.drop (bh items.size 0 lo)).take (bh items.size items.size hi - bh items.size 0 lo)).toArray } })
  (hsz:items.size<=sizeLine):wpAny (model prog w) A (getItem (.ref t) (.ref sl)) Q E s:=by
 have xH:sizeOk (.seq ((items.toList.drop (bh items.size 0 lo)).take (bh items.size items.size hi - bh items.size 0 lo)).toArray):=by
  show ((items.toList.drop (bh items.size 0 lo)).take (bh items.size items.size hi - bh items.size 0 lo)).toArray.size<=sizeLine;rw [List.size_toArray,List.length_take,List.length_drop,Array.length_toList];omega
 have hj:bh items.size items.size hi<=items.size:=Q2 _ _ (Nat.le_refl _) hi;obtain ⟨os,lz,yn,uW⟩:=id hs;have DV:s.TypeIs (.ref sl) "slice" := ⟨os,lz,yn⟩;unfold getItem
 try with_reducible refine wpAny_holding ?_
 first | refine wpAny_bind (wpAny_pure ?_) | skip
 refine wpAny_bind (wpAny_sequenceKey ht.typeIs (by decide) ?_);refine wpAny_bind (wpAny_callSpecial?_slot (name:=Str.ofString "__getitem__") ht.typeIs PyProof.Rows.slot_tuple_getitem
  (wpAny_call_entry PyProof.Rows.slot_tuple_getitem ht.typeIs entry_tuple_getitem ?_ (args_tuple_getitem _ _)))
 show wpAny _ _ (Builtin.Tuple.tupleItemsOf (.ref t) >>= _) _ _ s;refine wpAny_bind (tupleItemsOf_ ht ?_);refine wpAny_bind (wpAny_typeOf DV ?_);rw [if_pos (by decide)];refine wpAny_bind (FG hs pl pu ?_);have jX:¬ ((((bh items.size 0 lo:Nat):Int) == 0 && (1:Int) == 1 && (bh items.size items.size hi - bh items.size 0 lo) == items.size)=true):=by
  intro q;rw [Bool.and_eq_true,Bool.and_eq_true] at q;have q1:((bh items.size 0 lo:Nat):Int)=0:=eq_of_beq q.1.1;have q2:bh items.size items.size hi - bh items.size 0 lo=items.size:=eq_of_beq q.2;exact hw ⟨by omega,by omega⟩
 show wpAny _ _ (if (((bh items.size 0 lo:Nat):Int) == 0 && (1:Int) == 1 && (bh items.size items.size hi - bh items.size 0 lo) == items.size)=true then _ else _) _ _ s;rw [if_neg jX,ZR]
 first
  | exact wpAny_bind (m:=Builtin.Tuple.tupleExact _) (wpAny_newObj_type (wpAny_pure ⟨_,rfl,wpAny_pure h⟩) xH)
  | exact wpAny_bind (m:=Builtin.Tuple.tupleExact _) (wpAny_newObj_type (wpAny_bind (wpAny_pure (wpAny_pure ⟨_,rfl,wpAny_pure h⟩))) xH)
  | exact wpAny_bind (wpAny_bind (m:=Builtin.Tuple.tupleExact _) (wpAny_newObj_type (wpAny_pure (wpAny_pure ⟨_,rfl,wpAny_pure h⟩)) xH))
  | exact wpAny_bind (wpAny_bind (m:=Builtin.Tuple.tupleExact _) (wpAny_newObj_type (wpAny_pure ⟨_,rfl,wpAny_pure h⟩) xH))
end
end HT
namespace L2
open PySem PySem.Spec PyProof.Rows
abbrev TO:=St->Hp->(Option Int->Hp->Prop)->Prop
def PO (X:Cx) (e:Option Expr) (t:TO):Prop :=
 ∀ (pins:List (Addr×Obj)) (s:Shared) (σ:St) (H:Hp) (Q:Option Int->Hp->Prop),Inv X pins σ H s->t σ H Q ->
  wpAny (model X.prog X.w) X.A (evalPart e X.env) (fun u s'=>∃ o H',Inv X pins σ H' s'/\IsPart u o/\Q o H') X.xe s
def y1:TO:=fun _ H Q=>Q none H
section
variable {X:Cx} {e:Expr} {te:TE} {lo hi:Option Expr} {tl th:TO} {pos p2:Pos}
theorem Ue:PO X none y1:=by
 intro pins s σ H Q I h;rw [evalPart_none];exact wpAny_pure ⟨none,H,I,.none,h⟩
def gS (X:Cx) (r:V->Option Int->Option Int->Hp->VK->Prop):Prop :=
 ∀ (pins:List (Addr×Obj)) (s:Shared) (σ:St) (H:Hp) (x:V) (v vl vu:Value) (lo hi:Option Int) (sl:Addr) (Q:VK),Inv X pins σ H s->RelV x v->s.heap.IsSliceOf sl vl vu .none->IsPart vl lo->IsPart vu hi->r x lo hi H Q ->
  ∃ T id,typeLookup (.type T) "__getitem__" = pure (some (.builtin id))/\s.TypeIs v T/\wpAny (model X.prog X.w) X.A (getItem v (.ref sl)) (EP X pins σ Q) X.xe s
theorem gS.or {r r':V->Option Int->Option Int->Hp->VK->Prop} (h:gS X r) (h':gS X r'):gS X (fun x lo hi H Q=>r x lo hi H Q\/r' x lo hi H Q):=by
 intro pins s σ H x v vl vu lo hi sl Q I rx hs pl pu q;rcases q with q | q
 ·exact h pins s σ H x v vl vu lo hi sl Q I rx hs pl pu q
 ·exact h' pins s σ H x v vl vu lo hi sl Q I rx hs pl pu q
def zj (r:V->Option Int->Option Int->Hp->VK->Prop) (te:TE) (tl th:TO):TE:=fun σ H Q=>te σ H fun x H1=>tl σ H1 fun l H2=>th σ H2 fun u H3=>r x l u H3 Q
theorem Q8 {r:V->Option Int->Option Int->Hp->VK->Prop} (hr:gS X r) (he:PE X e te) (hl:PO X lo tl) (hu:PO X hi th):PE X (.Subscript e (.Slice lo hi none p2) pos) (zj r te tl th):=by
 intro pins s σ H Q I h;refine Subscript_ (aD (he pins s σ H _ I h) fun v s1 ⟨x,H1,I1,r1,q1⟩=>?_);refine wpAny_Slice (aD (hl pins s1 σ H1 _ I1 q1) fun vl s2 ⟨l,H2,I2,pl,q2⟩=>aD (hu pins s2 σ H2 _ I2 q2) fun vu s3 ⟨u,H3,I3,pu,q3⟩=>?_);rw [evalPart_none];refine wpAny_pure ?_;have I4:Inv X pins σ H3 { s3 with heap:=s3.heap.push { cls:=.type "slice",data:=.fields #[vl,vu,.none] } }:=I3.kept (t':=s3.toks) fun b ob q=>Heap.get?_push_of_some _ q;obtain ⟨T,id,hT,ht,hg⟩:=hr pins { s3 with heap:=s3.heap.push { cls:=.type "slice",data:=.fields #[vl,vu,.none] } } σ H3 x v vl vu l u s3.heap.objs.size Q I4 r1 (Heap.IsSliceOf.new ..) pl pu q3;show wpAny (model X.prog X.w) X.A (subscriptTail e (.Slice lo hi none p2) v (.ref s3.heap.objs.size)) (EP X pins σ Q) X.xe { s3 with heap:=s3.heap.push { cls:=.type "slice",data:=.fields #[vl,vu,.none] } };exact tail_any (ops:=[.ref s3.heap.objs.size,v]) ht hT hg (by with_unfolding_all rfl)
def fH (xs:List V) (lo hi:Option Int):List V:=(xs.drop (HT.bh xs.length 0 lo)).take (HT.bh xs.length xs.length hi - HT.bh xs.length 0 lo)
theorem Kc (xs:List V) (lo hi:Option Int):(fH xs lo hi).length<=xs.length:=by
 unfold fH;rw [List.length_take,List.length_drop];omega
def KG (K:PySem.W.Frag):V->Option Int->Option Int->Hp->VK->Prop:=fun x lo hi H Q=>∃ a xs,x=.ref a/\bJ K H a xs /\
 ¬ (HT.bh xs.length 0 lo=0/\HT.bh xs.length xs.length hi=xs.length)/\∀ p,H p=none->Q (.ref p) (upd H p (.tup (fH xs lo hi)))
theorem IG:gS X (KG X.K):=by
 intro pins s σ H x v vl vu lo hi sl Q I rx hs pl pu h;obtain ⟨a,xs,rfl,hx,hw,q⟩:=h;cases rx;obtain ⟨ao,r,ht,hz⟩:=I.tuple hx;have hlen:ao.toArray.size=xs.length:=by rw [List.size_toArray]; exact r.length.symm
 refine ⟨"tuple",_,PyProof.Rows.slot_tuple_getitem.lookup,ht.typeIs,?_⟩;refine HT.UQ ht hs pl pu (by rw [hlen]; exact hw) ?_ (by rw [hlen]; exact hz);rw [hlen];refine ⟨.ref s.heap.objs.size,_,I.laid (t':=s.toks) (o:=.tup (fH xs lo hi)) (fun b ob q=>Heap.get?_push_of_some _ q) (Nat.le_refl _) ?_,rfl,q _ (I.aB.fresh (Nat.le_refl _))⟩;exact ⟨Nat.le_trans (Kc xs lo hi) hz,_,(r.drop (HT.bh xs.length 0 lo)).take (HT.bh xs.length xs.length hi - HT.bh xs.length 0 lo),n8.new _ _⟩
def QQ (K:PySem.W.Frag):R2:=fun x y H Q=>∃ a b xs ys,x=.ref a/\y=.ref b/\bJ K H a xs/\bJ K H b ys/\xs≠[]/\xs.length+ys.length<=sizeLine /\
 (ys=[]->Q (.ref a) H)/\(ys≠[]->∀ p,H p=none->Q (.ref p) (upd H p (.tup (xs++ys))))
theorem Vals.BD {xs:List V} {us:List Value} (r:Vals xs us):us=[] ↔ xs=[]:=by
 cases r with
 | nil=>simp
 | cons _ _=>simp
theorem Sf:bg X (binaryOp .Add) (QQ X.K):=by
 intro pins s σ H x y v u Q I rx ry h;obtain ⟨a,b,xs,ys,rfl,rfl,ha,hb,hx,hz,q1,q2⟩:=h;cases rx;cases ry;obtain ⟨ao,r1,p1,_⟩:=I.tuple ha;obtain ⟨jZ,r2,p2,_⟩:=I.tuple hb;refine HT.YJ p1 p2 (fun z=>hx (r1.BD.mp z)) (fun z=>⟨.ref a,H,I,rfl,q1 (r2.BD.mp z)⟩) (fun z=>?_) (by rw [<- r1.length,<- r2.length]; exact hz);refine ⟨.ref s.heap.objs.size,_,I.laid (t':=s.toks) (o:=.tup (xs++ys)) (fun b ob q=>Heap.get?_push_of_some _ q) (Nat.le_refl _) ?_,rfl,q2 (fun w=>z (r2.BD.mpr w)) _ (I.aB.fresh (Nat.le_refl _))⟩;exact ⟨by rw [List.length_append]; exact hz,_,r1.append r2,n8.new _ _⟩
end
def gp (n:Nat) (i:Int):Option Nat:=if 0<=i then (if i < n then some i.toNat else none) else if -(n:Int)<=i then some (i+n).toNat else none
def cU {α:Type} (xs:List α) (i:Int):Option α:=(gp xs.length i).bind fun j=>xs[j]?
theorem HM {n:Nat} {i:Int} {j:Nat} (h:gp n i=some j):seqIndex? i n=some j/\j < n/\-(n:Int)<=i/\i < n:=by
 unfold gp at h;by_cases h0:0<=i
 ·rw [if_pos h0] at h;by_cases h1:i < n
  ·rw [if_pos h1] at h;have e:i.toNat=j:=Option.some.inj h;exact ⟨by rw [seqIndex_of h0 h1,e],by omega,by omega,h1⟩
  ·rw [if_neg h1] at h; cases h
 ·rw [if_neg h0] at h;by_cases h1:-(n:Int)<=i
  ·rw [if_pos h1] at h;have e:(i+n).toNat=j:=Option.some.inj h;exact ⟨by rw [seqIndex_neg (by omega) h1,e],by omega,h1,by omega⟩
  ·rw [if_neg h1] at h; cases h
theorem zo {α:Type} {xs:List α} {i:Int} {v:α} (h:cU xs i=some v):∃ j,seqIndex? i xs.length=some j/\xs[j]?=some v/\j < xs.length/\-(xs.length:Int)<=i/\i < xs.length:=by
 unfold cU at h;cases e:gp xs.length i with
 | none=>rw [e] at h; cases h
 | some j =>
  rw [e] at h;obtain ⟨h1,h2,h3,h4⟩:=HM e;exact ⟨j,h1,h,h2,h3,h4⟩
theorem iX {α:Type} {xs:List α} {j:Nat} {v:α} (h:xs[j]?=some v):cU xs (j:Int)=some v:=by
 have hj:j < xs.length:=(List.getElem?_eq_some_iff.mp h).1;have e:gp xs.length (j:Int)=some j:=by
  unfold gp;rw [if_pos (by omega),if_pos (by omega)]; simp
 unfold cU; rw [e]; exact h
theorem kL {α:Type} (xs:List α) (v:α):cU (xs++[v]) (-1)=some v:=by
 have hl:(xs++[v]).length=xs.length+1:=by simp
 have e:gp (xs++[v]).length (-1)=some xs.length:=by
  unfold gp;rw [hl,if_neg (by decide),if_pos (by omega)]
  congr 1
  omega
 unfold cU;rw [e];show (xs++[v])[xs.length]?=some v;simp
def K3 (b:Expr):Prop:=∀ o i,subscripted b false o i=operate [o,i] (getItem o i)
def fC (X:Cx) (r:R2):Prop :=
 ∀ (value slice:Expr) (pins:List (Addr×Obj)) (s:Shared) (σ:St) (H:Hp) (x y:V) (v u:Value) (Q:VK),Inv X pins σ H s->RelV x v->RelV y u->r x y H Q ->
  subscripted slice false v u=operate [v,u] (getItem v u)->wpAny (model X.prog X.w) X.A (subscriptTail value slice v u) (EP X pins σ Q) X.xe s
def cT (X:Cx) (id:String) (r:V->List V->Hp->VK->Prop):Prop :=
 ∀ (pins:List (Addr×Obj)) (s:Shared) (σ:St) (H:Hp) (x:V) (xs:List V) (v:Value) (us:List Value) (Q:VK),Inv X pins σ H s->RelV x v->Vals xs us->r x xs H Q ->
  wpAny (model X.prog X.w) X.A (call (.builtin id) (v::us)) (EP X pins σ Q) X.xe s
section
variable {X:Cx} {a b:Expr} {ta tb:TE} {pos:Pos}
theorem fC.or {r r':R2} (h:fC X r) (h':fC X r'):fC X (fun x y H Q=>r x y H Q\/r' x y H Q):=by
 intro value slice pins s σ H x y v u Q I rx ry q hs;rcases q with q | q
 ·exact h value slice pins s σ H x y v u Q I rx ry q hs
 ·exact h' value slice pins s σ H x y v u Q I rx ry q hs
theorem Uw {r:R2} (hr:fC X r) (ha:PE X a ta) (hb:PE X b tb) (hs:K3 b):PE X (.Subscript a b pos) (ir r ta tb):=by
 intro pins s σ H Q I h;exact Subscript_ (Aa ha hb I h fun v u s2 x y H2 I2 rx ry q=>hr a b pins s2 σ H2 x y v u Q I2 rx ry q (hs _ _))
def Lw (K:PySem.W.Frag):R2:=fun x y H Q=>∃ p xs i v,x=.ref p/\y=.int i/\aC K H p xs/\cU xs i=some v/\Q v H
def Gz (K:PySem.W.Frag):R2:=fun x y H Q=>∃ p xs i v,x=.ref p/\y=.int i/\bJ K H p xs/\cU xs i=some v/\Q v H
def IA:R2:=fun x y H Q=>∃ z i c,x=.str z/\y=.int i/\z.length<=sizeLine/\cU z.cps.toList i=some c/\Q (.str ⟨#[c]⟩) H
theorem Kr:fC X (Lw X.K):=by
 intro value slice pins s σ H x y v u Q I rx ry h hs;obtain ⟨p,xs,i,z,rfl,rfl,hq,he,q⟩:=h;cases rx;obtain ⟨t,rfl⟩:=ry;obtain ⟨ao,r,pl,hz⟩:=I.list hq;obtain ⟨j,h1,h2,h3,h4,h5⟩:=zo he;obtain ⟨w,ew,rw'⟩:=r.get h2;have hl:=r.length;have hn:=tG;have fin:EP X pins σ Q w s:=⟨z,H,I,rw',q⟩;by_cases h0:0<=i
 ·have hj:i.toNat=j:=by
   rw [seqIndex_of h0 h5] at h1;exact Option.some.inj h1
  exact item_listR pl.isList h0 (by omega) (by rw [hj]; simpa using ew) fin hs
 ·have hj:(i+(ao.toArray.size:Int)).toNat=j:=by
   rw [seqIndex_neg (by omega) h4] at h1;rw [List.size_toArray,<- hl];exact Option.some.inj h1
  exact subscriptTail_builtinR (x:=w) pl.isList.typeIs slot_list_getitem.lookup
   (wpAny_getItem_list_neg (Q:=fun r s'=>r=w/\EP X pins σ Q r s') pl.isList (by omega) (by rw [List.size_toArray] <;> omega) (by omega) (by rw [hj]; simpa using ew) ⟨rfl,fin⟩) hs
theorem XI:fC X (Gz X.K):=by
 intro value slice pins s σ H x y v u Q I rx ry h hs;obtain ⟨p,xs,i,z,rfl,rfl,hq,he,q⟩:=h;cases rx;obtain ⟨t,rfl⟩:=ry;obtain ⟨ao,r,pl,hz⟩:=I.tuple hq;obtain ⟨j,h1,h2,h3,h4,h5⟩:=zo he;obtain ⟨w,ew,rw'⟩:=r.get h2;have hl:=r.length;have hn:=tG;have fin:EP X pins σ Q w s:=⟨z,H,I,rw',q⟩;exact subscriptTail_builtinR (x:=w) pl.typeIs slot_tuple_getitem.lookup
  (getItem_tuple (j:=j) (Q:=fun r s'=>r=w/\EP X pins σ Q r s') pl (by omega) (by omega) (by rw [List.size_toArray,<- hl]; exact h1) (by simpa using ew) ⟨rfl,fin⟩) hs
theorem Ou:fC X IA:=by
 intro value slice pins s σ H x y v u Q I rx ry h hs;obtain ⟨z,i,c,rfl,rfl,hz,he,q⟩:=h;obtain ⟨t,rfl⟩:=rx;obtain ⟨t',rfl⟩:=ry;obtain ⟨j,h1,h2,h3,h4,h5⟩:=zo he;have hl:z.cps.toList.length=z.length:=by simp [Str.length]
 rw [hl] at h1 h4 h5;have hn:=tG;exact tail_any (typeIs_str s z t) slot_str_getitem.lookup (getItem_str (c:=c) (by
  have e1:decide (i < -(2 ^ 63:Int))=false:=decide_eq_false (by omega);have e2:decide (i ≥ 2 ^ 63)=false:=decide_eq_false (by omega);rw [e1,e2,Bool.or_false]) (by rw [h1]; simpa using h2) ⟨.str ⟨#[c]⟩,H,I.tok _,⟨_,rfl⟩,q⟩) hs
def Yz (K:PySem.W.Frag):R2:=fun x y H Q=>Lw K x y H Q\/Gz K x y H Q\/IA x y H Q
theorem Uu:fC X (Yz X.K):=Kr.or (XI.or Ou)
theorem NL (ao:List Value) (n j:Nat) (u:Value):Obj.mapSeq (·.setIfInBounds j u) { cls:=.type "list",data:=.seq ao.toArray n }={ cls:=.type "list",data:=.seq (ao.set j u).toArray n }:=by
 simp [Obj.mapSeq]
theorem Inv.lst {pins:List (Addr×Obj)} {σ:St} {H:Hp} {s:Shared} {p:Addr} {xs:List V} (I:Inv X pins σ H s) (h:H p=some (.lst xs)) :
  ∃ (ao:List Value) (n:Nat),Vals xs ao/\s.heap.get? p=some { cls:=.type "list",data:=.seq ao.toArray n }/\xs.length<=sizeLine:=by
 obtain ⟨z,ao,n,r,e⟩:=I.aB p _ h;exact ⟨ao,n,r,e,z⟩
theorem Inv.Yw {pins:List (Addr×Obj)} {σ:St} {H:Hp} {s:Shared} {p:Addr} {xs ys:List V} {ao its':List Value} {n n':Nat} {f:Obj->Obj} (I:Inv X pins σ H s) (h:H p=some (.lst xs))
  (ho:s.heap.get? p=some { cls:=.type "list",data:=.seq ao.toArray n }) (hf:f { cls:=.type "list",data:=.seq ao.toArray n }={ cls:=.type "list",data:=.seq its'.toArray n' }) (r:Vals ys its') (hz:ys.length<=sizeLine) (t:Nat) :
  Inv X pins σ (upd H p (.lst ys)) { s with heap:=s.heap.update p f,toks:=t }:=by
 have e:(s.heap.update p f).get? p=some { cls:=.type "list",data:=.seq its'.toArray n' }:=by
  rw [Heap.get?_update_self f ho (by rw [hf] <;> rfl),hf]
 refine I.write (x:=p) (e:=p) (by rw [h]; trivial) (.inl rfl) (fun b u hb q=>(Heap.get?_update_other _ _ (Ne.symm hb)).trans q) ⟨_,e⟩ ?_;exact ⟨hz,its',n',r,e⟩
def Ob:V->V->V->Hp->(Hp->Prop)->Prop:=fun o i v H Q=>∃ p xs k j,o=.ref p/\i=.int k/\H p=some (.lst xs)/\gp xs.length k=some j/\Q (upd H p (.lst (xs.set j v)))
theorem set_list:xb X Ob:=by
 intro pins s σ H o i v ov iv u Q I ro ri rv h;obtain ⟨p,xs,k,j,rfl,rfl,hp,hj,q⟩:=h;cases ro;obtain ⟨t,rfl⟩:=ri;obtain ⟨ao,n,r,ho,hz⟩:=I.lst hp;obtain ⟨h1,h2,h3,h4⟩:=HM hj;have hl:=r.length;have hn:=tG;have I':Inv X pins σ (upd H p (.lst (xs.set j v))) { s with heap:=s.heap.update p (Obj.mapSeq (·.setIfInBounds j u)) } :=
  I.Yw hp ho (NL ao n j u) (r.set rv j) (by rw [List.length_set]; exact hz) s.toks
 by_cases h0:0<=k
 ·have hk:k.toNat=j:=by
   rw [seqIndex_of h0 h4] at h1;exact Option.some.inj h1
  exact PySem.W.ki_setAt ho h0 (by omega) (by rw [List.size_toArray,<- hl]; exact h4) (by rw [hk]; exact ⟨_,I',q⟩)
 ·have hk:(k+(ao.toArray.size:Int)).toNat=j:=by
   rw [seqIndex_neg (by omega) h3] at h1;rw [List.size_toArray,<- hl];exact Option.some.inj h1
  exact PySem.W.ki_setBack ho (by omega) (by rw [List.size_toArray,<- hl]; exact h3) (by omega) (by rw [hk]; exact ⟨_,I',q⟩)
theorem Uk (lo hi:Option Int) (n:Nat):(sliceBounds lo hi none n).1=((HT.bh n 0 lo:Nat):Int)/\(sliceBounds lo hi none n).2.1=((HT.bh n n hi:Nat):Int)/\(sliceBounds lo hi none n).2.2=1:=by
 refine ⟨?_,?_,rfl⟩
 ·cases lo with
  | none=>simp [sliceBounds,HT.bh]
  | some i =>
   simp only [sliceBounds,HT.bh,Option.getD_none,show (1:Int) > 0 by decide,if_true];by_cases h:i < 0
   ·simp only [h,if_true] <;> omega
   ·simp only [h,if_false] <;> omega
 ·cases hi with
  | none=>simp [sliceBounds,HT.bh]
  | some i =>
   simp only [sliceBounds,HT.bh,Option.getD_none,show (1:Int) > 0 by decide,if_true];by_cases h:i < 0
   ·simp only [h,if_true] <;> omega
   ·simp only [h,if_false] <;> omega
theorem Zy (ao:List Value) (lo hi:Option Int):slicePick ao.toArray lo hi none=((ao.drop (HT.bh ao.length 0 lo)).take (HT.bh ao.length ao.length hi - HT.bh ao.length 0 lo)).toArray:=by
 obtain ⟨h1,h2,h3⟩:=Uk lo hi ao.toArray.size;unfold slicePick;rw [h1,h2,h3];simp only [sliceRange_one,pick_run,List.size_toArray] <;> rfl
def Uj (K:PySem.W.Frag):V->Option Int->Option Int->Hp->VK->Prop:=fun x lo hi H Q=>∃ a xs,x=.ref a/\aC K H a xs/\∀ p,H p=none->Q (.ref p) (upd H p (.lst (fH xs lo hi)))
theorem VD:gS X (Uj X.K):=by
 intro pins s σ H x v vl vu lo hi sl Q I rx hs pl pu h;obtain ⟨a,xs,rfl,hx,q⟩:=h;cases rx;obtain ⟨ao,r,ht,hz⟩:=I.list hx;have hlen:=r.length;refine ⟨"list",_,slot_list_getitem.lookup,ht.isList.typeIs,?_⟩;refine wpAny_getItem_list_slice ht.isList hs pl pu .none (by simp) ?_ (by rw [List.size_toArray] <;> omega);rw [Zy,<- hlen];refine ⟨.ref s.heap.objs.size,_,I.laid (t':=s.toks) (o:=.lst (fH xs lo hi)) (fun b ob q=>Heap.get?_push_of_some _ q) (Nat.le_refl _) ?_,rfl,q _ (I.aB.fresh (Nat.le_refl _))⟩;exact ⟨Nat.le_trans (Kc xs lo hi) hz,_,0,(r.drop (HT.bh xs.length 0 lo)).take (HT.bh xs.length xs.length hi - HT.bh xs.length 0 lo),Heap.get?_push_size _ rfl⟩
def cN:V->Bool
 | .au=>true
 | .bl _=>true
 | .int _=>true
 | .str _=>true
 | _=>false
def f6:V->V->Bool
 | .au,.au=>true
 | .bl a,.bl b=>a == b
 | .bl a,.int b=>(if a then 1 else 0) == b
 | .int a,.bl b=>a == (if b then 1 else 0)
 | .int a,.int b=>a == b
 | .str a,.str b=>a == b
 | _,_=>false
theorem JR {A:Around} {s:Shared} {y x:V} {u v:Value} (ry:RelV y u) (rx:RelV x v) (fy:cN y=true) (fx:cN x=true):SeqAt.EqAt A s u v (f6 y x):=by
 cases y with
 | au =>
  cases ry;cases x with
  | au=>cases rx; exact SeqAt.EqAt.same _
  | bl b=>cases rx; exact SeqAt.EqAt.none_bool b
  | int b=>obtain ⟨t,rfl⟩:=rx; exact SeqAt.EqAt.none_int b t
  | str b=>obtain ⟨t,rfl⟩:=rx; exact SeqAt.EqAt.none_str b t
  | _=>exact absurd (show false=true from fx) Bool.false_ne_true
 | bl a =>
  cases ry;cases x with
  | au=>cases rx; exact SeqAt.EqAt.bool_none a
  | bl b=>cases rx; exact SeqAt.EqAt.bool_bool a b
  | int b=>obtain ⟨t,rfl⟩:=rx; exact SeqAt.EqAt.bool_int a b t
  | str b=>obtain ⟨t,rfl⟩:=rx; exact SeqAt.EqAt.bool_str a b t
  | _=>exact absurd (show false=true from fx) Bool.false_ne_true
 | int a =>
  obtain ⟨t',rfl⟩:=ry;cases x with
  | au=>cases rx; exact SeqAt.EqAt.int_none a t'
  | bl b=>cases rx; exact SeqAt.EqAt.int_bool a t' b
  | int b=>obtain ⟨t,rfl⟩:=rx; exact SeqAt.EqAt.int_int a t' b t
  | str b=>obtain ⟨t,rfl⟩:=rx; exact SeqAt.EqAt.int_str a t' b t
  | _=>exact absurd (show false=true from fx) Bool.false_ne_true
 | str a =>
  obtain ⟨t',rfl⟩:=ry;cases x with
  | au=>cases rx; exact SeqAt.EqAt.str_none a t'
  | bl b=>cases rx; exact SeqAt.EqAt.str_bool a t' b
  | int b=>obtain ⟨t,rfl⟩:=rx; exact SeqAt.EqAt.str_int a t' b t
  | str b=>obtain ⟨t,rfl⟩:=rx; exact SeqAt.EqAt.str_str a t' b t
  | _=>exact absurd (show false=true from fx) Bool.false_ne_true
 | _=>exact absurd (show false=true from fy) Bool.false_ne_true
def fU (x:V) (u:Value):Bool:=match u with
 | .none=>f6 .au x
 | .bool b=>f6 (.bl b) x
 | .int i _=>f6 (.int i) x
 | .str z _=>f6 (.str z) x
 | _=>false
theorem K4 {x y:V} {u:Value} (r:RelV y u) (f:cN y=true):fU x u=f6 y x:=by
 cases y with
 | au=>cases r; rfl
 | bl b=>cases r; rfl
 | int i=>obtain ⟨t,rfl⟩:=r; rfl
 | str z=>obtain ⟨t,rfl⟩:=r; rfl
 | _=>exact absurd (show false=true from f) Bool.false_ne_true
theorem tU {x:V}:∀ {xs:List V} {us:List Value},Vals xs us->xs.all cN=true->us.any (fU x)=xs.any fun y=>f6 y x
 | _,_,.nil,_=>rfl
 | y::xs,u::us,.cons r t,f=>by
  rw [List.all_cons,Bool.and_eq_true] at f;rw [List.any_cons,List.any_cons,K4 r f.1,tU t f.2]
theorem sU {A:Around} {s:Shared} {x:V} {v:Value} (rx:RelV x v) (fx:cN x=true):∀ {xs:List V} {us:List Value},Vals xs us->xs.all cN=true->∀ u∈us,SeqAt.EqAt A s u v (fU x u)
 | _,_,.nil,_=>fun u hu=>by cases hu
 | y::xs,u::us,.cons r t,f=>fun u' hu=>by
  rw [List.all_cons,Bool.and_eq_true] at f;rcases List.mem_cons.mp hu with rfl | hu
  ·rw [K4 r f.1]; exact JR r rx f.1 fx
  ·exact sU rx fx t f.2 u' hu
def gT (x:V) (xs:List V):Bool:=xs.any fun y=>f6 y x
def Fu (K:PySem.W.Frag) (neg:Bool):R2:=fun x y H Q=>∃ p xs,y=.ref p/\(aC K H p xs\/bJ K H p xs)/\cN x=true/\xs.all cN=true/\Q (.bl (if neg then !gT x xs else gT x xs)) H
theorem Kv:bg X (compareOp .In) (Fu X.K false):=by
 intro pins s σ H x y v u Q I rx ry h;obtain ⟨p,xs,rfl,hq,fx,fs,q⟩:=h;cases ry;rcases hq with hq | hq
 ·obtain ⟨ao,r,pl,hz⟩:=I.list hq;refine SeqAt.in_listAt (fU x) pl.isList (fun w hw=>sU rx fx r fs w (by simpa using hw)) ⟨.bl _,H,I,rfl,?_⟩;rw [show ao.toArray.any (fU x)=ao.any (fU x) by simp,tU r fs];exact q
 ·obtain ⟨ao,r,pl,hz⟩:=I.tuple hq;refine SeqAt.in_tupleAt (fU x) pl (fun w hw=>sU rx fx r fs w (by simpa using hw)) ⟨.bl _,H,I,rfl,?_⟩;rw [show ao.toArray.any (fU x)=ao.any (fU x) by simp,tU r fs];exact q
theorem RE:bg X (compareOp .NotIn) (Fu X.K true):=by
 intro pins s σ H x y v u Q I rx ry h;obtain ⟨p,xs,rfl,hq,fx,fs,q⟩:=h;cases ry;rcases hq with hq | hq
 ·obtain ⟨ao,r,pl,hz⟩:=I.list hq;refine SeqAt.notIn_listAt (fU x) pl.isList (fun w hw=>sU rx fx r fs w (by simpa using hw)) ⟨.bl _,H,I,rfl,?_⟩;rw [show ao.toArray.any (fU x)=ao.any (fU x) by simp,tU r fs];exact q
 ·obtain ⟨ao,r,pl,hz⟩:=I.tuple hq;refine SeqAt.notIn_tupleAt (fU x) pl (fun w hw=>sU rx fx r fs w (by simpa using hw)) ⟨.bl _,H,I,rfl,?_⟩;rw [show ao.toArray.any (fU x)=ao.any (fU x) by simp,tU r fs];exact q
theorem YD:cI X (.type "list") (fun xs H Q=>∃ p ys,xs=[.ref p]/\(aC X.K H p ys\/bJ X.K H p ys)/\∀ l,H l=none->Q (.ref l) (upd H l (.lst ys))):=by
 intro pins s σ H xs us Q I r h;obtain ⟨p,ys,rfl,hq,q⟩:=h;obtain ⟨u,rfl,rx⟩:=vals1 r;cases rx;have fin:∀ (ao:List Value),Vals ys ao->ys.length<=sizeLine->∀ (h':Heap) (c':Nat),(∀ b o',s.heap.get? b=some o'->h'.get? b=some o') ->
   h'.get? s.heap.objs.size=some { cls:=.type "list",dict:=none,data:=.seq ao.toArray c',slots:=#[] }->EP X pins σ Q (.ref s.heap.objs.size) { s with heap:=h' }:=fun ao r' hz h' c' kp e =>
  ⟨.ref s.heap.objs.size,_,I.laid (t':=s.toks) kp (Nat.le_refl _) (show b9 X.prog X.w _ h' _ (.lst ys) from ⟨hz,ao,c',r',e⟩),rfl,q _ (I.aB.fresh (Nat.le_refl _))⟩
 rcases hq with hq | hq
 ·obtain ⟨ao,r',pl,hz⟩:=I.list hq;have hlen:=r'.length;obtain ⟨o,ho,hc,n,hd⟩:=pl.isList;exact call_list_seq p (.inl rfl) ho hc hd (fun h' c' kp e=>fin ao r' hz h' c' kp e) (by simp only [List.size_toArray] <;> omega)
 ·obtain ⟨ao,r',pl,hz⟩:=I.tuple hq;have hlen:=r'.length;obtain ⟨o,ho,hc,n,hd⟩:=pl;exact call_list_seq p (.inr rfl) ho hc hd (fun h' c' kp e=>fin ao r' hz h' c' kp e) (by simp only [List.size_toArray] <;> omega)
def VY (K:PySem.W.Frag) (T:String) (x:V) (H:Hp):Prop:=match x with
 | .str _=>T = "str"
 | .int _=>T = "int"
 | .ref p=>(T = "list" /\ ∃ xs,aC K H p xs)\/(T = "tuple" /\ ∃ o,K.lookup p=some o/\o.cls=.type "tuple" /\ o.dict=none) \/
   (T = "dict" /\ ((∃ kvs,H p=some (.dK kvs))\/∃ kvs,H p=some (.dT kvs)))\/(T = "set" /\ ∃ S n,H p=some (.set S n))
 | _=>False
theorem yD {pins:List (Addr×Obj)} {σ:St} {H:Hp} {s:Shared} {T:String} {x:V} {v:Value} (I:Inv X pins σ H s) (r:RelV x v) (ty:VY X.K T x H) :
  s.TypeIs v T/\∀ a,v=.ref a->∃ ob,s.heap.get? a=some ob/\ob.dict=none:=by
 cases x with
 | str z =>
  obtain ⟨t,rfl⟩:=r;cases (show T = "str" from ty);exact ⟨typeIs_str s z t,fun _ e=>nomatch e⟩
 | int i =>
  obtain ⟨t,rfl⟩:=r;cases (show T = "int" from ty);exact ⟨typeIs_int s i t,fun _ e=>nomatch e⟩
 | ref p =>
  cases r;rcases ty with ⟨rfl,xs,hq⟩ | ⟨rfl,o,hk,hc,hd⟩ | ⟨rfl,hk⟩ | ⟨rfl,S,n,hk⟩
  ·obtain ⟨ao,_,pl,_⟩:=I.list hq;refine ⟨pl.isList.typeIs,fun a e=>?_⟩;cases e;obtain ⟨o,n,e,c,hd,_⟩:=pl;exact ⟨o,e,hd⟩
  ·refine ⟨⟨o,I.cg p o hk,hc⟩,fun a e=>?_⟩;cases e;exact ⟨o,I.cg _ o hk,hd⟩
  ·have z:∃ o,s.heap.get? p=some o/\o.ExactDict:=by
    rcases hk with ⟨kvs,hk⟩ | ⟨kvs,hk⟩
    ·obtain ⟨_,_,_,_,o,_,_,e,ex,_⟩:=I.aB p _ hk;exact ⟨o,e,ex⟩
    ·obtain ⟨_,_,_,_,o,_,_,e,ex,_⟩:=I.aB p _ hk;exact ⟨o,e,ex⟩
   obtain ⟨o,e,ex⟩:=z;refine ⟨⟨o,e,ex.1⟩,fun a e2=>?_⟩;cases e2;exact ⟨o,e,ex.2.1⟩
  ·obtain ⟨o,_,_,_,e,ex,_⟩:=I.aB p _ hk;refine ⟨⟨o,e,ex.1⟩,fun a e2=>?_⟩;cases e2;exact ⟨o,e,ex.2.1⟩
 | _=>exact False.elim ty
variable {o e:Expr} {es:List Expr} {to:TE} {t:TA} {name:Str} {apos bu:Pos} {T id:String} {r:V->List V->Hp->VK->Prop}
/- xs.append(e),list.index on a module's tuple .. are cT facts of 06m -/
end
def wC (X:Cx) (id:String) (r:V->List V->Hp->VK->Prop):Prop :=
 ∀ (pins:List (Addr×Obj)) (s:Shared) (σ:St) (H:Hp) (x:V) (xs:List V) (v:Value) (us:List Value) (Q:VK),Inv X pins σ H s->RelV x v->Vals xs us->r x xs H Q ->
  wpAny (model X.prog X.w) X.A (call (.builtin id) (v::us)) (EP X pins σ Q) X.xe s
theorem Vals.one:∀ {x:V} {us:List Value},Vals [x] us->∃ u,us=[u]/\RelV x u
 | _,_,.cons r .nil=>⟨_,rfl,r⟩
theorem Vals.zero:∀ {us:List Value},Vals [] us->us=[]
 | _,.nil=>rfl
theorem Vals.dropLast {xs:List V} {us:List Value} (h:Vals xs us):Vals xs.dropLast us.dropLast:=by
 induction h with
 | nil=>exact .nil
 | cons r t ih =>
  cases t with
  | nil=>exact .nil
  | cons q t'=>exact .cons r ih
theorem Vals.eraseIdx:∀ {xs:List V} {us:List Value} (i:Nat),Vals xs us->Vals (xs.eraseIdx i) (us.eraseIdx i)
 | _,_,_,.nil=>.nil
 | _,_,0,.cons _ t=>t
 | _,_,i+1,.cons r t=>.cons r (Vals.eraseIdx i t)
theorem Vals.rep {xs:List V} {us:List Value} (h:Vals xs us):∀ k:Nat,Vals (List.replicate k xs).flatten (List.replicate k us).flatten
 | 0=>.nil
 | k+1=>by
  rw [List.replicate_succ,List.replicate_succ,List.flatten_cons,List.flatten_cons];exact Vals.append h (Vals.rep h k)
theorem Qd {α:Type} (l:List α):l.eraseIdx (l.length - 1)=l.dropLast:=by
 induction l with
 | nil=>rfl
 | cons a r ih =>
  cases r with
  | nil=>rfl
  | cons b r =>
   have e:(a::b::r).length - 1=((b::r).length - 1)+1:=by
    have h1:(a::b::r).length=r.length+2:=rfl;have h2:(b::r).length=r.length+1:=rfl;omega
   rw [e,List.eraseIdx_cons_succ,ih]
   all_goals rfl
theorem JU {α:Type}:∀ (l:List α) (i:Nat),(l.eraseIdx i).length<=l.length
 | [],_=>Nat.le_refl _
 | _::_,0=>Nat.le_succ _
 | _::r,i+1=>Nat.succ_le_succ (JU r i)
theorem foldl_rep (ao:List Value):∀ (k:Nat) (acc:List Value),
  List.foldl (fun x1 x2=>x1++x2) acc.toArray (List.replicate k ao.toArray)=(acc++(List.replicate k ao).flatten).toArray
 | 0,acc=>by simp
 | k+1,acc=>by
  have e:acc.toArray++ao.toArray=(acc++ao).toArray:=by simp
  have e2:(acc++ao)++(List.replicate k ao).flatten=acc++(List.replicate (k+1) ao).flatten:=by
   rw [List.replicate_succ,List.flatten_cons,List.append_assoc]
  rw [<- e2,<- foldl_rep ao k (acc++ao),<- e,List.replicate_succ,List.foldl_cons]
section
variable {X:Cx} {pins:List (Addr×Obj)} {σ:St} {H:Hp} {s:Shared} {l b:Addr} {xs ys zs:List V}
theorem Inv.wM {ao its':List Value} {n:Nat} {f:Array Value->Array Value} {t':Nat} (I:Inv X pins σ H s) (hH:H l=some (.lst xs))
  (e:s.heap.get? l=some { cls:=.type "list",data:=.seq ao.toArray n }) (hf:f ao.toArray=its'.toArray) (hv:Vals ys its') (hz:ys.length<=sizeLine) :
  Inv X pins σ (upd H l (.lst ys)) { s with heap:=s.heap.update l (Obj.mapSeq f),toks:=t' }:=by
 have q:=PySem.IsL.update e f;rw [hf] at q;refine I.write (x:=l) (e:=l) (by rw [hH]; exact trivial) (.inl rfl) (fun b' u hb hu=>(Heap.get?_update_other s.heap (Obj.mapSeq f) (Ne.symm hb)).trans hu) ⟨_,q⟩ ?_;exact ⟨hz,its',_,hv,q⟩
theorem Inv.GH {ao:List Value} {t':Nat} (I:Inv X pins σ H s) (hv:Vals ys ao) (hz:ys.length<=sizeLine) :
  Inv X pins σ (upd H s.heap.objs.size (.lst ys)) { s with heap:=s.heap.push { cls:=.type "list",data:=.seq ao.toArray },toks:=t' } :=
 I.laid (fun _ _ q=>Heap.get?_push_of_some _ q) (Nat.le_refl _) ⟨hz,ao,0,hv,Heap.get?_push_size _ rfl⟩
theorem Inv.fresh (I:Inv X pins σ H s):H s.heap.objs.size=none:=I.aB.fresh (Nat.le_refl _)
theorem Inv.lV (I:Inv X pins σ H s) (hH:H l=some (.lst xs)):xs.length<=sizeLine/\∃ (ao:List Value) (n:Nat),Vals xs ao/\xs.length=ao.length/\s.heap.get? l=some { cls:=.type "list",data:=.seq ao.toArray n }:=by
 obtain ⟨z,ao,n,r,e⟩:=I.aB l _ hH;exact ⟨z,ao,n,r,r.length,e⟩
theorem IC {n:Nat} (h:n<=sizeLine):Builtin.List.listTooLong n=false:=by
 unfold Builtin.List.listTooLong;exact decide_eq_false (by omega)
end
section
variable {X:Cx}
def UB:V->List V->Hp->VK->Prop:=fun x vs H Q=>∃ l xs y,x=.ref l/\vs=[y]/\H l=some (.lst xs)/\xs.length < sizeLine/\Q .au (upd H l (.lst (xs++[y])))
theorem Ss:wC X "list.append" UB:=by
 intro pins s σ H x vs v us Q I rx rv h;obtain ⟨l,xs,y,rfl,rfl,hH,hz,q⟩:=h;cases rx;obtain ⟨u,rfl,ru⟩:=rv.one;obtain ⟨z,ao,n,r,hl,e⟩:=I.lV hH;refine call_meets F.slot_list_append ⟨_,e,rfl⟩ F.entry_list_append (F.args_list_append_2 _ _) (PySem.list_append l ao.toArray n u (by rw [List.size_toArray]; omega)) ⟨e,?_⟩;refine ⟨.au,_,I.wM (its':=ao++[u]) hH e (by simp) (r.append (.cons ru .nil)) ?_,rfl,q⟩;rw [List.length_append,List.length_singleton];omega
def XU:V->List V->Hp->VK->Prop:=fun x vs H Q=>∃ l b xs zs,x=.ref l/\vs=[.ref b]/\H l=some (.lst xs)/\H b=some (.lst zs)/\xs.length+zs.length<=sizeLine/\Q .au (upd H l (.lst (xs++zs)))
theorem Zp:wC X "list.extend" XU:=by
 intro pins s σ H x vs v us Q I rx rv h;obtain ⟨l,b,xs,zs,rfl,rfl,hH,hB,hz,q⟩:=h;cases rx;obtain ⟨u,rfl,ru⟩:=rv.one;cases ru;obtain ⟨z,ao,n,r,hl,e⟩:=I.lV hH;obtain ⟨z2,jZ,n2,r2,cm,e2⟩:=I.lV hB;have hsz:ao.toArray.size+jZ.toArray.size<=sizeLine:=by rw [List.size_toArray,List.size_toArray]; omega
 have D9:¬ (!ao.toArray.isEmpty && Builtin.List.listTooLong (ao.toArray.size+jZ.toArray.size))=true:=by
  rw [IC hsz,Bool.and_false];exact Bool.false_ne_true
 refine call_meets F.slot_list_extend ⟨_,e,rfl⟩ F.entry_list_extend (F.args_list_extend_2 _ _)
  (AutoSeq1.list_extend_list_list_0 l ao.toArray n b jZ.toArray n2 D9 (by rw [List.size_toArray]; omega) (by omega)) ⟨e,e2,?_⟩
 refine ⟨.au,_,I.wM (its':=ao++jZ) hH e (by simp) (r.append r2) ?_,rfl,q⟩;rw [List.length_append];omega
def GY:V->List V->Hp->VK->Prop:=fun x vs H Q=>∃ l xs y,x=.ref l/\vs=[]/\H l=some (.lst xs)/\xs[xs.length - 1]?=some y/\Q y (upd H l (.lst xs.dropLast))
theorem OP:wC X "list.pop" GY:=by
 intro pins s σ H x vs v us Q I rx rv h;obtain ⟨l,xs,y,rfl,rfl,hH,hy,q⟩:=h;cases rx;have hus:=rv.zero;subst hus;obtain ⟨z,ao,n,r,hl,e⟩:=I.lV hH;obtain ⟨u,hu,ru⟩:=r.get hy;have hy':ao.toArray[ao.toArray.size - 1]?=some u:=by
  show ao.toArray[ao.length - 1]?=some u;rw [<- Array.getElem?_toList,<- hl];exact hu
 refine call_meets F.slot_list_pop ⟨_,e,rfl⟩ F.entry_list_pop (F.args_list_pop_1 _) (MeetsSeq.list_pop_last l ao.toArray n u hy' (by rw [List.size_toArray]; omega)) ⟨e,?_⟩;refine ⟨y,_,I.wM (its':=ao.dropLast) hH e ?_ r.dropLast ?_,ru,q⟩
 ·show ao.toArray.eraseIdxIfInBounds (ao.toArray.size - 1)=ao.dropLast.toArray;rw [List.size_toArray,List.eraseIdxIfInBounds_toArray,Qd]
 ·rw [List.length_dropLast];omega
def Km:V->List V->Hp->VK->Prop:=fun x vs H Q=>∃ l xs i k y,x=.ref l/\vs=[.int i]/\H l=some (.lst xs)/\-(2 ^ 63)<=i/\i < 2 ^ 63/\seqIndex? i xs.length=some k/\xs[k]?=some y/\Q y (upd H l (.lst (xs.eraseIdx k)))
theorem XO:wC X "list.pop" Km:=by
 intro pins s σ H x vs v us Q I rx rv h;obtain ⟨l,xs,i,k,y,rfl,rfl,hH,h1,h2,hk,hy,q⟩:=h;cases rx;obtain ⟨u,rfl,ru⟩:=rv.one;obtain ⟨t,rfl⟩:=ru;obtain ⟨z,ao,n,r,hl,e⟩:=I.lV hH;obtain ⟨w,hw,rw'⟩:=r.get hy;refine call_meets F.slot_list_pop ⟨_,e,rfl⟩ F.entry_list_pop (F.args_list_pop_2 _ _)
  (MeetsSeq.list_pop_at l ao.toArray n i t k w (fitsIndex_both h1 h2) (by rw [List.size_toArray,<- hl]; exact hk) (by rw [<- Array.getElem?_toList]; exact hw) (by rw [List.size_toArray]; omega)) ⟨e,?_⟩
 refine ⟨y,_,I.wM (its':=ao.eraseIdx k) hH e ?_ (r.eraseIdx k) ?_,rw',q⟩
 ·show ao.toArray.eraseIdxIfInBounds k=(ao.eraseIdx k).toArray;rw [List.eraseIdxIfInBounds_toArray]
 ·have:=JU xs k;omega
def PF:R2:=fun x y H Q=>∃ l b xs zs,x=.ref l/\y=.ref b/\H l=some (.lst xs)/\H b=some (.lst zs)/\xs.length+zs.length<=sizeLine/\∀ p,H p=none->Q (.ref p) (upd H p (.lst (xs++zs)))
theorem OO:bg X (binaryOp .Add) PF:=by
 intro pins s σ H x y v u Q I rx ry h;obtain ⟨l,b,xs,zs,rfl,rfl,hH,hB,hz,q⟩:=h;cases rx;cases ry;obtain ⟨z,ao,n,r,hl,e⟩:=I.lV hH;obtain ⟨z2,jZ,n2,r2,cm,e2⟩:=I.lV hB;refine PySem.P.add_list e e2 ?_ (by rw [List.size_toArray,List.size_toArray]; omega);have ea:ao.toArray++jZ.toArray=(ao++jZ).toArray:=by simp
 rw [ea];exact ⟨.ref _,_,I.GH (t':=s.toks) (r.append r2) (by rw [List.length_append]; omega),rfl,q _ I.fresh⟩
def YA:R2:=fun x y H Q=>∃ l k xs,x=.ref l/\y=.int k/\H l=some (.lst xs)/\-(2 ^ 63)<=k/\k < 2 ^ 63/\xs.length * k.toNat<=sizeLine /\
 ∀ p,H p=none->Q (.ref p) (upd H p (.lst (List.replicate k.toNat xs).flatten))
theorem len_rep {α:Type} (xs:List α) (k:Nat):(List.replicate k xs).flatten.length=k * xs.length:=by
 induction k with
 | zero=>simp
 | succ k ih=>rw [List.replicate_succ,List.flatten_cons,List.length_append,ih,Nat.succ_mul,Nat.add_comm]
theorem Ot:bg X (binaryOp .Mult) YA:=by
 intro pins s σ H x y v u Q I rx ry h;obtain ⟨l,k,xs,rfl,rfl,hH,h1,h2,hz,q⟩:=h;cases rx;obtain ⟨t,rfl⟩:=ry;obtain ⟨z,ao,n,r,hl,e⟩:=I.lV hH;have hlen:ao.toArray.size * k.toNat<=sizeLine:=by rw [List.size_toArray,<- hl]; exact hz
 have hcap:¬ ao.toArray.size * k.toNat > (2 ^ 63 - 1) / 8:=by
  have:(sizeLine:Nat)<=(2 ^ 63 - 1) / 8:=by decide
  omega
 have DW:¬ (!Builtin.List.listFitsIndex k)=true:=by
  rw [fitsIndex_both h1 h2];exact Bool.false_ne_true
 have D9:¬ Builtin.List.listTooLong (ao.toArray.size * k.toNat)=true:=by
  rw [IC hlen];exact Bool.false_ne_true
 have hnew:List.foldl (fun x1 x2=>x1++x2) #[] (List.replicate (if ao.toArray.isEmpty=true then 0 else k.toNat) ao.toArray)=(List.replicate k.toNat ao).flatten.toArray:=by
  have f0:∀ m:Nat,List.foldl (fun x1 x2=>x1++x2) #[] (List.replicate m ao.toArray)=(List.replicate m ao).flatten.toArray:=fun m=>by
   have:=foldl_rep ao m [];rw [List.nil_append] at this;exact this
  rw [f0];cases ao with
  | nil=>simp
  | cons a r'=>rw [if_neg (by simp)]
 refine wpAny_binaryOp_repeat_ref (T := "list") (U := "int") (by decide) ⟨_,e,rfl⟩ (fun s'=>typeIs_int s' k t) noFill_list_mul F.fills_int_mul F.slot_int_rmul repeat_list F.slot_int_index.lookup
  (call_meets F.slot_int_rmul (typeIs_int s k t) F.entry_int_rmul (F.args_int_rmul_2 _ _) (int___rmul___int_list k t l ao.toArray n)
   ⟨e,rfl,⟨_,e,rfl⟩,call_meets F.slot_list_mul ⟨_,e,rfl⟩ F.entry_list_mul (F.args_list_mul_2 _ _) (AutoListH.list___mul___list_int_3 l ao.toArray n k t DW hcap D9) ⟨e,?_⟩⟩)
 rw [hnew];exact ⟨.ref _,_,I.GH (t':=s.toks) (r.rep k.toNat) (by rw [len_rep,Nat.mul_comm]; exact hz),rfl,q _ I.fresh⟩
end
section
variable {prog:Program} {w:World} {A:Around} {E:Value->Shared->Prop} {s:Shared}
end
section
variable {X:Cx}
end
section
variable {κ:Type} [DecidableEq κ]
def aF (kvs:List (κ×V)) (k:κ):Option V:=(kvs.find? fun kv=>decide (kv.1=k)).map (·.2)
def putK (kvs:List (κ×V)) (k:κ) (v:V):List (κ×V) :=
 if (kvs.any fun kv=>decide (kv.1=k))=true then kvs.map (fun kv=>if kv.1=k then (kv.1,v) else kv) else kvs++[(k,v)]
theorem i0 {p:κ×V} {r:List (κ×V)} {k:κ} (e:p.1=k):aF (p::r) k=some p.2:=by simp [aF,List.find?_cons,e]
theorem iZ {p:κ×V} {r:List (κ×V)} {k:κ} (e:¬ p.1=k):aF (p::r) k=aF r k:=by simp [aF,List.find?_cons,e]
theorem qh (k:κ):∀ kvs:List (κ×V),(kvs.any fun kv=>decide (kv.1=k))=(aF kvs k).isSome
 | []=>rfl
 | p::r=>by
  rw [List.any_cons];by_cases e:p.1=k
  ·simp only [i0 e,decide_eq_true e,Bool.true_or,Option.isSome_some]
  ·rw [iZ e,decide_eq_false e,Bool.false_or]; exact qh k r
theorem Gk (k j:κ) (y:V):∀ kvs:List (κ×V),aF (kvs.map fun kv=>if kv.1=k then (kv.1,y) else kv) j=(aF kvs j).map fun x=>if j=k then y else x
 | []=>rfl
 | p::r=>by
  have ih:=Gk k j y r;rw [List.map_cons];by_cases h:p.1=k
  ·rw [if_pos h];by_cases e:p.1=j
   ·rw [i0 (p:=(p.1,y)) e,i0 e,Option.map_some,if_pos (e.symm.trans h)]
   ·rw [iZ (p:=(p.1,y)) e,iZ e,ih]
  ·rw [if_neg h];by_cases e:p.1=j
   ·rw [i0 (p:=p) e,i0 e,Option.map_some,if_neg (fun z=>h (e.trans z))]
   ·rw [iZ (p:=p) e,iZ e,ih]
theorem Bu (k j:κ) (y:V):∀ kvs:List (κ×V),aF kvs k=none->aF (kvs++[(k,y)]) j=if j=k then some y else aF kvs j
 | [],_=>by
  by_cases e:k=j
  ·rw [if_pos e.symm]; exact i0 (p:=(k,y)) e
  ·rw [if_neg (fun z=>e z.symm)]; exact iZ (p:=(k,y)) e
 | p::r,hn=>by
  rw [List.cons_append];have hk:¬ p.1=k:=fun z=>by rw [i0 z] at hn; cases hn
  rw [iZ hk] at hn;have ih:=Bu k j y r hn;by_cases e:p.1=j
  ·rw [i0 e,i0 e,if_neg (fun z=>hk (e.trans z))]
  ·rw [iZ e,iZ e,ih]
theorem Ti (kvs:List (κ×V)) (k j:κ) (y:V):aF (putK kvs k y) j=if j=k then some y else aF kvs j:=by
 unfold putK;by_cases a:(kvs.any fun kv=>decide (kv.1=k))=true
 ·rw [if_pos a,Gk];rw [qh] at a;by_cases e:j=k
  ·obtain ⟨x,hx⟩:=Option.isSome_iff_exists.mp a;rw [if_pos e,e,hx,Option.map_some,if_pos rfl]
  ·rw [if_neg e];cases aF kvs j with
   | none=>rfl
   | some x=>rw [Option.map_some,if_neg e]
 ·rw [if_neg a];refine Bu k j y kvs ?_;rw [qh] at a;cases q:aF kvs k with
  | none=>rfl
  | some x=>rw [q] at a; exact (a rfl).elim
theorem G3 (kvs:List (κ×V)) (k:κ) (v:V):(putK kvs k v).length<=kvs.length+1:=by
 unfold putK;split
 ·rw [List.length_map]; omega
 ·rw [List.length_append,List.length_cons,List.length_nil]; omega
theorem eM.sL {o:Option V} {u:Option Value} (r:eM o u):o.isSome=u.isSome:=by
 cases o with
 | none=>cases u with
  | none=>rfl
  | some _=>exact (show False from r).elim
 | some _=>cases u with
  | none=>exact (show False from r).elim
  | some _=>rfl
theorem eM.getD {o:Option V} {u:Option Value} {d:V} {d':Value} (r:eM o u) (rd:RelV d d'):RelV (o.getD d) (u.getD d'):=by
 cases o with
 | none=>cases u with
  | none=>exact rd
  | some _=>exact (show False from r).elim
 | some _=>cases u with
  | none=>exact (show False from r).elim
  | some _=>exact r
theorem KV.val {kvs:List (κ×V)} {vs:List (κ×Value)} (r:KV kvs vs) (k:κ):eM (aF kvs k) (valueAt vs k):=by
 unfold KV at r
 induction r with
 | nil=>exact True.intro
 | @cons p q ps qs h t ih =>
  obtain ⟨h1,h2⟩:=h;by_cases e:p.1=k
  ·have e':q.1=k:=h1.symm.trans e;have b:valueAt (q::qs) k=some q.2:=by simp [valueAt,List.find?_cons,e']
   rw [i0 e,b]; exact h2
  ·have e':¬ q.1=k:=fun z=>e (h1.trans z);have b:valueAt (q::qs) k=valueAt qs k:=by simp [valueAt,List.find?_cons,e']
   rw [iZ e,b]; exact ih
theorem KV.any {kvs:List (κ×V)} {vs:List (κ×Value)} (r:KV kvs vs) (k:κ):(kvs.any fun kv=>decide (kv.1=k))=vs.any fun kv=>decide (kv.1=k):=by
 unfold KV at r
 induction r with
 | nil=>rfl
 | cons h t ih=>rw [List.any_cons,List.any_cons,ih,h.1]
theorem KV.z6 {kvs:List (κ×V)} {vs:List (κ×Value)} (r:KV kvs vs) (k:κ) {y:V} {u:Value} (ry:RelV y u) :
  KV (kvs.map fun kv=>if kv.1=k then (kv.1,y) else kv) (vs.map fun kv=>if kv.1=k then (kv.1,u) else kv):=by
 unfold KV at r ⊢
 induction r with
 | nil=>exact .nil
 | @cons p q ps qs h t ih =>
  rw [List.map_cons,List.map_cons];refine .cons ?_ ih;obtain ⟨h1,h2⟩:=h;by_cases e:p.1=k
  ·rw [if_pos e,if_pos (h1.symm.trans e)]; exact ⟨h1,ry⟩
  ·rw [if_neg e,if_neg (fun z=>e (h1.trans z))]; exact ⟨h1,h2⟩
theorem KV.put {kvs:List (κ×V)} {vs:List (κ×Value)} (r:KV kvs vs) (k:κ) {y:V} {u:Value} (ry:RelV y u):KV (putK kvs k y) (stored vs k u):=by
 unfold putK stored;rw [r.any k];by_cases e:(vs.any fun kv=>decide (kv.1=k))=true
 ·rw [if_pos e,if_pos e]; exact r.z6 k ry
 ·rw [if_neg e,if_neg e]; exact Paired.snoc r ⟨rfl,ry⟩
theorem KV.keys {kvs:List (κ×V)} {vs:List (κ×Value)} (r:KV kvs vs):kvs.map (·.1)=vs.map (·.1):=by
 unfold KV at r
 induction r with
 | nil=>rfl
 | cons h t ih=>rw [List.map_cons,List.map_cons,ih,h.1]
theorem KV.length {kvs:List (κ×V)} {vs:List (κ×Value)} (r:KV kvs vs):kvs.length=vs.length:=Paired.length r
end
theorem oX {P:Program} {w:World} {k:Key} {u:Value} (r:RelV (kV k) u):(eK P w).is k u=true:=by
 cases k with
 | inl i=>obtain ⟨t,e⟩:=(show ∃ t,u=Value.int i t from r); subst e; exact Pa P w i t
 | inr x=>obtain ⟨t,e⟩:=(show ∃ t,u=Value.str x t from r); subst e; exact Sg P w x t
theorem GF {P:Program} {w:World}:∀ {ks:List Key} {us:List Value},Vals (ks.map kV) us->ItemsAre (eK P w) ks us
 | [],_,r=>by rw [List.map_nil] at r; cases r; exact .nil
 | k::ks,_,r=>by
  rw [List.map_cons] at r;cases r with
  | cons h t=>exact .cons (oX h) (GF t)
abbrev KT (H:Hp):List (List Key×V)->List (List Key×Addr×Value)->Prop:=Paired fun p q=>p.1=q.1/\H q.2.1=some (.tup (p.1.map kV))/\RelV p.2 q.2.2
theorem KT.val {H:Hp} {kvs:List (List Key×V)} {xs:List (List Key×Addr×Value)} (r:KT H kvs xs) (k:List Key):eM (aF kvs k) ((atKey xs k).map (·.2)):=by
 induction r with
 | nil=>exact True.intro
 | @cons p q ps qs h t ih =>
  obtain ⟨h1,_,h2⟩:=h;by_cases e:p.1=k
  ·have e':q.1=k:=h1.symm.trans e;have b:atKey (q::qs) k=some q.2:=by simp [atKey,List.find?_cons,e']
   rw [i0 e,b]; exact h2
  ·have e':¬ q.1=k:=fun z=>e (h1.trans z);have b:atKey (q::qs) k=atKey qs k:=by simp [atKey,List.find?_cons,e']
   rw [iZ e,b]; exact ih
theorem KT.z6 {H:Hp} {kvs:List (List Key×V)} {xs:List (List Key×Addr×Value)} (r:KT H kvs xs) (k:List Key) {y:V} {u:Value} (ry:RelV y u) :
  KT H (kvs.map fun kv=>if kv.1=k then (kv.1,y) else kv) (xs.map (putAt k u)):=by
 induction r with
 | nil=>exact .nil
 | @cons p q ps qs h t ih =>
  rw [List.map_cons,List.map_cons];refine .cons ?_ ih;obtain ⟨h1,h2,h3⟩:=h;unfold putAt;by_cases e:p.1=k
  ·rw [if_pos e,if_pos (h1.symm.trans e)]; exact ⟨h1,h2,ry⟩
  ·rw [if_neg e,if_neg (fun z=>e (h1.trans z))]; exact ⟨h1,h2,h3⟩
theorem KT.put {H:Hp} {kvs:List (List Key×V)} {xs:List (List Key×Addr×Value)} (r:KT H kvs xs) (k:List Key) {b:Addr} {y:V} {u:Value} (hb:H b=some (.tup (k.map kV))) (ry:RelV y u) :
  KT H (putK kvs k y) (storedH xs k b u):=by
 have e:(kvs.any fun kv=>decide (kv.1=k))=(atKey xs k).isSome:=by
  rw [qh,(r.val k).sL,Option.isSome_map]
 unfold putK storedH;rw [e];by_cases q:(atKey xs k).isSome=true
 ·rw [if_pos q,if_pos q]; exact r.z6 k ry
 ·rw [if_neg q,if_neg q]; exact Paired.snoc r ⟨rfl,hb,ry⟩
theorem KT.keeps {H H':Hp} {kvs:List (List Key×V)} {xs:List (List Key×Addr×Value)} (r:KT H kvs xs) (ht:∀ b ys,H b=some (.tup ys)->H' b=some (.tup ys)):KT H' kvs xs :=
 Paired.Az r fun _ _ z=>⟨z.1,ht _ _ z.2.1,z.2.2⟩
section
variable {P:Program} {w:World} {H:Hp} {h:Heap} {a:Addr}
theorem HF {u:HO} (ok:ck P w H h) (e:Rd H a u):b9 P w H h a u:=e.ok ok
theorem nz {kvs:List (Key×V)} (ok:ck P w H h) (e:Rd H a (.dK kvs)):kvs.length<=sizeLine/\(a == sysModules)=false/\∃ vs,KV kvs vs/\h.DictOf (eK P w) a vs :=
 show b9 P w H h a (.dK kvs) from HF ok e
theorem V7 {kvs:List (Key×V)} (ok:ck P w H h) (e:H a=some (.dK kvs)):kvs.length<=sizeLine/\(a == sysModules)=false/\∃ vs,KV kvs vs/\h.DictOf (eK P w) a vs:=nz ok (.inl e)
theorem oU {ks:List Key} (ok:ck P w H h) (e:H a=some (.tup (ks.map kV))):(tupleKind (eK P w)).is h ks a:=by
 obtain ⟨_,ao,r,o,h1,h2,n,h3⟩:=(show b9 P w H h a (.tup (ks.map kV)) from ok a _ e);exact ⟨o,ao.toArray,n,h1,h2,h3.1,by simpa using GF r⟩
theorem nS {kvs:List (List Key×V)} (ok:ck P w H h) (e:Rd H a (.dT kvs)):kvs.length<=sizeLine/\(a == sysModules)=false /\
  ∃ xs,KT H kvs xs/\h.DictOfH (tupleKind (eK P w)) a xs:=by
 obtain ⟨z,y,xs,r,o,es,ep,h1,h2,h3,h4,h5⟩:=(show b9 P w H h a (.dT kvs) from HF ok e);refine ⟨z,y,xs,r,o,es,ep,h1,h2,h3,h4,fun x hx=>?_,h5⟩;have all:∀ {l:List (List Key×V)} {m:List (List Key×Addr×Value)},KT H l m->∀ x∈m,(tupleKind (eK P w)).is h x.1 x.2.1:=by
  intro l m q
  induction q with
  | nil=>intro x hx; exact nomatch hx
  | @cons p q ps qs hq t ih =>
   intro x hx;rcases List.mem_cons.mp hx with e | hx
   ·subst e;exact oU ok (by rw [<- hq.1]; exact hq.2.1)
   ·exact ih x hx
 exact all r x hx
theorem OA {kvs:List (List Key×V)} (ok:ck P w H h) (e:H a=some (.dT kvs)):kvs.length<=sizeLine/\(a == sysModules)=false /\
  ∃ xs,KT H kvs xs/\h.DictOfH (tupleKind (eK P w)) a xs:=nS ok (.inl e)
end
def dG (H:Hp) (a:Addr) (y:V) (r:Option V):Prop :=
 (∃ kvs k,Rd H a (.dK kvs)/\y=kV k/\r=aF kvs k)\/∃ kvs k b,Rd H a (.dT kvs)/\y=.ref b/\H b=some (.tup (k.map kV))/\r=aF kvs k
def iW (H:Hp) (a:Addr) (y v:V) (H':Hp):Prop :=
 (∃ kvs k,H a=some (.dK kvs)/\y=kV k/\kvs.length < sizeLine/\H'=upd H a (.dK (putK kvs k v))) \/
 ∃ kvs k b,H a=some (.dT kvs)/\y=.ref b/\H b=some (.tup (k.map kV))/\kvs.length < sizeLine/\H'=upd H a (.dT (putK kvs k v))
theorem dG.k {H:Hp} {a:Addr} {kvs:List (Key×V)} {k:Key} (e:H a=some (.dK kvs)):dG H a (kV k) (aF kvs k):=.inl ⟨kvs,k,.inl e,rfl,rfl⟩
theorem iW.k {H:Hp} {a:Addr} {kvs:List (Key×V)} {k:Key} {v:V} (e:H a=some (.dK kvs)) (hl:kvs.length < sizeLine):iW H a (kV k) v (upd H a (.dK (putK kvs k v))):=.inl ⟨kvs,k,e,rfl,hl,rfl⟩
theorem iW.t {H:Hp} {a b:Addr} {kvs:List (List Key×V)} {k:List Key} {v:V} (e:H a=some (.dT kvs)) (eb:H b=some (.tup (k.map kV))) (hl:kvs.length < sizeLine) :
  iW H a (.ref b) v (upd H a (.dT (putK kvs k v))):=.inr ⟨kvs,k,b,e,rfl,eb,hl,rfl⟩
section
variable {X:Cx} {pins:List (Addr×Obj)} {σ:St} {H:Hp} {s:Shared} {a:Addr} {y v:V} {u r:Value} {o:Option V} {A:Around} {E:Value->Shared->Prop}
theorem Inv.big (I:Inv X pins σ H s):sysModules < s.heap.objs.size:=by
 have h:mainGlobals < s.heap.objs.size:=(I.mod.glob.keeps I.bk).lt;exact Nat.lt_trans (by decide) h
theorem WU {Q:Value->Shared->Prop} (hu:A.units+1 < cLine) (I:Inv X pins σ H s) (g:dG H a y (some v)) (ry:RelV y u) (h:∀ w' s',Inv X pins σ H s'->RelV v w'->Q w' s') :
  wpAny (model X.prog X.w) A (getItem (.ref a) u) Q E s:=by
 rcases g with ⟨kvs,k,e,ey,l⟩ | ⟨kvs,k,b,e,ey,eb,l⟩
 ·subst ey;obtain ⟨z,hd,vs,rel,dd⟩:=nz I.aB e;obtain ⟨w',hw,rw'⟩:=eM.some_of (v:=v) (o:=valueAt vs k) (by rw [l]; exact rel.val k);exact wpAny_getItem_of (oX ry) dd.mapOf hw (h w' _ (I.tok _) rw')
 ·subst ey;cases (show u=Value.ref b from ry);obtain ⟨z,hd,xs,rel,dd⟩:=nS I.aB e;obtain ⟨w',hw,rw'⟩:=eM.some_of (v:=v) (o:=(atKey xs k).map (·.2)) (by rw [l]; exact rel.val k);obtain ⟨p,hp,cJ⟩:=Option.map_eq_some_iff.mp hw;refine wpAny_getItem_heap (tupleKind_room_in1 hu) (oU I.aB eb) dd hp ?_;rw [cJ];exact h w' _ (I.tok _) rw'
theorem ZC {Q:Value->Shared->Prop} (hu:A.units+1 < cLine) (I:Inv X pins σ H s) (g:dG H a y o) (ry:RelV y u) (h:∀ s',Inv X pins σ H s'->Q (.bool o.isSome) s') :
  wpAny (model X.prog X.w) A (compareOp .In u (.ref a)) Q E s:=by
 rcases g with ⟨kvs,k,e,ey,l⟩ | ⟨kvs,k,b,e,ey,eb,l⟩
 ·subst ey;obtain ⟨z,hd,vs,rel,dd⟩:=nz I.aB e;refine wpAny_in_of (oX ry) hd dd.mapOf ?_;rw [<- (rel.val k).sL,<- l];exact h _ (I.tok _)
 ·subst ey;cases (show u=Value.ref b from ry);obtain ⟨z,hd,xs,rel,dd⟩:=nS I.aB e;refine wpAny_in_heap (tupleKind_room_in1 hu) (oU I.aB eb) hd dd ?_;have q:=(rel.val k).sL;rw [Option.isSome_map] at q;rw [<- q,<- l];exact h _ (I.tok _)
theorem UE {Q:Value->Shared->Prop} (hu:A.units+1 < cLine) (I:Inv X pins σ H s) (g:dG H a y o) (ry:RelV y u) (h:∀ s',Inv X pins σ H s'->Q (.bool (!o.isSome)) s') :
  wpAny (model X.prog X.w) A (compareOp .NotIn u (.ref a)) Q E s:=by
 rcases g with ⟨kvs,k,e,ey,l⟩ | ⟨kvs,k,b,e,ey,eb,l⟩
 ·subst ey;obtain ⟨z,hd,vs,rel,dd⟩:=nz I.aB e;refine wpAny_notIn_of (oX ry) hd dd.mapOf ?_;rw [<- (rel.val k).sL,<- l];exact h _ (I.tok _)
 ·subst ey;cases (show u=Value.ref b from ry);obtain ⟨z,hd,xs,rel,dd⟩:=nS I.aB e;refine wpAny_notIn_heap (tupleKind_room_in1 hu) (oU I.aB eb) hd dd ?_;have q:=(rel.val k).sL;rw [Option.isSome_map] at q;rw [<- q,<- l];exact h _ (I.tok _)
theorem KL {h':Heap} {t':Nat} {ob:HO} (I:Inv X pins σ H s) (mu:rD (H a)) (hs:Heap.SameBut a s.heap h') (he:∃ q,h'.get? a=some q) (new:b9 X.prog X.w (upd H a ob) h' a ob) :
  Inv X pins σ (upd H a ob) { s with heap:=h',toks:=t' } :=
 I.write (x:=a) (e:=a) mu (.inl rfl) (fun b q hb z=>(hs.2 b hb).trans z) he new
theorem QY {P:Program} {w:World} {H':Hp} {h':Heap} {kvs:List (Key×V)} {vs:List (Key×Value)} (z:kvs.length<=sizeLine) (hd:(a == sysModules)=false) (rel:KV kvs vs) (dd:h'.DictOf (eK P w) a vs) :
  b9 P w H' h' a (.dK kvs):=⟨z,hd,vs,rel,dd⟩
theorem WK {H':Hp} {Q:Unit->Shared->Prop} (hu:A.units+1 < cLine) (I:Inv X pins σ H s) (g:iW H a y v H') (ry:RelV y u) (rv:RelV v r) (h:∀ s',Inv X pins σ H' s'->Q () s') :
  wpAny (model X.prog X.w) A (setItem (.ref a) u r) Q E s:=by
 rcases g with ⟨kvs,k,e,ey,l,eH⟩ | ⟨kvs,k,b,e,ey,eb,l,eH⟩
 ·subst ey eH;obtain ⟨z,hd,vs,rel,dd⟩:=V7 I.aB e;have hz:vs.length<=sizeLine:=by rw [<- rel.length]; exact z
  have hl:(putK kvs k v).length<=sizeLine:=by have:=G3 kvs k v; omega
  refine wpAny_setItem_pairs (hsz:=hz) (oX ry) dd fun h' dd' hs=>h _ ?_;have he:∃ q,h'.get? a=some q:=let ⟨q,_,_,hq,_⟩:=dd'; ⟨q,hq⟩
  exact KL I (by rw [e]; exact True.intro) hs he (QY hl hd (rel.put k rv) dd')
 ·subst ey eH;cases (show u=Value.ref b from ry);obtain ⟨z,hd,xs,rel,dd⟩:=OA I.aB e;have hz:xs.length<=sizeLine:=by rw [<- Paired.length rel]; exact z
  have hl:(putK kvs k v).length<=sizeLine:=by have:=G3 kvs k v; omega
  refine wpAny_setItem_heap (hsz:=hz) (tupleKind_room_in1 hu) (oU I.aB eb) dd fun h' dd' hs=>h _ ?_;obtain ⟨q,es,ep,hq,h2,h3,h4,_,h5⟩:=dd';refine KL I (by rw [e]; exact True.intro) hs ⟨q,hq⟩ ⟨hl,hd,_,(rel.put k eb rv).keeps fun c ys ec=>?_,q,es,ep,hq,h2,h3,h4,h5⟩;rw [ag (YG ec e (fun z=>nomatch z))];exact ec
end
section
variable {X:Cx} {pins:List (Addr×Obj)} {σ:St} {H:Hp} {s:Shared} {a:Addr} {kvs:List (Key×V)} {k:Key} {u:Value} {A:Around} {E:Value->Shared->Prop}
end
def Bb (i:Expr):Prop:=∀ ov iv,subscripted i false ov iv=operate [ov,iv] (getItem ov iv)
theorem RJ {prog:Program} {w:World} {A:Around} {E:Value->Shared->Prop} {s:Shared} {env:Env} {value slice:Expr} {pos:Pos} {T id:String} {Q:Value->Shared->Prop}
  (hl:typeLookup (.type T) "__getitem__" = pure (some (.builtin id))) (hs:Bb slice)
  (h:wpAny (model prog w) A (eval value env) (fun o s₁=>wpAny (model prog w) A (eval slice env) (fun i s₂=>s₂.TypeIs o T/\wpAny (model prog w) A (getItem o i) Q E s₂) E s₁) E s) :
  wpAny (model prog w) A (eval (.Subscript value slice pos) env) Q E s:=by
 refine Subscript_ (wpAny_mono h (fun o s₁ h₁=>wpAny_mono h₁ (fun i s₂ h₂=>?_) fun _ _ x=>x) fun _ _ x=>x);obtain ⟨hT,h₂⟩:=h₂;unfold subscriptTail;refine wpAny_bind ?_;rw [getitemInPython_of_ne hT.not_modules];refine wpAny_bind (wpAny_specialOf hT hl ?_);have fin:wpAny (model prog w) A (subscripted slice false o i) (fun r s₃=>wpAny (model prog w) A (letTemporaryGo value o r >>= fun _=>pure r) Q E s₃) E s₂:=by
  rw [hs o i];exact wpAny_operating (wpAny_mono h₂ (fun r s₃ h₃=>wpAny_bind (wpAny_letTemporaryGo (wpAny_pure h₃))) fun _ _ x=>x)
 first
  | exact wpAny_pure (wpAny_bind fin)
  | exact wpAny_bind (wpAny_pure (wpAny_bind fin))
  | exact wpAny_bind fin
theorem XG {X:Cx} {pins:List (Addr×Obj)} {σ:St} {H:Hp} {s:Shared} {a:Addr} {y:V} {o:Option V} (I:Inv X pins σ H s) (g:dG H a y o):s.TypeIs (.ref a) "dict" := by
 rcases g with ⟨kvs,k,e,_,_⟩ | ⟨kvs,k,b,e,_,_,_⟩
 ·obtain ⟨_,_,vs,_,dd⟩:=nz I.aB e;exact dd.typeIs
 ·obtain ⟨_,_,xs,_,dd⟩:=nS I.aB e;exact dd.typeIs
def Df (td ty:TE):TE:=fun σ H Q=>td σ H fun x H1=>ty σ H1 fun y H2=>∃ a v,x=.ref a/\dG H2 a y (some v)/\Q v H2
def AE (ty td:TE):TE:=fun σ H Q=>ty σ H fun y H1=>td σ H1 fun x H2=>∃ a o,x=.ref a/\dG H2 a y o/\Q (.bl o.isSome) H2
def yV (ty td:TE):TE:=fun σ H Q=>ty σ H fun y H1=>td σ H1 fun x H2=>∃ a o,x=.ref a/\dG H2 a y o/\Q (.bl (!o.isSome)) H2
def yQ (td ty tv:TE):TS:=fun D σ H=>tv σ H fun v H1=>td σ H1 fun x H2=>ty σ H2 fun y H3=>∃ a H4,x=.ref a/\iW H3 a y v H4/\D.nx σ H4
section
variable {X:Cx} {o i e value:Expr} {pos pos' tpos:Pos} {td ty tv:TE}
theorem ZD (hu:X.A.units+1 < cLine) (ho:PE X o td) (hi:PE X i ty) (hs:Bb i):PE X (.Subscript o i pos) (Df td ty):=by
 intro pins s σ H Q I h;refine RJ PySem.F.slot_dict_getitem.lookup hs (aD (ho pins s σ H _ I h) fun u s1 ⟨x,H1,I1,rx,q1⟩=>aD (hi pins s1 σ H1 _ I1 q1) fun iv s2 ⟨y,H2,I2,ry,a,v,ex,g,q2⟩=>?_);subst ex;obtain rfl:u=Value.ref a:=rx;exact ⟨XG I2 g,WU hu I2 g ry fun w' s3 I3 rw'=>⟨v,H2,I3,rw',q2⟩⟩
theorem Sl (hu:X.A.units+1 < cLine) (hi:PE X i ty) (ho:PE X o td):PC X .In i o (AE ty td):=by
 intro pins s σ H Q I h;refine aD (hi pins s σ H _ I h) fun iv s1 ⟨y,H1,I1,ry,q1⟩=>aD (ho pins s1 σ H1 _ I1 q1) fun u s2 ⟨x,H2,I2,rx,a,ov,ex,g,q2⟩=>?_;subst ex;obtain rfl:u=Value.ref a:=rx;exact ZC hu I2 g ry fun s3 I3=>⟨.bl ov.isSome,H2,I3,rfl,q2⟩
theorem U7 (hu:X.A.units+1 < cLine) (hi:PE X i ty) (ho:PE X o td):PC X .NotIn i o (yV ty td):=by
 intro pins s σ H Q I h;refine aD (hi pins s σ H _ I h) fun iv s1 ⟨y,H1,I1,ry,q1⟩=>aD (ho pins s1 σ H1 _ I1 q1) fun u s2 ⟨x,H2,I2,rx,a,ov,ex,g,q2⟩=>?_;subst ex;obtain rfl:u=Value.ref a:=rx;exact UE hu I2 g ry fun s3 I3=>⟨.bl (!ov.isSome),H2,I3,rfl,q2⟩
theorem VQ (hu:X.A.units+1 < cLine) (ho:PE X o td) (hi:PE X i ty) (hv:PE X value tv) (hs:swapsWith value (some (.Subscript o i pos')) pos.line X.env=pure false) :
  PS X (.Assign [.Subscript o i pos'] value pos) (yQ td ty tv):=by
 intro pins s σ H D I h;refine wpAny_Assign_Subscript (aD (hv pins s σ H _ I h) fun r s1 ⟨v,H1,I1,rv,q1⟩=>aD (ho pins s1 σ H1 _ I1 q1) fun u s2 ⟨x,H2,I2,rx,q2⟩=>aD (hi pins s2 σ H2 _ I2 q2) fun iv s3 ⟨y,H3,I3,ry,a,H4,ex,g,q3⟩=>?_) hs;subst ex;obtain rfl:u=Value.ref a:=rx;exact WK hu I3 g ry rv fun s4 I4=>⟨σ,H4,I4,q3⟩
end
theorem NZ {P:Program} {w:World} {H:Hp} (h:Heap) (hb:sysModules < h.objs.size):b9 P w H (h.push { cls:=.type "dict",data:=.dict #[] }) h.objs.size (.dK []) :=
 ⟨Nat.zero_le _,beq_eq_false_iff_ne.mpr (Ne.symm (Nat.ne_of_lt hb)),[],.nil,Heap.DictOf.new h⟩
theorem Ub {P:Program} {w:World} {H:Hp} (h:Heap) (hb:sysModules < h.objs.size):b9 P w H (h.push { cls:=.type "dict",data:=.dict #[] }) h.objs.size (.dT []) :=
 ⟨Nat.zero_le _,beq_eq_false_iff_ne.mpr (Ne.symm (Nat.ne_of_lt hb)),[],.nil,_,#[],0,Heap.get?_push_size _ rfl,⟨rfl,rfl,rfl⟩,rfl,rfl,List.nodup_nil⟩
def yK:TE:=fun _ H Q=>∀ p,H p=none->Q (.ref p) (upd H p (.dK []))
def Aq:TE:=fun _ H Q=>∀ p,H p=none->Q (.ref p) (upd H p (.dT []))
section
variable {X:Cx} {pos:Pos}
theorem Xx:PE X (.Dict [] [] pos) yK:=fun pins s σ H Q I h =>
 wpAny_Dict_empty ⟨.ref s.heap.objs.size,_,I.laid (a:=s.heap.objs.size) (o:=.dK []) (t':=s.toks) (fun _ _ q=>Heap.get?_push_of_some _ q) (Nat.le_refl _) (NZ s.heap I.big),rfl,h _ (I.aB.fresh (Nat.le_refl _))⟩
theorem Vi:PE X (.Dict [] [] pos) Aq:=fun pins s σ H Q I h =>
 wpAny_Dict_empty ⟨.ref s.heap.objs.size,_,I.laid (a:=s.heap.objs.size) (o:=.dT []) (t':=s.toks) (fun _ _ q=>Heap.get?_push_of_some _ q) (Nat.le_refl _) (Ub s.heap I.big),rfl,h _ (I.aB.fresh (Nat.le_refl _))⟩
end
def Jz:List (TE×TE)->St->Hp->(List (V×V)->Hp->Prop)->Prop
 | [],_,H,Q=>Q [] H
 | (tk,tv)::r,σ,H,Q=>tk σ H fun x H1=>tv σ H1 fun y H2=>Jz r σ H2 fun ps H3=>Q ((x,y)::ps) H3
abbrev VV:List (V×V)->List (Value×Value)->Prop:=Paired fun p q=>RelV p.1 q.1/\RelV p.2 q.2
def Zk (X:Cx) (pos:Pos) (keys:List (Option Expr)) (values:List Expr) (trs:List (TE×TE)):Prop :=
 ∀ (pins:List (Addr×Obj)) (s:Shared) (σ:St) (H:Hp) (Q:List (V×V)->Hp->Prop),Inv X pins σ H s->Jz trs σ H Q ->
  wpAny (model X.prog X.w) X.A (evalPairs (pairTrees keys values X.env pos)) (fun vs s'=>∃ ps H',Inv X pins σ H' s'/\VV ps vs/\Q ps H') X.xe s
structure M1 (X:Cx) (o:Expr) (m:Str) (apos:Pos) (e:Expr) (bu:Pos):Prop where
 base:attributeBase o m X.env (eval o X.env)=eval o X.env
 GP:((backTo bu (starEach [e] X.env)).all (fun x=>!x.1) && (backToKw bu (keywordEach [] X.env)).all (fun x=>x.1.isSome)
  && decide (([e]:List Expr).length+([]:List Keyword).length+(if ([]:List Keyword).isEmpty then 0 else 1) < 30))=true
 line:(apos.endLine == bu.line)=true
 trees:backTo bu (starEach [e] X.env)=[(false,eval e X.env)]
structure M2 (X:Cx) (o:Expr) (m:Str) (apos:Pos) (e f:Expr) (bu:Pos):Prop where
 base:attributeBase o m X.env (eval o X.env)=eval o X.env
 GP:((backTo bu (starEach [e,f] X.env)).all (fun x=>!x.1) && (backToKw bu (keywordEach [] X.env)).all (fun x=>x.1.isSome)
  && decide (([e,f]:List Expr).length+([]:List Keyword).length+(if ([]:List Keyword).isEmpty then 0 else 1) < 30))=true
 line:(apos.endLine == bu.line)=true
 trees:backTo bu (starEach [e,f] X.env)=[(false,eval e X.env),(false,eval f X.env)]
def Le (H:Hp) (a:Addr):Prop:=(∃ kvs,Rd H a (.dK kvs))\/∃ kvs,Rd H a (.dT kvs)
theorem Xv {X:Cx} {pins:List (Addr×Obj)} {σ:St} {H:Hp} {s:Shared} {a:Addr} (I:Inv X pins σ H s) (d:Le H a) :
  s.TypeIs (.ref a) "dict" /\ (∀ b,Value.ref a=.ref b->∃ ob,s.heap.get? b=some ob/\ob.dict=none)/\(a == sysModules)=false:=by
 rcases d with ⟨kvs,e⟩ | ⟨kvs,e⟩
 ·obtain ⟨_,hd,vs,_,dd⟩:=nz I.aB e;refine ⟨dd.typeIs,fun b q=>?_,hd⟩;cases q;obtain ⟨ob,_,_,h1,h2,_⟩:=dd;exact ⟨ob,h1,h2.2.1⟩
 ·obtain ⟨_,hd,xs,_,dd⟩:=nS I.aB e;refine ⟨dd.typeIs,fun b q=>?_,hd⟩;cases q;obtain ⟨ob,_,_,h1,h2,_⟩:=dd;exact ⟨ob,h1,h2.2.1⟩
section
variable {X:Cx} {pins:List (Addr×Obj)} {σ:St} {H:Hp} {s:Shared} {a:Addr} {y d:V} {u r:Value} {o:Option V} {A:Around} {E:Value->Shared->Prop}
theorem We {Q:Value->Shared->Prop} (hu:A.units+1 < cLine) (I:Inv X pins σ H s) (g:dG H a y o) (ry:RelV y u) (h:∀ w' s',Inv X pins σ H s'->RelV (o.getD .au) w'->Q w' s') :
  wpAny (model X.prog X.w) A (call (.builtin "dict.get") [.ref a,u]) Q E s:=by
 rcases g with ⟨kvs,k,e,ey,l⟩ | ⟨kvs,k,b,e,ey,eb,l⟩
 ·subst ey;obtain ⟨z,hd,vs,rel,dd⟩:=nz I.aB e;refine call_meetsIn PySem.F.slot_dict_get dd.typeIs PySem.F.entry_dict_get (PySem.F.args_dict_get_2 _ _) (meets_dict_get (eK X.prog X.w) a (oX ry) hd) ⟨_,dd.mapOf,h _ _ (I.tok _) ?_⟩;rw [l];exact (rel.val k).getD rfl
 ·subst ey;cases (show u=Value.ref b from ry);obtain ⟨z,hd,xs,rel,dd⟩:=nS I.aB e;refine call_meetsIn PySem.F.slot_dict_get dd.typeIs PySem.F.entry_dict_get (PySem.F.args_dict_get_2 _ _) (meetsH_dict_get (tupleKind (eK X.prog X.w)) a b hd) ⟨tupleKind_room_in1 hu,k,xs,oU I.aB eb,dd,h _ _ (I.tok _) ?_⟩;rw [l];exact (rel.val k).getD rfl
end
def yE (td ty:TE):TE:=fun σ H Q=>td σ H fun x H1=>∃ a,x=.ref a/\Le H1 a/\ty σ H1 fun y H2=>∃ o,dG H2 a y o/\Q (o.getD .au) H2
section
variable {X:Cx} {o e f:Expr} {apos bu:Pos} {td ty tx:TE}
theorem Oc (hu:X.A.units+1 < cLine) (ho:PE X o td) (he:PE X e ty) (m:M1 X o "get" apos e bu):PE X (.Call (.Attribute o "get" apos) [e] [] bu) (yE td ty):=by
 intro pins s σ H Q I h;refine wpAny_Call_method m.base m.GP m.line PySem.F.plainAttrs_dict PySem.F.slot_dict_get PySem.F.type_dict_get (aD (ho pins s σ H _ I h) fun u s1 ⟨x,H1,I1,rx,a,ex,d,q1⟩=>?_);subst ex;obtain rfl:u=Value.ref a:=rx;obtain ⟨t1,t2,_⟩:=Xv I1 d;refine ⟨t1,t2,?_⟩;rw [m.trees];refine Calls.callWith_builtin rfl (Calls.evalArgs_plain (Calls.spliced_cons (aD (he pins s1 σ H1 _ I1 q1) fun iv s2 ⟨y,H2,I2,ry,ov,g,q2⟩=>Calls.spliced_nil ?_)));exact We hu I2 g ry fun w' s3 I3 rw'=>⟨_,H2,I3,rw',q2⟩
end
section
variable {X:Cx} {pins:List (Addr×Obj)} {σ:St} {H:Hp} {s:Shared} {a:Addr} {kvs:List (Key×V)} {A:Around} {E:Value->Shared->Prop}
end
section
variable {X:Cx} {pins:List (Addr×Obj)} {σ:St} {H:Hp} {s:Shared} {a:Addr} {y:V} {u:Value} {A:Around} {E:Value->Shared->Prop}
end
end L2
namespace Att
open PySem PySem.W PySem.Calls PyProof.Rows
theorem S0 {P:Params} {h:Heap}:∀ (ns:List Int) (vs:List Value),WellAll P h vs (ns.map WData.int)->IntsAre vs ns:=by
 intro ns
 induction ns with
 | nil =>
  intro vs w;rw [List.map_nil] at w;cases w;exact .nil
 | cons n ns ih =>
  intro vs w;rw [List.map_cons] at w;cases w with
  | cons a b =>
   cases a;exact .cons _ _ (ih _ b)
theorem SU {l:OpenLaw} {n:Nat} (hn:l.most=some n) {P:Params} {h:Heap} {args:List WData} {vals:List Value}
  (jU:l.row.toRowW.claim.pre args=true) (oC:WellAll P h vals args) :
  ∃ a vs ns,vals=[Value.ref a]/\args=[WData.list (ns.map WData.int)]/\h.get? a=some { cls:=.type "list",data:=.seq vs.toArray }/\IntsAre vs ns/\ns.length<=n:=by
 have lx:WShape.hasAll [] args [.list .int]=true:=(pre_splitW jU).1;have hc:l.pre.holds [] { args:=args }=true:=(pre_splitW jU).2;obtain ⟨d,r,rfl,h1,h2⟩:=hasAllW_cons lx;obtain rfl:=hasAllW_nil h2;obtain ⟨xs,rfl,h3⟩:=hasW_list h1;obtain ⟨ns,rfl⟩:=items_int h3;have hlen:ns.length<=n:=by
  unfold OpenLaw.pre at hc;have h4:(WTm.not (.lt (.lit (.int (n:Int))) (.len (.arg 0)))).holds [] { args:=[.list (ns.map .int)] }=true:=by
   have h4:=(holds_andW hc).1;rw [hn] at h4;exact h4
  have h5:=condW_of h4 (w_not (w_lt w_lit (w_len_list (w_arg rfl))));rw [List.length_map] at h5;refine Nat.le_of_not_lt fun q=>?_;have q':(n:Int) < ((ns.length:Nat):Int):=by omega
  first
   | (rw [decide_eq_true q'] at h5; exact absurd h5 (by decide))
   | (simp at h5; omega)
 cases oC with
 | cons w1 w2 =>
  cases w2;cases w1 with
  | list ho gD=>exact ⟨_,_,ns,rfl,rfl,ho,S0 ns _ gD,hlen⟩
theorem Yq (l:OpenLaw) (args:List WData):l.row.toRowW.claim.post args (.bool true) args=true :=
 postW_of (r:=l.row.toRowW) (X:=(true == true))
  (show WShape.has [] (.bool true) .bool=true by first | rfl | decide | simp [WShape.has,WShape.arms,WShape.armsAll])
  (show (WTm.eq .res (.lit (.bool true))).value [] { args:=args,res:=some (.bool true),after:=args }=some (.bool (true == true)) from w_eq_bool (w_res rfl) w_lit) rfl
theorem Wv {l:OpenLaw} {n:Nat} {q:Program} {loose:List Str} {XP:(Str->Option Value)->Heap->Prop} {YP:World->Heap->Prop} {d:DefRec}
  (hn:l.most=some n) (u4:d.params.defaults=[])
  (call:∀ (w:World) (s₀ s₁:Shared) (mg mb:Str->Option Value) (fa:Addr) (o:Obj) (pm cd doc:Value) (a:Addr) (vs:List Value) (ns:List Int),
   Ground q loose [] XP w s₀ mg mb s₁.heap->YP w s₁.heap ->
   s₁.heap.get? fa=some o->o.data=.func (docDef d.name d.params d.body d.scope pm cd doc)->s₁.heap.CodeRec cd d.name->mg d.name=some (.ref fa) ->
   s₁.heap.get? a=some { cls:=.type "list",data:=.seq vs.toArray }->IntsAre vs ns->ns.length<=n->s₁.gens=#[] ->
   codeAny (model l.prog w) callerA (.call (.ref fa) ⟨[.ref a],[]⟩) (fun r s'=>r=.ok (.ret (.bool true))/\OldK s₁.heap s'.heap/\s'.os=s₁.os/\AllBare s'.gens) s₁) :
  WalkO q loose XP YP l.row.toRowW d [] (fun f vs=>PySem.call f vs):=by
 intro w s₀ s₁ mg mb G Y fa o pm cd doc dV kV ho hd dj hD hmg hg args vals as jU hlay gG oC hlo;obtain rfl:dV=.none:=Dflts.none hD u4;obtain rfl:kV=.none:=Dflts.noKw hD;obtain ⟨a,vs,ns,rfl,rfl,vd,hints,hlen⟩:=SU hn jU oC;refine enter_call (codeAny_mono (call w s₀ s₁ mg mb fa o pm cd doc a vs ns G Y ho (fd_plain hd) dj hmg vd hints hlen hg) fun r s' hq=>?_);obtain ⟨rfl,h2,h3,h4⟩:=hq;exact ⟨.inl ⟨.bool true,.bool true,[],rfl,fun _=>rfl,.bool true,Yq l _,fun _=>⟨List.Pairwise.nil,fun _ hm=>(nomatch hm)⟩⟩,h2,h3,h4⟩
section
variable {prog:Program} {w:World} {A:Around} {E:Value->Shared->Prop} {s:Shared} {K:Frag}
end
end Att
namespace L2
open PySem PySem.Spec PyProof.Rows
theorem IE:∀ {vs:List Value} {ns:List Int},IntsAre vs ns->Vals (ns.map V.int) vs
 | _,_,.nil=>.nil
 | _,_,.cons n t h=>.cons ⟨t,rfl⟩ (IE h)
def t8 (H:Hp):Prop:=∀ b,H b=none\/∃ o xs,H b=some (.eS o (.lst xs))
theorem WW {P:Program} {w:World} {K:PySem.W.Frag} {mg mb:Str->Option Value} {CX:eT} {k:Nat} {fa a:Addr} {fd:FuncData} {x:Str} {sp:Sp} {s₁:Shared} {vs:List Value} {ns:List Int}
  (KX:K.In s₁.heap) (gP:s₁.heap.Ns mainGlobals mg) (hb:s₁.heap.Ns builtinsNs mb) (hbb:∀ x:Str,x ≠ "__name__" -> mb x=bootBuiltins x) (hlim:s₁.heap.NoLimit) (hg:s₁.gens=#[])
  (ha:s₁.heap.get? a=some { cls:=.type "list",data:=.seq vs.toArray }) (hi:IntsAre vs ns) (hl:ns.length<=sizeLine) (hr:bH k callerA)
  (F:∀ base:Heap,K.In base->base.Ns mainGlobals mg->az P w K mg base CX k fa fd [x] sp) (hbind:∀ (s:Shared) (u:Value),BindsTo s fd ⟨[u],[]⟩ [(x,u)])
  (gH:∀ H:Hp,t8 H->aC K H a (ns.map V.int)->sp [.ref a] H (fun v _=>v=.bl true) fun _ _ _=>False)
  (Ex:∀ H e s',CX [] H s₁ (fun _ _ _=>False) e s'->False) :
  codeAny (model P w) callerA (.call (.ref fa) ⟨[.ref a],[]⟩) (fun r s'=>r=.ok (.ret (.bool true))/\OldK s₁.heap s'.heap/\s'.os=s₁.os/\AllBare s'.gens) s₁:=by
 have rv:=IE hi;have lenV:=hi.length
 -- from an abstract heap in which nothing but ib script may be tracked
 have core:∀ H:Hp,t8 H->aC K H a (ns.map V.int)->ck P w H s₁.heap->(∀ b,H b≠none->b=a)->(H a≠none->K.lookup a=none) ->
   codeAny (model P w) callerA (.call (.ref fa) ⟨[.ref a],[]⟩) (fun r s'=>r=.ok (.ret (.bool true))/\OldK s₁.heap s'.heap/\s'.os=s₁.os/\AllBare s'.gens) s₁:=by
  intro H hO hS aB hA hK;have MR:∀ {b:Addr} {o:Obj},s₁.heap.get? b=some o->H b=none->(j4 s₁.heap H).get? b=some o:=fun e n=>TB e n;have uF:∀ {b:Addr} {o:Obj} {es:Array DictEntry} {ep:Nat},s₁.heap.get? b=some o->o.data=.dict es ep->H b=none:=fun {b o es ep} e d=>by
   cases q:H b with
   | none=>rfl
   | some u =>
    have e':b=a:=hA b (by rw [q]; simp);subst e';rw [ha] at e; cases e;have d':Data.seq vs.toArray _=Data.dict es ep:=d;cases d'
  have yj:∀ {b:Addr} {m:Str->Option Value},s₁.heap.Ns b m->(j4 s₁.heap H).Ns b m:=fun {b m} ⟨o,es,ep,e,d,r⟩=>⟨o,es,ep,MR e (uF e d),d,r⟩;have Mn:K.In (j4 s₁.heap H):=fun b o e=>MR (KX b o e) (by
   cases q:H b with
   | none=>rfl
   | some u =>
    have e':b=a:=hA b (by rw [q]; simp);subst e';rw [hK (by rw [q]; simp)] at e; cases e)
  have hM:Mod K mg (j4 s₁.heap H):=⟨Mn,yj gP,⟨mb,yj hb,hbb⟩,let ⟨mc,h1,h2⟩:=hlim; ⟨mc,yj h1,h2⟩⟩;have e0:lO P w K mg (j4 s₁.heap H) callerA [] s₁ H:=⟨rfl,hM,fun b o e=>Zv e,Nat.le_of_eq (WN _ _),trivial,fun b hb=>absurd (show b∈([]:List Addr) from hb) (by simp),aB,.of_eq hg⟩;refine codeAny_mono ((F _ Mn (yj gP)).run callerA [] s₁ H ⟨[.ref a],[]⟩ [.ref a] [.ref a] _ _ hr e0 (hbind s₁ (.ref a)) (.cons rfl .nil) (gH H hO hS)) fun r s' h=>?_;cases r with
  | error e=>exact (Ex H e s' h).elim
  | ok fl =>
   cases fl with
   | next=>exact False.elim h
   | brk=>exact False.elim h
   | cont=>exact False.elim h
   | ret u =>
    obtain ⟨v,H',os,bare,un,hok',r',q⟩:=h;have q':v=.bl true:=q;subst q';obtain rfl:u=Value.bool true:=r';refine ⟨rfl,OldK.of_keep fun b o e=>?_,os,bare⟩;cases q:H b with
    | none=>exact un.keep b o e q (by intro z; exact absurd (show b∈([]:List Addr) from z) (by simp)) (by simp)
    | some u =>
     rcases hO b with z | ⟨ob,xs,z⟩
     ·rw [q] at z; cases z
     ·have z2:=un.gi b ob _ z;obtain ⟨e1,_⟩:=aB b _ z;obtain ⟨e2,_⟩:=hok' b _ z2;rw [e] at e1; cases e1;exact e2
 cases hk:K.lookup a with
 | some o =>
  -- ib script is one of ib module's own objects
  have e:=KX a o hk;rw [ha] at e;cases e;refine core (fun _=>none) (fun _=>.inl rfl) (.inr ⟨_,vs.toArray,_,hk,rfl,rfl,rfl,by rw [List.size_toArray,lenV]; exact hl,by simpa using rv⟩) (fun b u z=>by have z':(none:Option HO)=some u:=z; cases z') (fun b z=>absurd rfl z) fun z=>absurd rfl z
 | none =>
  refine core (fun b=>if b=a then some (.eS { cls:=.type "list",data:=.seq vs.toArray } (.lst (ns.map V.int))) else none) (fun b=>?_) (.inl (.inr ⟨{ cls:=.type "list",data:=.seq vs.toArray },if_pos rfl⟩)) (fun b u z=>?_) (fun b z=>?_) fun _=>hk
  ·by_cases hb:b=a
   ·exact .inr ⟨_,_,if_pos hb⟩
   ·exact .inl (if_neg hb)
  ·by_cases hb:b=a
   ·have z':=(if_pos hb).symm.trans z;cases z';subst hb;exact ⟨ha,by rw [List.length_map]; exact hl,vs,_,rv,ha⟩
   ·have z':=(if_neg hb).symm.trans z;cases z'
  ·by_cases hb:b=a
   ·exact hb
   ·exact absurd (if_neg hb) z
abbrev ZW {K:PySem.W.Frag} {h:Heap} (_:K.In h):PySem.W.Frag:=K
theorem WX {l:PySem.W.OpenLaw} {n k:Nat} {q:Program} {loose:List Str} {XP:(Str->Option Value)->Heap->Prop} {YP:World->Heap->Prop} {d:DefRec} {K:Params->PySem.W.Frag} {CX:World->eT} {sp:World->Sp} {x:Str}
  (hn:l.most=some n) (gJ:n<=sizeLine) (u4:d.params.defaults=[]) (hr:bH k callerA)
  (hY:∀ (w:World) (h:Heap),YP w h->(K w.params).In h)
  (F:∀ (w:World) (mg:Str->Option Value) (fa:Addr) (h:Heap),(K w.params).In h->h.Ns mainGlobals mg->mg d.name=some (.ref fa) ->
   ∃ fd:FuncData,(∀ (s:Shared) (u:Value),BindsTo s fd ⟨[u],[]⟩ [(x,u)]) /\
    ∀ base:Heap,(K w.params).In base->base.Ns mainGlobals mg->az l.prog w (K w.params) mg base (CX w) k fa fd [x] (sp w))
  (gH:∀ (w:World) (H:Hp) (a:Addr) (ns:List Int),ns.length<=n->t8 H->aC (K w.params) H a (ns.map V.int)->sp w [.ref a] H (fun v _=>v=.bl true) fun _ _ _=>False)
  (Ex:∀ (w:World) (H:Hp) (s:Shared) (e:Value) (s':Shared),CX w [] H s (fun _ _ _=>False) e s'->False) :
  PySem.W.WalkO q loose XP YP l.row.toRowW d [] (fun f vs=>PySem.call f vs):=by
 refine Att.Wv hn u4 fun w s₀ s₁ mg mb fa o pm cd doc a vs ns G Y ho hd dj hmg vd hints hlen hg=>?_;have KX:=hY w _ Y;obtain ⟨fd,hb,hF⟩:=F w mg fa _ KX G.T.g hmg;exact WW KX G.T.g G.T.b G.T.builtins G.T.nolimit hg vd hints (Nat.le_trans hlen gJ) hr hF hb (fun H hO hS=>gH w H a ns hlen hO hS) fun H e s'=>Ex w H s₁ e s'
def inClass (s:Stmt) (j:Nat):Stmt:=match s with
 | .ClassDef _ _ _ body _ _ _ _ _ _ _=>body.getD j (.Pass ⟨0,0,0,0⟩)
 | _=>.Pass ⟨0,0,0,0⟩
def eZ (s:Stmt):Arguments:=match s with
 | .FunctionDef _ a _ _ _ _ _ _ _ _=>a
 | _=>{ posonlyargs:=[],args:=[],vararg:=none,kwonlyargs:=[],kw_defaults:=[],kwarg:=none,defaults:=[] }
def aV (s:Stmt):List Stmt:=match s with
 | .FunctionDef _ _ b _ _ _ _ _ _ _=>b
 | _=>[]
def aA (s:Stmt):Scope:=match s with
 | .FunctionDef _ _ _ _ _ _ sc _ _ _=>sc
 | _=>{ kind:=.function,names:=[],isGenerator:=false,isCoroutine:=false }
abbrev aJ:eT:=fun _ _ _ _ _ _=>False
abbrev E0:XK:=fun _ _ _=>False
theorem aq {X:Cx}:Passes aJ X E0:=fun _ _ _ _ _ _ _ h=>h.elim
structure jk (K:PySem.W.Frag) (x qual:Str) (st:Stmt) (f:Addr) (fd:FuncData):Prop where
 ex:∃ (oc:Value) (od:Option Addr) (kV doc pm:Value) (an:Option Addr) (aw ct:Value) (dW:Array (Option Value)),
  fd=PySem.W.fnOf x qual (eZ st) (aV st) (aA st) .none kV doc pm an aw ct/\K.lookup f=some ⟨oc,od,.func fd,dW⟩/\PySem.W.codeIn K aw qual=true
 kp:PySem.W.keepIn K (.ref f)=true
section
variable {P:Program} {w:World} {K:PySem.W.Frag} {mg:Str->Option Value} {base:Heap}
theorem jk.ok {x qual:Str} {st:Stmt} {f:Addr} {fd:FuncData} {N ps:List Str} {k:Nat} {sp:Sp} (F:jk K x qual st f fd) (S:aE N ps (aA st)) (len:∀ vs H Q E,sp vs H Q E->vs.length=ps.length)
  (ER:∀ (aw:Value) (A:Around) (outer:List Env) (s:Shared) (H:Hp) (vs:List V) (Q:VK) (E:XK),bH k (A.deeper (envOfC qual (aA st) s.heap.objs.size f aw))->sp vs H Q E ->
   ∃ t,dE (gU aJ P w K mg base N qual (aA st) f aw A outer s H E).pz (aV st) t/\t { nx:=fun _ H'=>Q .au H',rt:=Q } (start N vs) H):az P w K mg base aJ (k+1) f fd ps sp:=by
 obtain ⟨oc,od,kV,doc,pm,an,aw,ct,dW,rfl,lk,dj⟩:=F.ex;refine Cv lk dj S len fun A outer s H vs Q E hr gH=>?_;obtain ⟨t,h,q⟩:=ER aw A outer s H vs Q E hr gH;exact ⟨t,h.pz,q⟩
theorem jk.binds {x qual:Str} {st:Stmt} {f:Addr} {fd:FuncData} {ps:List Str} (F:jk K x qual st f fd)
  (h:∀ (kV doc pm:Value) (an:Option Addr) (aw ct:Value) (us:List Value),us.length=ps.length->bindArgs (PySem.W.fnOf x qual (eZ st) (aV st) (aA st) .none kV doc pm an aw ct) ⟨us,[]⟩=pure (ps.zip us)):Binds K fd ps []:=by
 obtain ⟨oc,od,kV,doc,pm,an,aw,ct,dW,rfl,lk,dj⟩:=F.ex;exact .all (h kV doc pm an aw ct)
theorem CY {x qual:Str} {st:Stmt} {f:Addr} {oc:Value} {od an:Option Addr} {dW:Array (Option Value)} {kV doc pm aw ct:Value} (l:K.lookup f=some ⟨oc,od,.func (PySem.W.fnOf x qual (eZ st) (aV st) (aA st) .none kV doc pm an aw ct),dW⟩)
  (c:PySem.W.codeIn K aw qual=true) (k:PySem.W.keepIn K (.ref f)=true):jk K x qual st f (PySem.W.fnOf x qual (eZ st) (aV st) (aA st) .none kV doc pm an aw ct):=⟨⟨oc,od,kV,doc,pm,an,aw,ct,dW,rfl,l,c⟩,k⟩
end
theorem fg {A:Around} {k:Nat} (hr:bH k A):A.units+1 < cLine:=Nat.lt_of_le_of_lt (Nat.add_le_add_left (by decide:1<=64) _) hr.units
theorem Fd {n:Nat} (h:n<=1000):n < sizeLine:=Nat.lt_of_le_of_lt h (by decide)
section
variable {X:Cx}
theorem pv (i:Nat) {x:Str} {pos:Pos} (hN:X.N[i]?=some x:=by rfl) (hv:rC X.env.scope x:=by first | exact Or.inl rfl | exact Or.inr (Or.inl rfl) | exact Or.inr (Or.inr rfl)) (hd:(x == ("__debug__" : Str))=false:=by decide)
  (dj:(x == ("__classdict__" : Str))=false:=by decide):PE X (.Name x pos) (Jb i):=IU hN hv hd dj
end
theorem aY {A B:Prop} (h:B):if false=true then A else B:=by
 rw [if_neg Bool.false_ne_true];exact h
theorem bT {A B:Prop} (h:A):if true=true then A else B:=by
 rw [if_pos rfl];exact h
theorem kx {c A B:Prop} [Decidable c] (h1:c->A) (h2:¬ c->B):if c then A else B:=by
 by_cases h:c
 ·rw [if_pos h];exact h1 h
 ·rw [if_neg h];exact h2 h
def ah (H H':Hp):Prop:=∀ b o,H b=some o->H' b=some o
theorem ah.refl (H:Hp):ah H H:=fun _ _ h=>h
theorem ah.trans {H H1 H2:Hp} (a:ah H H1) (b:ah H1 H2):ah H H2:=fun c o h=>b c o (a c o h)
theorem ah.free {H H':Hp} (e:ah H H') {l:Addr} (h:H' l=Option.none):H l=Option.none:=by
 cases q:H l with
 | none=>rfl
 | some o =>
  rw [e l o q] at h;cases h
theorem ah.seq {K:PySem.W.Frag} {H H':Hp} {a:Addr} {xs:List V} (e:ah H H') (h:aC K H a xs):aC K H' a xs:=by
 rcases h with (h | ⟨o,h⟩) | h
 ·exact .inl (.inl (e _ _ h))
 ·exact .inl (.inr ⟨o,e _ _ h⟩)
 ·exact .inr h
section
variable {X:Cx}
end
section
variable {κ:Type} [DecidableEq κ]
end
end L2
namespace Tx
open PySem PySem.Builtin PySem.Builtin.Str PySem.StrLaws
def S (l:List Nat):Str:=⟨l.toArray⟩
theorem jM (l:List Nat):(S l).cps.toList=l:=by simp [S]
theorem zb (s:Str):S s.cps.toList=s:=by cases s; simp [S]
theorem cq (l:List Nat):(S l).length=l.length:=by simp [S,Str.length]
theorem pS (h:S a=S b):a=b:=by
 have:=congrArg (fun s=>s.cps.toList) h
 simpa [jM] using this
theorem oM (a b:List Nat):S a++S b=S (a++b):=by
 apply Str.ext';rw [Str.cps_append];simp [S]
theorem me (c:Nat):(S [c]).length=1:=by rw [cq]; rfl
theorem subAt_one (x:List Nat) (c i:Nat) (h:i < x.length):subAt (S x) (S [c]) i=decide (x[i]?=some c):=by
 rw [subAt_eq,jM,jM,me];rw [List.drop_eq_getElem_cons h,List.take_succ_cons,List.take_zero,List.getElem?_eq_getElem h];by_cases e:x[i]=c
 ·simp [e]
 ·simp [e]
theorem PZ (x:List Nat) (c:Nat):(!(occurrences (S x) (S [c]) 0 (S x).length 1).isEmpty)=x.contains c:=by
 rw [Bool.eq_iff_iff,found_iff,me,cq];constructor
 ·rintro ⟨i,h1,h2⟩;rw [subAt_one x c i (by omega)] at h2;have h3:=of_decide_eq_true h2;exact List.elem_iff.mpr (List.mem_of_getElem? h3)
 ·intro h;obtain ⟨i,hi,e⟩:=List.getElem_of_mem (List.elem_iff.mp h);refine ⟨i,by omega,?_⟩;rw [subAt_one x c i hi,List.getElem?_eq_getElem hi,e];simp
def cut (c:Nat):List Nat->List (List Nat)
 | []=>[[]]
 | a::r=>if a=c then []::cut c r else match cut c r with
  | []=>[[a]]
  | h::t=>(a::h)::t
theorem VX (c:Nat):∀ l,cut c l≠[]
 | []=>by simp [cut]
 | a::r=>by
  unfold cut;split
  ·simp
  ·split <;> simp
def cW (c:Nat):Nat->List Nat->List Nat
 | _,[]=>[]
 | k,a::r=>if a=c then k::cW c (k+1) r else cW c (k+1) r
theorem Fc (c:Nat):∀ (l:List Nat) (k j:Nat),cW c (k+j) l=(cW c k l).map (· + j)
 | [],_,_=>rfl
 | a::r,k,j=>by
  unfold cW;have e:k+j+1=(k+1)+j:=by omega
  rw [e,Fc c r (k+1) j];split <;> simp
theorem Aw (x:List Nat) (c limit:Nat):∀ (l:List Nat) (k:Nat) (acc:Array Nat) (free:Nat),x.drop k=l->free<=k->acc.size+l.length < limit->k<=x.length ->
  (forIn (List.range' k (x.length+1 - k)) (acc,free) (occBody (S x) (S [c]) x.length limit)).run.fst.toList=acc.toList++cW c k l
 | [],k,acc,free,hd,hf,hl,hk=>by
  have hk2:k=x.length:=by
   have:=congrArg List.length hd;simp at this;omega
  have e:x.length+1 - k=1:=by omega
  have e1:List.range' k 1=[k]:=rfl;rw [e,e1,List.forIn_cons];unfold occBody;have hc:¬ (((((acc,free):Array Nat×Nat).fst.size < limit/\((acc,free):Array Nat×Nat).snd<=k)/\k+(S [c]).length<=x.length)/\subAt (S x) (S [c]) k=true):=by
   rw [me];rintro ⟨⟨_,h⟩,_⟩;omega
  rw [if_neg hc];simp [cW]
 | a::r,k,acc,free,hd,hf,hl,hk=>by
  have b8:k < x.length:=by
   have:=congrArg List.length hd;simp at this;omega
  have e:x.length+1 - k=(x.length+1 - (k+1))+1:=by omega
  have hx:x[k]?=some a:=by
   have h1:(x.drop k)[0]?=some a:=by rw [hd]; rfl
   rw [List.getElem?_drop] at h1
   simpa using h1
  have hr:x.drop (k+1)=r:=by
   rw [<- List.drop_drop,hd]; rfl
  rw [e,List.range'_succ,List.forIn_cons];unfold occBody;simp only [List.length_cons] at hl;by_cases cQ:a=c
  ·have hc:(((((acc,free):Array Nat×Nat).fst.size < limit/\((acc,free):Array Nat×Nat).snd<=k)/\k+(S [c]).length<=x.length)/\subAt (S x) (S [c]) k=true):=by
    rw [me,subAt_one x c k b8,hx,cQ];refine ⟨⟨⟨?_,hf⟩,by omega⟩,by simp⟩;show acc.size < limit;omega
   rw [if_pos hc];have ih:=Aw x c limit r (k+1) (acc.push k) (k+(S [c]).length) hr (by rw [me]; omega) (by simp; omega) (by omega);refine Eq.trans ih ?_;rw [show cW c k (a::r)=k::cW c (k+1) r from if_pos cQ];simp
  ·have hc:¬ (((((acc,free):Array Nat×Nat).fst.size < limit/\((acc,free):Array Nat×Nat).snd<=k)/\k+(S [c]).length<=x.length)/\subAt (S x) (S [c]) k=true):=by
    rw [subAt_one x c k b8,hx];rintro ⟨_,h⟩;exact cQ (Option.some.inj (of_decide_eq_true h))
   rw [if_neg hc];have ih:=Aw x c limit r (k+1) acc free hr (by omega) (by omega) (by omega);refine Eq.trans ih ?_
   conv=>rhs; unfold cW
   rw [if_neg cQ]
theorem yU (x:List Nat) (c:Nat):occurrences (S x) (S [c]) 0 (S x).length ((S x).length+1)=cW c 0 x:=by
 rw [occ_eq,cq];have h:=Aw x c (x.length+1) x 0 #[] 0 rfl (Nat.le_refl _) (by simp) (Nat.zero_le _);rw [h];simp
def pieces (l:List Nat) (ps:List Nat):List (List Nat):=((0::ps.map (· + 1)).zip (ps++[l.length])).map fun p=>(l.drop p.1).take (p.2 - p.1)
theorem rF (c:Nat):∀ l:List Nat,pieces l (cW c 0 l)=cut c l
 | []=>rfl
 | a::r=>by
  have ih:=rF c r;have sh:cW c (0+1) r=(cW c 0 r).map (· + 1):=Fc c r 0 1;have tail:∀ (A B:List Nat),((A.map (· + 1)).zip (B.map (· + 1))).map (fun p:Nat×Nat=>((a::r).drop p.1).take (p.2 - p.1))=(A.zip B).map (fun p:Nat×Nat=>(r.drop p.1).take (p.2 - p.1)):=fun A B=>by
   rw [List.zip_map,List.map_map];refine List.map_congr_left fun p _=>?_;show ((a::r).drop (p.1+1)).take (p.2+1 - (p.1+1))=_;rw [List.drop_succ_cons]
   congr 1
   omega
  unfold pieces at ih ⊢;unfold cW cut;rw [sh];by_cases h:a=c
  ·rw [if_pos h,if_pos h];have e1:(0::(0::(cW c 0 r).map (· + 1)).map (· + 1))=0::((0::(cW c 0 r).map (· + 1)).map (· + 1)):=rfl;have e2:(0::(cW c 0 r).map (· + 1))++[(a::r).length]=0::((cW c 0 r++[r.length]).map (· + 1)):=by simp
   rw [e1,e2,List.zip_cons_cons,List.map_cons,tail,ih];simp
  ·rw [if_neg h,if_neg h];have e2:(cW c 0 r).map (· + 1)++[(a::r).length]=(cW c 0 r++[r.length]).map (· + 1):=by simp
   rw [e2];generalize hB:cW c 0 r++[r.length]=B at ih;cases B with
   | nil=>simp at hB
   | cons b B' =>
    rw [List.zip_cons_cons,List.map_cons] at ih;rw [<- ih];rw [List.map_cons (l:=B'),List.zip_cons_cons,List.map_cons,tail];simp
theorem W4 (x:List Nat) (i j:Nat):strSub (S x) i j=S ((x.drop i).take (j - i)):=by
 rw [<- zb (strSub (S x) i j),strSub_toList,jM]
theorem Ci (x:List Nat) (ps:List Nat):partsBetween (S x) ps 1=(pieces x ps).map S:=by
 unfold partsBetween pieces;rw [List.map_map,cq];refine List.map_congr_left fun p _=>?_;exact W4 x p.1 p.2
theorem Hy (c:Nat):∀ l:List Nat,cW c 0 l=[]->cut c l=[l]
 | l,h=>by
  have:=rF c l;rw [h] at this;rw [<- this];simp [pieces]
theorem KN (x:List Nat) (c:Nat) (hc:c < 256):Txt.split (S x) (S [c])=(cut c x).map S:=by
 unfold Txt.split;rw [yU,me,Ci,rF];have nop:∀ k,¬ c∈x->cW c k x=[]:=by
  intro k
  induction x generalizing k with
  | nil=>intro _; rfl
  | cons a r ih =>
   intro hm;unfold cW;rw [if_neg (fun e=>hm (by simp [e]))];exact ih (k+1) fun m=>hm (List.mem_cons_of_mem _ m)
 by_cases h1:(decide ((S x).length < 1) || decide (PySem.Builtin.Str.strKind (S x) < PySem.Builtin.Str.strKind (S [c])))=true
 ·rw [if_pos h1];have hx:cW c 0 x=[]:=by
   refine nop 0 fun m=>?_;rw [cq] at h1;have hk:PySem.Builtin.Str.strKind (S [c])=1:=by unfold PySem.Builtin.Str.strKind S; simp [hc]
   rw [hk] at h1;have hp:¬ x.length < 1:=by cases x with | nil=>simp at m | cons _ _=>simp
   have hq:¬ PySem.Builtin.Str.strKind (S x) < 1:=by unfold PySem.Builtin.Str.strKind; split <;> (try split) <;> omega
   simp [hp,hq] at h1
  rw [Hy c x hx]; rfl
 ·rw [if_neg h1];by_cases h2:(cW c 0 x).isEmpty=true
  ·rw [if_pos h2];rw [Hy c x (List.isEmpty_iff.mp h2)]; rfl
  ·rw [if_neg h2]
end Tx
namespace L2
open PySem PySem.Spec PyProof.Rows
def noStar:Expr->Bool
 | .Starred _ _=>false
 | _=>true
theorem fc (h:noStar e=true):starEach (e::es) env=(false,eval e env)::starEach es env:=by
 cases e <;> first | rfl | cases h
theorem gW:∀ {es:List Expr},es.all noStar=true->(backTo pos (starEach es env)).any (·.1)=false
 | [],_=>rfl
 | e::es,h=>by
  rw [List.all_cons,Bool.and_eq_true] at h;rw [fc h.1];have ih:=gW (pos:=pos) (env:=env) h.2;show ((false || (backTo pos (starEach es env)).any (·.1)))=false;rw [ih];rfl
theorem w6:∀ {es:List Expr},es.all noStar=true->(backTo pos (starEach es env)).all (fun x=>!x.1)=true
 | [],_=>rfl
 | e::es,h=>by
  rw [List.all_cons,Bool.and_eq_true] at h;rw [fc h.1];have ih:=w6 (pos:=pos) (env:=env) h.2;show ((true && (backTo pos (starEach es env)).all (fun x=>!x.1)))=true;rw [ih];rfl
section
variable {X:Cx}
theorem Rb (ha:PE X e te) (hr:PA X es t) (hs:noStar e=true:=by rfl):PA X (e::es) (fD te t):=Qj ha hr (fc hs)
theorem Tt
  (F:az X.prog X.w X.K X.mg X.base CX k f fd ps sp) (hr:bH k X.A) (hg:Gl X x) (hm:X.mg x=some (.ref f)) (hk:PySem.W.keepIn X.K (.ref f)=true) (hb:Binds X.K fd ps ds) (hd:Vals bE ds) (hx:Passes CX X E)
  (ha:PA X (e::es) t) (hs:(e::es).all noStar=true:=by rfl) (bV:(x == ("__debug__" : Str))=false:=by decide):PE X (.Call (.Name x p) (e::es) [] pos) (xB sp bE E t):=by
 have hs':=hs;rw [List.all_cons,Bool.and_eq_true] at hs';exact Sa F hr hg hm hk hb hd hx ha bV (fc hs'.1) (gW hs'.2)
theorem Py {x:Str} {p pos:Pos} {e:Expr} {es:List Expr} {t:TA} {id:String} {r:List V->Hp->VK->Prop} (hc:cI X (.builtin id) r) (hg:Gl X x) (hm:X.mg x=none) (hv:bootBuiltins x=some (.builtin id)) (ha:PA X (e::es) t)
  (hs:(e::es).all noStar=true:=by rfl) (hn:x ≠ "__name__" := by decide) (bV:(x == ("__debug__" : Str))=false:=by decide):PE X (.Call (.Name x p) (e::es) [] pos) (nM r t):=by
 have hs':=hs;rw [List.all_cons,Bool.and_eq_true] at hs';exact Qc hc hg hm hv ha hn bV (fc hs'.1) (gW hs'.2)
theorem Wz (hc:cI X (.type T) r) (hg:Gl X x) (hm:X.mg x=none) (hv:bootBuiltins x=some (.type T)) (ha:PA X (e::es) t)
  (hs:(e::es).all noStar=true:=by rfl) (hn:x ≠ "__name__" := by decide) (bV:(x == ("__debug__" : Str))=false:=by decide):PE X (.Call (.Name x p) (e::es) [] pos) (nM r t):=by
 have hs':=hs;rw [List.all_cons,Bool.and_eq_true] at hs';exact VZ hc hg hm hv ha hn bV (fc hs'.1) (gW hs'.2)
end
section
variable {X:Cx}
theorem PE.imp (h:PE X e t) (i:∀ σ H Q,t' σ H Q->t σ H Q):PE X e t':=fun pins s σ H Q I hw=>h pins s σ H Q I (i σ H Q hw)
theorem PS.imp (h:PS X e t) (i:∀ D σ H,t' D σ H->t D σ H):PS X e t':=fun pins s σ H D I hw=>h pins s σ H D I (i D σ H hw)
theorem bg.imp (h:bg X f r) (i:∀ x y H Q,r' x y H Q->r x y H Q):bg X f r':=fun pins s σ H x y v u Q I rx ry q=>h pins s σ H x y v u Q I rx ry (i x y H Q q)
theorem cI.imp (h:cI X f r) (i:∀ xs H Q,r' xs H Q->r xs H Q):cI X f r':=fun pins s σ H xs us Q I rx q=>h pins s σ H xs us Q I rx (i xs H Q q)
def fh (i:Nat):TE:=fun σ H Q=>match σ[i]? with
 | some (some v)=>Q v H
 | _=>False
theorem qv (i:Nat) (hN:X.N[i]?=some x:=by rfl) (hv:rC X.env.scope x:=by first | exact Or.inl rfl | exact Or.inr (Or.inl rfl) | exact Or.inr (Or.inr rfl)) (hd:(x == ("__debug__" : Str))=false:=by decide)
  (dj:(x == ("__classdict__" : Str))=false:=by decide):PE X (.Name x pos) (fh i):=(IU hN hv hd dj).imp fun σ H Q h=>by
 unfold fh at h;split at h
 ·rename_i v e;exact ⟨v,e,h⟩
 ·exact h.elim
def Cd:R2:=fun x y H Q=>match x,y with
 | .int i,.int j=>Q (.int (i+j)) H
 | .str a,.str b=>a.length+b.length<=sizeLine/\Q (.str (a++b)) H
 | .ref l,.ref b=>match H l,H b with
  | some (.lst xs),some (.lst zs)=>xs.length+zs.length<=sizeLine/\∀ p,H p=none->Q (.ref p) (upd H p (.lst (xs++zs)))
  | _,_=>False
 | _,_=>False
theorem dQ:bg X (binaryOp .Add) Cd:=(U1.or (OJ.or OO)).imp fun x y H Q h=>by
 unfold Cd at h;split at h
 ·exact .inl ⟨_,_,rfl,rfl,h⟩
 ·exact .inr (.inl ⟨_,_,rfl,rfl,h.1,h.2⟩)
 ·split at h
  ·rename_i xs zs h1 h2;exact .inr (.inr ⟨_,_,xs,zs,rfl,rfl,h1,h2,h.1,h.2⟩)
  ·exact h.elim
 ·exact h.elim
def bI (K:PySem.W.Frag) (H:Hp) (p:Addr) (R:List V->Prop):Prop:=match H p with
 | some (.lst xs)=>R xs
 | some (.tup xs)=>R xs
 | _=>∃ xs,(aC K H p xs\/bJ K H p xs)/\R xs
theorem vx {K:PySem.W.Frag} {H:Hp} {p:Addr} {R:List V->Prop} (h:bI K H p R):∃ xs,(aC K H p xs\/bJ K H p xs)/\R xs:=by
 unfold bI at h;split at h
 ·rename_i xs e;exact ⟨xs,.inl (aC.of e),h⟩
 ·rename_i xs e;exact ⟨xs,.inr (bJ.of e),h⟩
 ·exact h
def xy (K:PySem.W.Frag) (H:Hp) (p:Addr) (R:List V->Prop):Prop:=∃ xs,aC K H p xs/\R xs
theorem yX {K:PySem.W.Frag} {H:Hp} {p:Addr} {R:List V->Prop} (h:xy K H p R):∃ xs,aC K H p xs/\R xs:=h
def rY (C:Int->Int->Prop) (f:Int->Int->Int):R2:=fun x y H Q=>match x,y with
 | .int i,.int j=>C i j/\Q (.int (f i j)) H
 | _,_=>False
theorem FY (h:rY C f x y H Q):rI C (fun i j=>.int (f i j)) x y H Q:=by
 unfold rY at h;split at h
 ·exact ⟨_,_,rfl,rfl,h.1,h.2⟩
 ·exact h.elim
theorem l9:bg X (binaryOp .Mod) (rY (fun _ j=>0 < j) fun i j=>i % j):=ZJ.imp fun _ _ _ _ h=>FY h
theorem Ce:bg X (binaryOp .FloorDiv) (rY Ki fun i j=>i / j):=WE.imp fun _ _ _ _ h=>FY h
def pQ (neg:Bool):R2:=fun x y H Q=>match x,y with
 | .int i,.int j=>Q (.bl (neg ^^ decide (i=j))) H
 | .str i,.str j=>Q (.bl (neg ^^ decide (i=j))) H
 | .bl i,.bl j=>Q (.bl (neg ^^ decide (i=j))) H
 | _,_=>xC x y=true/\Q (.bl (neg ^^ decide (x=y))) H
theorem JZ (i j:Int):decide (V.int i=V.int j)=decide (i=j):=by by_cases h:i=j <;> simp [h]
theorem Iv (i j:Str):decide (V.str i=V.str j)=decide (i=j):=by by_cases h:i=j <;> simp [h]
theorem IQ (i j:Bool):decide (V.bl i=V.bl j)=decide (i=j):=by by_cases h:i=j <;> simp [h]
theorem Vo:bg X (compareOp .Eq) (pQ false):=Y9.imp fun x y H Q h=>by
 unfold pQ at h;simp only [Bool.false_bne] at h;split at h
 ·exact ⟨rfl,by rw [JZ]; exact h⟩
 ·exact ⟨rfl,by rw [Iv]; exact h⟩
 ·exact ⟨rfl,by rw [IQ]; exact h⟩
 ·exact h
theorem UH:bg X (compareOp .NotEq) (pQ true):=S2.imp fun x y H Q h=>by
 unfold pQ at h;simp only [Bool.true_bne] at h;split at h
 ·exact ⟨rfl,by rw [JZ]; exact h⟩
 ·exact ⟨rfl,by rw [Iv]; exact h⟩
 ·exact ⟨rfl,by rw [IQ]; exact h⟩
 ·exact h
def jI (f:Int->Int->Bool):R2:=fun x y H Q=>match x,y with
 | .int i,.int j=>Q (.bl (f i j)) H
 | _,_=>False
theorem zL (h:jI f x y H Q):ng (fun i j=>.bl (f i j)) x y H Q:=by
 unfold jI at h;split at h
 ·exact ⟨_,_,rfl,rfl,h⟩
 ·exact h.elim
theorem JF:bg X (compareOp .Lt) (jI fun i j=>decide (i < j)):=OH.imp fun _ _ _ _ h=>zL h
theorem qb:bg X (compareOp .LtE) (jI fun i j=>decide (i<=j)):=Uv.imp fun _ _ _ _ h=>zL h
theorem tV:bg X (compareOp .Gt) (jI fun i j=>decide (j < i)):=Tj.imp fun _ _ _ _ h=>zL h
def xq (K:PySem.W.Frag):R2:=fun x y H Q=>match x,y with
 | .str i,.str j=>Q (.bl (!(Builtin.Str.occurrences j i 0 j.length 1).isEmpty)) H
 | _,.ref p=>bI K H p fun xs=>cN x=true/\xs.all cN=true/\Q (.bl (gT x xs)) H
 | _,_=>False
theorem ZN:bg X (compareOp .In) (xq X.K):=(ZH.or Kv).imp fun x y H Q h=>by
 unfold xq at h;split at h
 ·exact .inl ⟨_,_,rfl,rfl,h⟩
 ·obtain ⟨xs,h1,h2,h3,h4⟩:=vx h;exact .inr ⟨_,xs,rfl,h1,h2,h3,h4⟩
 ·exact h.elim
def lF (t:TE):TT:=fun σ H Q=>t σ H fun x H'=>match x with
 | .bl k=>Q k H'
 | _=>False
theorem AM {x:V} {H:Hp} {Q:Bool->Hp->Prop} (h:(match x with | .bl k=>Q k H | _=>False)):∃ k,x=.bl k/\Q k H:=by
 split at h
 ·exact ⟨_,rfl,h⟩
 ·exact h.elim
theorem NR {op:CmpOp} {r:R2} {a b:Expr} {ta tb:TE} {pos:Pos} (ho:bg X (compareOp op) r) (ha:PE X a ta) (hb:PE X b tb) (hm:behindInMarks op b=false:=by first | exact wZ _ (by decide) (by decide) | rfl) :
  PT X (.Compare a [op] [b] pos) (lF (ir r ta tb)):=by
 intro pins s σ H Q I h;refine wpAny_isTrue_Compare1 ?_ hm;refine aD (ha pins s σ H _ I h) fun v s1 ⟨x,H1,I1,r1,q1⟩=>aD (hb pins s1 σ H1 _ I1 q1) fun u s2 ⟨y,H2,I2,r2,q2⟩=>?_;refine aD (ho pins s2 σ H2 x y v u _ I2 r1 r2 q2) fun c s3 ⟨z,H3,I3,r3,q3⟩=>?_;obtain ⟨k,rfl,q⟩:=AM q3;cases r3;exact wpAny_truthy_bool ⟨H3,I3,q⟩
theorem TX {e:Expr} {t:TE} (h:PE X e t) (he:∀ whole,isTrue e X.env whole=(do let v <- whole; standAt e.pos; holding [v] (truthy v)):=by intro _; rfl):PT X e (lF t):=by
 intro pins s σ H Q I hw;refine isTrue_plain (aD (h pins s σ H _ I hw) fun v s1 ⟨x,H1,I1,r1,q1⟩=>?_) (he _);obtain ⟨d,rfl,q⟩:=AM q1;cases r1;exact wpAny_truthy_bool ⟨H1,I1,q⟩
def BO (f g:Int->Int->Bool) (ta tb tc:TE):TT:=fun σ H Q=>ta σ H fun x H1=>tb σ H1 fun y H2=>match x,y with
 | .int i,.int j=>if f i j=true then tc σ H2 fun z H3=>(match z with | .int k=>Q (g j k) H3 | _=>False) else Q false H2
 | _,_=>False
def Bi (ta tb:TE):TE:=fun σ H Q=>ta σ H fun x H1=>match x with
 | .bl c=>if c=true then tb σ H1 Q else Q (.bl false) H1
 | _=>False
def AJ (ta tb:TE):TE:=fun σ H Q=>ta σ H fun x H1=>match x with
 | .bl c=>if c=true then Q (.bl true) H1 else tb σ H1 Q
 | _=>False
def zg (ta:TE):TE:=fun σ H Q=>ta σ H fun x H1=>match x with
 | .bl c=>Q (.bl (!c)) H1
 | _=>False
variable {a b:Expr} {ta tb:TE} {pos:Pos} {rest:List Expr}
theorem WS (ha:PE X a ta) (hb:PE X (.BoolOp .And (b::rest) pos) tb):PE X (.BoolOp .And (a::b::rest) pos) (Bi ta tb):=by
 intro pins s σ H Q I h;refine BoolOp_and (aD (ha pins s σ H _ I h) fun v s1 ⟨x,H1,I1,r1,q1⟩=>?_);have q1':∃ c,x=.bl c/\if c=true then tb σ H1 Q else Q (.bl false) H1:=by
  dsimp only at q1;split at q1
  ·exact ⟨_,rfl,q1⟩
  ·exact q1.elim
 obtain ⟨c,rfl,q1⟩:=q1';cases r1;refine wpAny_truthy_bool ?_;cases c with
 | true=>exact hb pins s1 σ H1 Q I1 q1
 | false=>exact ⟨.bl false,H1,I1,rfl,q1⟩
theorem YV (ha:PE X a ta) (hb:PE X (.BoolOp .Or (b::rest) pos) tb):PE X (.BoolOp .Or (a::b::rest) pos) (AJ ta tb):=by
 intro pins s σ H Q I h;refine BoolOp_or (aD (ha pins s σ H _ I h) fun v s1 ⟨x,H1,I1,r1,q1⟩=>?_);have q1':∃ c,x=.bl c/\if c=true then Q (.bl true) H1 else tb σ H1 Q:=by
  dsimp only at q1;split at q1
  ·exact ⟨_,rfl,q1⟩
  ·exact q1.elim
 obtain ⟨c,rfl,q1⟩:=q1';cases r1;refine wpAny_truthy_bool ?_;cases c with
 | false=>exact hb pins s1 σ H1 Q I1 q1
 | true=>exact ⟨.bl true,H1,I1,rfl,q1⟩
def xu:V->Value
 | .ty n=>.type n
 | .ref a=>.ref a
 | _=>.none
theorem Xp:cI X (.builtin "isinstance") (fun xs H Q=>∃ x cV t b,xs=[x,cV]/\((∃ n,cV=.ty n)\/∃ a,cV=.ref a)/\fw X.K H x t/\PySem.W.kitOne X.K t (xu cV)=some b/\Q (.bl b) H):=by
 intro pins s σ H xs us Q I r h;obtain ⟨x,cV,t,b,rfl,hc,ty,e,q⟩:=h;obtain ⟨u,c',rfl,ru,rc'⟩:=vals2 r;have ec:c'=xu cV:=by
  rcases hc with ⟨n,rfl⟩ | ⟨a,rfl⟩
  ·exact rc'
  ·exact rc'
 subst ec;exact BP I ru ty e fun tk=>⟨.bl b,H,I.tok tk,rfl,q⟩
end
section
variable {X:Cx}
def AU:V->List V->Hp->VK->Prop:=fun x xs H Q=>match x,xs with
 | .str a,[.str b]=>Q (.bl (Txt.startswith a b)) H
 | _,_=>False
theorem R4:cT X "str.startswith" AU:=by
 intro pins s σ H x xs v us Q I rx r h;unfold AU at h;split at h
 ·rename_i a b;obtain ⟨t,rfl⟩:=rx;obtain ⟨u,rfl,t',rfl⟩:=vals1 r;exact call_meets F.slot_str_startswith (typeIs_str s a t) F.entry_str_startswith (F.args_str_startswith_2 _ _) (gives_str_startswith a b t t').meets ⟨.bl _,H,I,rfl,h⟩
 ·exact h.elim
def Av:V->List V->Hp->VK->Prop:=fun x xs H Q=>match x,xs with
 | .str a,[.str b]=>Q (.bl (Txt.endswith a b)) H
 | _,_=>False
theorem PX:cT X "str.endswith" Av:=by
 intro pins s σ H x xs v us Q I rx r h;unfold Av at h;split at h
 ·rename_i a b;obtain ⟨t,rfl⟩:=rx;obtain ⟨u,rfl,t',rfl⟩:=vals1 r;exact call_meets F.slot_str_endswith (typeIs_str s a t) F.entry_str_endswith (F.args_str_endswith_2 _ _) (gives_str_endswith a b t t').meets ⟨.bl _,H,I,rfl,h⟩
 ·exact h.elim
theorem Ga:∀ (l:List (Str×Tok)),Vals ((l.map (·.1)).map V.str) (strValues l)
 | []=>.nil
 | p::r=>.cons ⟨p.2,rfl⟩ (Ga r)
theorem wU:∀ {ts:List Str} {us:List Value},Vals (ts.map V.str) us->∃ l:List (Str×Tok),us=strValues l/\l.map (·.1)=ts
 | [],_,.nil=>⟨[],rfl,rfl⟩
 | t::r,_,.cons h h'=>by
  obtain ⟨k,rfl⟩:=h;obtain ⟨l,e1,e2⟩:=wU h';exact ⟨(t,k)::l,by rw [e1]; rfl,by rw [<- e2]; rfl⟩
def BC:V->List V->Hp->VK->Prop:=fun x xs H Q=>match x,xs with
 | .str a,[.str b]=>(b.length == 0)=false/\a.length<=sizeLine/\(Builtin.Str.partsBetween a (Builtin.Str.occurrences a b 0 a.length (a.length+1)) b.length).length<=sizeLine /\
   ∀ l,H l=none->Q (.ref l) (upd H l (.lst ((Txt.split a b).map V.str)))
 | _,_=>False
theorem Fy:cT X "str.split" BC:=by
 intro pins s σ H x xs v us Q I rx r h;unfold BC at h;split at h
 ·rename_i a b;obtain ⟨hy,hx,hn,q⟩:=h;obtain ⟨t,rfl⟩:=rx;obtain ⟨w',rfl,u,rfl⟩:=vals1 r;have fin:∀ (l:List (Str×Tok)) (tk:Nat),l.map (·.1)=Txt.split a b->l.length<=sizeLine ->
    EP X pins σ Q (.ref s.heap.objs.size) { s with heap:=s.heap.push { cls:=.type "list",data:=.seq (strValues l).toArray },toks:=tk }:=fun l tk e hz =>
   ⟨.ref _,_,I.laid (t':=tk) (o:=.lst ((Txt.split a b).map V.str)) (fun b' o' q'=>Heap.get?_push_of_some _ q') (Nat.le_refl _)
    ⟨by rw [List.length_map,<- e,List.length_map]; exact hz,strValues l,0,by rw [<- e]; exact Ga l,Heap.get?_push_size _ rfl⟩,rfl,q _ (I.aB.fresh (Nat.le_refl _))⟩
  cases h1:(decide (a.length < b.length) || decide (Builtin.Str.strKind a < Builtin.Str.strKind b))
  ·cases hf:(Builtin.Str.occurrences a b 0 a.length (a.length+1)).isEmpty
   ·refine call_meets F.slot_str_split (typeIs_str s a t) F.entry_str_split (F.args_str_split_2 _ _) (meets_str_split_sep a b t u h1 hy hf hx hn) ?_;have e:Txt.split a b=Builtin.Str.partsBetween a (Builtin.Str.occurrences a b 0 a.length (a.length+1)) b.length:=(if_neg (ne_true_of_eq_false h1)).trans (if_neg (ne_true_of_eq_false hf));have z:=fin (numbered s.toks (Builtin.Str.partsBetween a (Builtin.Str.occurrences a b 0 a.length (a.length+1)) b.length)) (s.toks+(Builtin.Str.partsBetween a (Builtin.Str.occurrences a b 0 a.length (a.length+1)) b.length).length)
     ((numbered_texts _ _).trans e.symm) (by
      have:=congrArg List.length (numbered_texts s.toks (Builtin.Str.partsBetween a (Builtin.Str.occurrences a b 0 a.length (a.length+1)) b.length));rw [List.length_map] at this;rw [this]; exact hn)
    rw [<- strsFrom_eq] at z;exact z
   ·exact call_meets F.slot_str_split (typeIs_str s a t) F.entry_str_split (F.args_str_split_2 _ _) (meets_str_split_not_found a b t u h1 hy hf)
     (fin [(a,t)] s.toks ((if_neg (ne_true_of_eq_false h1)).trans (if_pos hf)).symm (by show 1<=sizeLine; decide))
  ·exact call_meets F.slot_str_split (typeIs_str s a t) F.entry_str_split (F.args_str_split_2 _ _) (meets_str_split_cannot_occur a b t u h1)
    (fin [(a,t)] s.toks (if_pos h1).symm (by show 1<=sizeLine; decide))
 ·exact h.elim
def rJoin (K:PySem.W.Frag):V->List V->Hp->VK->Prop:=fun x xs H Q=>match x,xs with
 | .str a,[.ref p]=>xy K H p fun xs=>∃ ts:List Str,xs=ts.map V.str/\ts.foldl (fun n z=>n+z.length+a.length) 0<=sizeLine/\Q (.str (Str.join a ts)) H
 | _,_=>False
theorem VI:cT X "str.join" (rJoin X.K):=by
 intro pins s σ H x xs v us Q I rx r h;unfold rJoin at h;split at h
 ·rename_i a p;obtain ⟨xs,hq,ts,rfl,hz,q⟩:=yX h;obtain ⟨t,rfl⟩:=rx;obtain ⟨w',rfl,e⟩:=vals1 r;cases e;obtain ⟨ao,rv,pl,hl⟩:=I.list hq;obtain ⟨l,rfl,e2⟩:=wU rv;have DW:Builtin.Str.tooLong ((l.map (·.1)).toArray.foldl (· + ·.length+a.length) 0)=false:=by
   unfold Builtin.Str.tooLong;refine decide_eq_false (Nat.not_lt.mpr ?_);rw [List.foldl_toArray,e2];exact hz
  refine call_meets F.slot_str_join (typeIs_str s a t) F.entry_str_join (F.args_str_join_2 _ _) (meets_str_join_list a t p l DW) ⟨pl.isList,?_⟩;have hlen:(Builtin.Str.glued a (l.map (·.1))).length<=sizeLine:=by
   rw [e2,StrLaws.glued_eq_join];refine Nat.le_trans ?_ hz;have:∀ (us:List Str) (n:Nat),n+(Str.join a us).length<=us.foldl (fun n z=>n+z.length+a.length) n:=by
    intro us
    induction us with
    | nil=>intro n; exact Nat.le_refl _
    | cons y r ih =>
     intro n;cases r with
     | nil=>show n+y.length<=n+y.length+a.length; omega
     | cons z r' =>
      have h1:(Str.join a (y::z::r')).length=y.length+a.length+(Str.join a (z::r')).length:=by
       show ((y++a)++Str.join a (z::r')).length=_;rw [Str.length_append,Str.length_append]
      have h2:=ih (n+y.length+a.length);rw [h1];refine Nat.le_trans ?_ h2;omega
   have h0:=this ts 0;omega
  have e3:Builtin.Str.glued a (l.map (·.1))=Str.join a ts:=by rw [e2,StrLaws.glued_eq_join]
  match l,e2,e3,hlen with
  | [],e2,e3,hlen=>exact ⟨hlen,⟨.str (Str.join a ts),H,I.tok _,⟨_,by rw [e3]⟩,q⟩⟩
  | [p],e2,e3,hlen =>
   have e4:Str.join a ts=p.1:=by rw [<- e2]; rfl
   exact ⟨.str (Str.join a ts),H,I.tok _,⟨_,by rw [e4]⟩,q⟩
  | p1::p2::r',e2,e3,hlen=>exact ⟨hlen,⟨.str (Str.join a ts),H,I.tok _,⟨_,by rw [e3]⟩,q⟩⟩
 ·exact h.elim
theorem Jv (p:IsPart v o):∃ l:Option (Int×Tok),v=partValue l/\l.map (·.1)=o:=by
 cases p with
 | none=>exact ⟨none,rfl,rfl⟩
 | int i t=>exact ⟨some (i,t),rfl,rfl⟩
def Lm:V->Option Int->Option Int->Hp->VK->Prop:=fun x lo hi H Q=>match x with
 | .str z=>z.length<=sizeLine/\Q (.str (Txt.slice z lo hi)) H
 | _=>False
theorem Pf:gS X Lm:=by
 intro pins s σ H x v vl vu lo hi sl Q I rx hs pl pu h;unfold Lm at h;split at h
 ·rename_i z;obtain ⟨hz,q⟩:=h;obtain ⟨t,rfl⟩:=rx;obtain ⟨l,rfl,rfl⟩:=Jv pl;obtain ⟨u,rfl,rfl⟩:=Jv pu;refine ⟨"str",_,F.slot_str_getitem.lookup,typeIs_str _ _ _,wpAny_getItem_str_slice (l:=l) (u:=u) (st:=none) hs rfl
   (post_val_or_str ⟨Nat.le_trans (Txt.slice_le z _ _) hz,fun t' k=>?_⟩)⟩
  exact ⟨.str (Txt.slice z (l.map (·.1)) (u.map (·.1))),H,I.tok k,⟨t',rfl⟩,q⟩
 ·exact h.elim
def AZ:R2:=fun x y H Q=>match x,y with
 | .int i,.int j=>wQ i j/\Q (.int (i * j)) H
 | .str z,.int n=>MulOk z n/\Q (.str (Txt.mul z n)) H
 | .ref l,.int k=>match H l with
  | some (.lst xs)=>-(2 ^ 63)<=k/\k < 2 ^ 63/\xs.length * k.toNat<=sizeLine/\∀ p,H p=none->Q (.ref p) (upd H p (.lst (List.replicate k.toNat xs).flatten))
  | _=>False
 | _,_=>False
theorem Vw:bg X (binaryOp .Mult) (fun x y H Q=>∃ z n,x=.str z/\y=.int n/\MulOk z n/\Q (.str (Txt.mul z n)) H):=by
 intro pins s σ H x y v u Q I rx ry h;obtain ⟨z,n,rfl,rfl,hm,q⟩:=h;obtain ⟨t,rfl⟩:=rx;obtain ⟨t',rfl⟩:=ry;exact SB.mul hm fun t2 k=>⟨.str _,H,I.tok _,⟨_,rfl⟩,q⟩
theorem wW:bg X (binaryOp .Mult) AZ:=(Yo.or (Vw.or Ot)).imp fun x y H Q h=>by
 unfold AZ at h;split at h
 ·exact .inl ⟨_,_,rfl,rfl,h.1,h.2⟩
 ·exact .inr (.inl ⟨_,_,rfl,rfl,h.1,h.2⟩)
 ·split at h
  ·rename_i xs h1;obtain ⟨h2,h3,h4,h5⟩:=h;exact .inr (.inr ⟨_,_,xs,rfl,rfl,h1,h2,h3,h4,h5⟩)
  ·exact h.elim
 ·exact h.elim
theorem IZ:∀ {bs:List Bool} {us:List Value},Vals (bs.map V.bl) us->us=bs.map Value.bool
 | [],_,.nil=>rfl
 | b::r,_,.cons h h'=>by
  have h:_=Value.bool b:=h;rw [h,IZ h'];rfl
theorem all_range (bs:List Bool):(List.range bs.length).all (fun j=>bs.getD j true)=bs.all id:=by
 rw [Bool.eq_iff_iff,List.all_eq_true,List.all_eq_true];constructor
 ·intro h b hb;obtain ⟨i,hi,e⟩:=List.getElem_of_mem hb;have:=h i (List.mem_range.mpr hi);rw [List.getD_eq_getElem?_getD,List.getElem?_eq_getElem hi,e] at this;exact this
 ·intro h j hj;have hj:=List.mem_range.mp hj;rw [List.getD_eq_getElem?_getD,List.getElem?_eq_getElem hj];exact h _ (List.getElem_mem hj)
theorem YF (hc:X.calm=true):cI X (.builtin "all") (fun xs H Q=>∃ (p:Addr) (bs:List Bool),xs=[.ref p]/\aC X.K H p (bs.map V.bl)/\Q (.bl (bs.all id)) H):=by
 intro pins s σ H xs us Q I r h;obtain ⟨p,bs,rfl,hq,q⟩:=h;obtain ⟨u,rfl,e⟩:=vals1 r;cases e;obtain ⟨ao,rv,pl,hz⟩:=I.list hq;have eb:=IZ rv;subst eb;have bj:p < s.heap.objs.size:=pl.lt;refine call_all_walk (wpAny_pyIter_list pl.isList ?_);refine ⟨s.heap.objs.size,_,_,_,_,_,fun j=>bs.getD j true,rfl,Walks.list (A:=X.A.in1) (show X.A.in1.handled=none from I.ok.hd hc) _ p (Nat.ne_of_lt bj) (bs.map Value.bool).toArray,⟨⟨_,Heap.get?_push_size _ rfl,rfl,rfl⟩,pl.isList.push _⟩,?_,?_⟩
 ·intro i v s' Q' E' hP hQ;have hi:bs[i]?=some (bs.getD i true)/\v=.bool (bs.getD i true):=by
   have hP:(bs.map Value.bool).toArray[i]?=some v:=hP;rw [List.getElem?_toArray,List.getElem?_map] at hP;cases e:bs[i]? with
   | none=>rw [e] at hP; cases hP
   | some b =>
    rw [e] at hP;have:bs.getD i true=b:=by rw [List.getD_eq_getElem?_getD,e]; rfl
    rw [this];exact ⟨rfl,(Option.some.inj hP).symm⟩
  rw [hi.2];exact wpAny_truthy_bool hQ
 ·intro h' tk hk;have e:(List.range (bs.map Value.bool).toArray.size).all (fun j=>bs.getD j true)=bs.all id:=by
   rw [List.size_toArray,List.length_map];exact all_range bs
  rw [e];refine ⟨.bl (bs.all id),H,I.kept (t':=tk) (fun b o eo=>?_),rfl,q⟩;refine hk b o ?_ (Heap.get?_push_of_some _ eo);intro hm;have e1:b=s.heap.objs.size:=by simpa using hm
  exact absurd (Heap.lt_size eo) (by rw [e1]; exact Nat.lt_irrefl _)
def vG (x:Str):It:=⟨fun i _=>i < x.length,fun i H y H'=>H'=H/\∃ c,x.cps[i]?=some c/\y=.str ⟨#[c]⟩,fun i _=>x.length<=i⟩
theorem Ho {P:Program} {w:World} {K:PySem.W.Frag} {tg:Expr} {x:Str} {t:Tok} {ty:String} (it:Addr)
  (cw:["enumerate","zip","dict_itemiterator","dict_reverseitemiterator","odict_iterator","itertools.zip_longest","itertools.pairwise"].contains ty=false)
  (W:∀ A:Around,A.handled=none->Walks P w A it [it] [it] x.cps.size (SignAt x) (fun i h=>h.IsStrIter it ty x t i)) (W0:∀ (A:Around) (i:Nat) (s:Shared) (Q:Value->Shared->Prop) (E:Value->Shared->Prop),s.heap.IsStrIter it ty x t i->Q (.ref it) s->wpAny (model P w) A (pyIter (.ref it)) Q E s) :
  Turn P w K tg (vG x) [it] it (fun i h=>i<=x.length/\h.IsStrIter it ty x t i) where
 mem:=by simp
 obj:=fun i h st b hb=>by
  have e:b=it:=by simpa using hb
  subst e;obtain ⟨_,o,e,c,d⟩:=st;exact ⟨o,e,fun v z=>by rw [d] at z; cases z⟩
 keep:=fun i h h' st k=>⟨st.1,let ⟨o,ho,r⟩:=st.2; ⟨o,k it (by simp) o ho,r⟩⟩
 item:=by
  intro X hP hw hK hc i pins s σ H E I hf st hg;subst hP hw hK;obtain ⟨f0,f1,f2,f3,f4,f5⟩:=hf it (by simp);refine (W X.A (I.ok.hd hc)).item i s _ E hg st.2 fun v h' tk hv st' hk=>?_;obtain ⟨c,u,hcx,rfl⟩:=hv;have I1:Inv X pins σ H { s with heap:=h',toks:=tk }:=I.turned (t':=tk) (fun b o hb e=>hk b o (by simpa using hb) e) f0 f1 f3 f4 f5;obtain ⟨o,e,cc,d⟩:=id st';exact ⟨_,rfl,BW (s:={ s with heap:=h',toks:=tk }) e cc d cw ⟨.str ⟨#[c]⟩,H,I1,⟨u,rfl⟩,⟨rfl,c,hcx,rfl⟩,⟨hg,st'⟩,fun b hb=>(hf b hb).1⟩⟩
 done:=by
  intro X hP hw hK hc i pins s σ H E I hf st hg;subst hP hw hK;obtain ⟨f0,f1,f2,f3,f4,f5⟩:=hf it (by simp);have hi:i=x.cps.size:=Nat.le_antisymm st.1 hg;subst hi;exact (W X.A (I.ok.hd hc)).done s _ E st.2 fun h' tk hk=>⟨rfl,I.turned (t':=tk) (fun b o hb e=>hk b o (by simpa using hb) e) f0 f1 f3 f4 f5⟩
 self:=fun A i s Q E st h=>W0 A i s Q E st.2 h
def y2 (tl:TE):TI:=fun σ H R=>tl σ H fun x H1=>match x with
 | .str z=>R (vG z) H1
 | _=>False
theorem Qh {tg l:Expr} {tl:TE} (hl:PE X l tl):PI X tg l (y2 tl):=by
 intro pins s σ H R I h;refine aD (hl pins s σ H _ I h) fun v s1 ⟨x,H1,I1,r1,q1⟩=>?_;have q1':∃ z,x=.str z/\R (vG z) H1:=by
  dsimp only at q1;split at q1
  ·exact ⟨_,rfl,q1⟩
  ·exact q1.elim
 obtain ⟨z,rfl,q⟩:=q1';obtain ⟨t,rfl⟩:=r1;have fp:∀ b∈[s1.heap.objs.size],kP X pins H1 b:=fun b hb=>by
  have e:b=s1.heap.objs.size:=by simpa using hb
  subst e;exact I1.CV (Nat.le_refl _) (I1.aB.fresh (Nat.le_refl _))
 cases ha:z.cps.all (· < 128)
 ·refine wpAny_pyIter_wide ha ⟨s1.heap.objs.size,[s1.heap.objs.size],_,_,H1,rfl,I1.kept (t':=s1.toks) fun b o e=>Heap.get?_push_of_some _ e,
   Ho (ty := "str_iterator") (t:=t) _ (by decide) (fun A hA=>Walks.strWide hA _ z t) (fun A i s Q E st h=>wpAny_pyIter_striter_wide st h),⟨Nat.zero_le _,_,Heap.get?_push_size _ rfl,rfl,rfl⟩,fp,q⟩
 ·refine wpAny_pyIter_ascii ha ⟨s1.heap.objs.size,[s1.heap.objs.size],_,_,H1,rfl,I1.kept (t':=s1.toks) fun b o e=>Heap.get?_push_of_some _ e,
   Ho (ty := "str_ascii_iterator") (t:=t) _ (by decide) (fun A hA=>Walks.strAscii hA _ z t) (fun A i s Q E st h=>wpAny_pyIter_striter_ascii st h),⟨Nat.zero_le _,_,Heap.get?_push_size _ rfl,rfl,rfl⟩,fp,q⟩
end
section
variable {X:Cx} {a b c:Expr} {ta tb tc:TE} {pos:Pos}
theorem TF (ha:PE X a ta):PE X (.UnaryOp .Not a pos) (zg ta):=by
 intro pins s σ H Q I h;refine UnaryOp_ (aD (ha pins s σ H _ I h) fun v s1 ⟨x,H1,I1,r1,q1⟩=>?_);have q1':∃ k,x=.bl k/\Q (.bl (!k)) H1:=by
  dsimp only at q1;split at q1
  ·exact ⟨_,rfl,q1⟩
  ·exact q1.elim
 obtain ⟨k,rfl,z1⟩:=q1';cases r1;exact not_of (wpAny_truthy_bool ⟨.bl (!k),H1,I1,rfl,z1⟩)
theorem UW (ho:bg X (compareOp op) (jI f)) (ho':bg X (compareOp op') (jI g)) (ha:PE X a ta) (hb:PE X b tb) (hc:PE X c tc)
  (hm:lastMarks [op,op'] [b,c]=false:=by with_unfolding_all rfl):PT X (.Compare a [op,op'] [b,c] pos) (BO f g ta tb tc):=by
 intro pins s σ H Q I h;refine isTrue_chain (aD (ha pins s σ H _ I h) fun v s1 ⟨x,H1,I1,r1,q1⟩=>test_link (aD (hb pins s1 σ H1 _ I1 q1) fun u s2 ⟨y,H2,I2,r2,q2⟩=>?_)) hm;have q2':∃ i j,x=.int i/\y=.int j/\if f i j=true then tc σ H2 (fun z H3=>(match z with | .int k=>Q (g j k) H3 | _=>False)) else Q false H2:=by
  dsimp only at q2;split at q2
  ·exact ⟨_,_,rfl,rfl,q2⟩
  ·exact q2.elim
 obtain ⟨i,j,rfl,rfl,z2⟩:=q2';refine aD (ho pins s2 σ H2 (.int i) (.int j) v u (fun z H3=>z=.bl (f i j)/\H3=H2) I2 r1 r2 ⟨rfl,rfl⟩) fun d s3 ⟨z,H3,I3,r3,e,e'⟩=>?_;subst e e';cases r3;refine wpAny_truthy_bool ?_;cases hf:f i j with
 | false =>
  rw [hf] at z2;exact ite_ff ⟨H3,I3,z2⟩
 | true =>
  rw [hf,if_pos rfl] at z2;refine ite_tt (test_last (aD (hc pins s3 σ H3 _ I3 z2) fun w' s4 ⟨z',H4,I4,r4,q4⟩=>?_));have q4':∃ k,z'=.int k/\Q (g j k) H4:=by
   dsimp only at q4;split at q4
   ·exact ⟨_,rfl,q4⟩
   ·exact q4.elim
  obtain ⟨k,rfl,z4⟩:=q4';refine aD (ho' pins s4 σ H4 (.int j) (.int k) u w' (fun z H5=>z=.bl (g j k)/\H5=H4) I4 r2 r4 ⟨rfl,rfl⟩) fun d' s5 ⟨z2,H5,I5,r5,e,e'⟩=>?_;subst e e';cases r5;exact wpAny_truthy_bool ⟨H5,I5,z4⟩
def wB (K:PySem.W.Frag):List V->Hp->VK->Prop:=fun xs H Q=>match xs with
 | [.str y]=>y.length<=sizeLine/\Q (.int y.length) H
 | [.ref p]=>bI K H p fun ys=>Q (.int ys.length) H
 | _=>False
theorem R8:cI X (.builtin "len") (wB X.K):=Ib.imp fun xs H Q h=>by
 unfold wB at h;split at h
 ·exact ⟨_,_,rfl,⟨h.1,rfl⟩,h.2⟩
 ·obtain ⟨ys,h1,h2⟩:=vx h;rcases h1 with h1 | h1
  ·exact ⟨_,_,rfl,.inl ⟨ys,h1,rfl⟩,h2⟩
  ·exact ⟨_,_,rfl,.inr ⟨ys,h1,rfl⟩,h2⟩
 ·exact h.elim
def GC (K:PySem.W.Frag):List V->Hp->VK->Prop:=fun xs H Q=>match xs with
 | [x,cV]=>∃ t b,((∃ n,cV=.ty n)\/∃ a,cV=.ref a)/\fw K H x t/\PySem.W.kitOne K t (xu cV)=some b/\Q (.bl b) H
 | _=>False
theorem QF:cI X (.builtin "isinstance") (GC X.K):=Xp.imp fun xs H Q h=>by
 unfold GC at h;split at h
 ·obtain ⟨t,b,h1,h2,h3,h4⟩:=h;exact ⟨_,_,t,b,rfl,h1,h2,h3,h4⟩
 ·exact h.elim
def vL (K:PySem.W.Frag):List V->Hp->VK->Prop:=fun xs H Q=>match xs with
 | [.ref p]=>xy K H p fun xs=>∃ bs:List Bool,xs=bs.map V.bl/\Q (.bl (bs.all id)) H
 | _=>False
theorem OD (hc:X.calm=true):cI X (.builtin "all") (vL X.K):=(YF hc).imp fun xs H Q h=>by
 unfold vL at h;split at h
 ·obtain ⟨xs,h1,bs,rfl,h2⟩:=yX h;exact ⟨_,bs,rfl,h1,h2⟩
 ·exact h.elim
def vo (K:PySem.W.Frag):List V->Hp->VK->Prop:=fun xs H Q=>match xs with
 | [.ref p]=>bI K H p fun ys=>∀ l,H l=none->Q (.ref l) (upd H l (.lst ys))
 | _=>False
theorem XX:cI X (.type "list") (vo X.K):=YD.imp fun xs H Q h=>by
 unfold vo at h;split at h
 ·obtain ⟨ys,h1,h2⟩:=vx h;exact ⟨_,ys,rfl,h1,h2⟩
 ·exact h.elim
def nj (K:PySem.W.Frag):R2:=fun x y H Q=>match x,y with
 | .ref p,.int i=>bI K H p fun xs=>match cU xs i with
  | some v=>Q v H
  | none=>False
 | .str z,.int i=>z.length<=sizeLine/\match cU z.cps.toList i with
  | some c=>Q (.str ⟨#[c]⟩) H
  | none=>False
 | _,_=>False
theorem fC.imp (h:fC X r) (i:∀ x y H Q,r' x y H Q->r x y H Q):fC X r':=fun value slice pins s σ H x y v u Q I rx ry q=>h value slice pins s σ H x y v u Q I rx ry (i x y H Q q)
theorem qx:fC X (nj X.K):=Uu.imp fun x y H Q h=>by
 unfold nj at h;split at h
 ·obtain ⟨xs,h1,h2⟩:=vx h;split at h2
  ·rename_i v e;rcases h1 with h1 | h1
   ·exact .inl ⟨_,xs,_,v,rfl,rfl,h1,e,h2⟩
   ·exact .inr (.inl ⟨_,xs,_,v,rfl,rfl,h1,e,h2⟩)
  ·exact h2.elim
 ·obtain ⟨h1,h2⟩:=h;split at h2
  ·rename_i d e;exact .inr (.inr ⟨_,_,d,rfl,rfl,h1,e,h2⟩)
  ·exact h2.elim
 ·exact h.elim
def xw (K:PySem.W.Frag):V->Option Int->Option Int->Hp->VK->Prop:=fun x lo hi H Q=>match x with
 | .str z=>z.length<=sizeLine/\Q (.str (Txt.slice z lo hi)) H
 | .ref a=>xy K H a fun xs=>∀ p,H p=none->Q (.ref p) (upd H p (.lst (fH xs lo hi)))
 | _=>False
theorem Yl:gS X (xw X.K):=by
 intro pins s σ H x v vl vu lo hi sl Q I rx hs pl pu h;refine (Pf.or VD) pins s σ H x v vl vu lo hi sl Q I rx hs pl pu ?_;unfold xw at h;split at h
 ·exact .inl h
 ·obtain ⟨xs,h1,h2⟩:=yX h;exact .inr ⟨_,xs,rfl,h1,h2⟩
 ·exact h.elim
def BL (t:TE):TO:=fun σ H Q=>t σ H fun x H1=>match x with
 | .int i=>Q (some i) H1
 | _=>False
theorem UR (h:PE X e te):PO X (some e) (BL te):=by
 intro pins s σ H Q I q;refine evalPart_some_step (aD (h pins s σ H _ I q) fun v s1 ⟨x,H1,I1,r1,q1⟩=>?_);have q1':∃ i,x=.int i/\Q (some i) H1:=by
  dsimp only at q1;split at q1
  ·exact ⟨_,rfl,q1⟩
  ·exact q1.elim
 obtain ⟨i,rfl,z1⟩:=q1';obtain ⟨t,rfl⟩:=r1;exact ⟨some i,H1,I1,.int i t,z1⟩
def AF:wI:=fun o i v H Q=>match o,i with
 | .ref p,.int k=>match H p with
  | some (.lst xs)=>(match gp xs.length k with
   | some j=>Q (upd H p (.lst (xs.set j v)))
   | none=>False)
  | _=>False
 | _,_=>False
theorem IB:xb X AF:=by
 intro pins s σ H o i v ov iv u Q I ro ri rv h;refine set_list pins s σ H o i v ov iv u Q I ro ri rv ?_;unfold AF at h;split at h
 ·split at h
  ·rename_i xs h1;split at h
   ·rename_i j h2;exact ⟨_,xs,_,j,rfl,rfl,h1,h2,h⟩
   ·exact h.elim
  ·exact h.elim
 ·exact h.elim
theorem cT.imp {id:String} {r r':V->List V->Hp->VK->Prop} (h:cT X id r) (i:∀ x xs H Q,r' x xs H Q->r x xs H Q):cT X id r':=fun pins s σ H x xs v us Q I rx rv q=>h pins s σ H x xs v us Q I rx rv (i x xs H Q q)
def AV:V->List V->Hp->VK->Prop:=fun x vs H Q=>match x,vs with
 | .ref l,[y]=>match H l with
  | some (.lst xs)=>xs.length < sizeLine/\Q .au (upd H l (.lst (xs++[y])))
  | _=>False
 | _,_=>False
theorem js:cT X "list.append" AV:=cT.imp Ss fun x xs H Q h=>by
 unfold AV at h;split at h
 ·split at h
  ·rename_i zs h1;exact ⟨_,zs,_,rfl,rfl,h1,h.1,h.2⟩
  ·exact h.elim
 ·exact h.elim
def Ax:V->List V->Hp->VK->Prop:=fun x vs H Q=>match x,vs with
 | .ref l,[.ref b]=>match H l,H b with
  | some (.lst xs),some (.lst zs)=>xs.length+zs.length<=sizeLine/\Q .au (upd H l (.lst (xs++zs)))
  | _,_=>False
 | _,_=>False
theorem Ke:cT X "list.extend" Ax:=cT.imp Zp fun x xs H Q h=>by
 unfold Ax at h;split at h
 ·split at h
  ·rename_i zs ws h1 h2;exact ⟨_,_,zs,ws,rfl,rfl,h1,h2,h.1,h.2⟩
  ·exact h.elim
 ·exact h.elim
def clsName (H:Hp):V->Option String
 | .au=>some "NoneType"
 | .bl _=>some "bool"
 | .int _=>some "int"
 | .str _=>some "str"
 | .ref p=>match H p with
  | some (.lst _)=>some "list"
  | some (.tup _)=>some "tuple"
  | some (.dK _)=>some "dict"
  | _=>none
 | _=>none
def sx (T n:String):Bool:=T == n || (T == "bool" && n == "int")
theorem Zf {K:PySem.W.Frag} {H:Hp} {x:V} {T:String} (h:clsName H x=some T):fw K H x (.type T)/\T∈["NoneType","bool","int","str","list","tuple","dict"]:=by
 unfold clsName at h;split at h
 ·cases h; exact ⟨.au,by simp⟩
 ·cases h; exact ⟨.bl _,by simp⟩
 ·cases h; exact ⟨.int _,by simp⟩
 ·cases h; exact ⟨.str _,by simp⟩
 ·split at h
  ·rename_i e; cases h; exact ⟨.lst e,by simp⟩
  ·rename_i e; cases h; exact ⟨.tup e,by simp⟩
  ·rename_i e; cases h; exact ⟨.dK e,by simp⟩
  ·cases h
 ·cases h
theorem NN (K:PySem.W.Frag):∀ T,T∈["NoneType","bool","int","str","list","tuple","dict"]->∀ n,n∈["bool","int","str","list","tuple","dict"]->PySem.W.kitOne K (.type T) (.type n)=some (sx T n):=by
 intro T hT n hn;simp only [List.mem_cons,List.mem_nil_iff,or_false] at hT hn;rcases hT with rfl | rfl | rfl | rfl | rfl | rfl | rfl <;> rcases hn with rfl | rfl | rfl | rfl | rfl | rfl <;> kernel_rfl
def Ck:List V->Hp->VK->Prop:=fun xs H Q=>match xs with
 | [x,.ty n]=>n∈["bool","int","str","list","tuple","dict"]/\match clsName H x with
  | some T=>Q (.bl (sx T n)) H
  | none=>False
 | _=>False
theorem jw:cI X (.builtin "isinstance") Ck:=QF.imp fun xs H Q h=>by
 unfold Ck at h;split at h
 ·rename_i x n;obtain ⟨hn,h⟩:=h;split at h
  ·rename_i T e;obtain ⟨h1,h2⟩:=Zf (K:=X.K) e;exact ⟨_,_,.inl ⟨_,rfl⟩,h1,NN _ T h2 n hn,h⟩
  ·exact h.elim
 ·exact h.elim
def zf (r:V->List V->Hp->VK->Prop) (to:TE) (t:TA):TE:=fun σ H Q=>to σ H fun x H1=>match x with
 | .str z=>t σ H1 fun xs H2=>r (.str z) xs H2 Q
 | _=>False
def Bp (r:V->List V->Hp->VK->Prop) (to:TE) (t:TA):TE:=fun σ H Q=>to σ H fun x H1=>match x with
 | .ref l=>(match H1 l with
  | some (.lst _)=>t σ H1 fun xs H2=>r (.ref l) xs H2 Q
  | _=>False)
 | _=>False
section
variable {T:String} {name:Str} {id:String} {r:V->List V->Hp->VK->Prop} {o e:Expr} {es:List Expr} {to:TE} {t:TA} {apos bu:Pos}
theorem TQ (slot:Slot "str" name id) (cw:typeOf (.builtin id)=pure (.type "method_descriptor")) (hm:cT X id r) (ho:PE X o to) (ha:PA X (e::es) t)
  (hs:(e::es).all noStar=true:=by rfl) (aP:decide ((e::es).length+([]:List Keyword).length+(if ([]:List Keyword).isEmpty then 0 else 1) < 30)=true:=by rfl)
  (gk:attributeBase o name X.env (eval o X.env)=eval o X.env:=by rfl) (gn:(apos.endLine == bu.line)=true:=by rfl) :
  PE X (.Call (.Attribute o name apos) (e::es) [] bu) (zf r to t):=by
 have hs':=hs;rw [List.all_cons,Bool.and_eq_true] at hs';have aO:starEach (e::es) X.env=(false,eval e X.env)::starEach es X.env:=fc hs'.1;have uO:(backTo bu (starEach es X.env)).any (·.1)=false:=gW hs'.2;have uJ:((backTo bu (starEach (e::es) X.env)).all (fun x=>!x.1) && (backToKw bu (keywordEach [] X.env)).all (fun x=>x.1.isSome)
   && decide ((e::es).length+([]:List Keyword).length+(if ([]:List Keyword).isEmpty then 0 else 1) < 30))=true:=by
  rw [w6 hs,aP];rfl
 intro pins s σ H Q I h;refine wpAny_Call_method_late gk uJ gn rfl (aD (ho pins s σ H _ I h) fun v s1 ⟨x,H1,I1,r1,q1⟩=>?_);dsimp only at q1;split at q1
 ·rename_i z;obtain ⟨h1,h2⟩:=yD (T := "str") I1 r1 rfl;refine ⟨"str",id,PySem.F.plainAttrs_str,slot,cw,h1,h2,?_⟩;have hA:=ha bu pins s1 σ H1 _ I1 q1;rw [aO] at hA ⊢;refine Calls.callWith_builtin (by show (false || (backTo bu (starEach es X.env)).any (·.1))=false; rw [uO] <;> rfl) (Calls.evalArgs_plain ?_);exact aD hA fun us s2 ⟨vs,H2,I2,r2,q2⟩=>hm pins s2 σ H2 (.str z) vs v us Q I2 r1 r2 q2
 ·exact q1.elim
theorem UU (slot:Slot "list" name id) (cw:typeOf (.builtin id)=pure (.type "method_descriptor")) (hm:cT X id r) (ho:PE X o to) (ha:PA X (e::es) t)
  (hs:(e::es).all noStar=true:=by rfl) (aP:decide ((e::es).length+([]:List Keyword).length+(if ([]:List Keyword).isEmpty then 0 else 1) < 30)=true:=by rfl)
  (gk:attributeBase o name X.env (eval o X.env)=eval o X.env:=by rfl) (gn:(apos.endLine == bu.line)=true:=by rfl) :
  PE X (.Call (.Attribute o name apos) (e::es) [] bu) (Bp r to t):=by
 have hs':=hs;rw [List.all_cons,Bool.and_eq_true] at hs';have aO:starEach (e::es) X.env=(false,eval e X.env)::starEach es X.env:=fc hs'.1;have uO:(backTo bu (starEach es X.env)).any (·.1)=false:=gW hs'.2;have uJ:((backTo bu (starEach (e::es) X.env)).all (fun x=>!x.1) && (backToKw bu (keywordEach [] X.env)).all (fun x=>x.1.isSome)
   && decide ((e::es).length+([]:List Keyword).length+(if ([]:List Keyword).isEmpty then 0 else 1) < 30))=true:=by
  rw [w6 hs,aP];rfl
 intro pins s σ H Q I h;refine wpAny_Call_method_late gk uJ gn rfl (aD (ho pins s σ H _ I h) fun v s1 ⟨x,H1,I1,r1,q1⟩=>?_);dsimp only at q1;split at q1
 ·rename_i l;split at q1
  ·rename_i zs el;obtain ⟨h1,h2⟩:=yD (T := "list") I1 r1 (.inl ⟨rfl,zs,aC.of el⟩);refine ⟨"list",id,PySem.F.plainAttrs_list,slot,cw,h1,h2,?_⟩;have hA:=ha bu pins s1 σ H1 _ I1 q1;rw [aO] at hA ⊢;refine Calls.callWith_builtin (by show (false || (backTo bu (starEach es X.env)).any (·.1))=false; rw [uO] <;> rfl) (Calls.evalArgs_plain ?_);exact aD hA fun us s2 ⟨vs,H2,I2,r2,q2⟩=>hm pins s2 σ H2 (.ref l) vs v us Q I2 r1 r2 q2
  ·exact q1.elim
 ·exact q1.elim
end
theorem UP {CX:eT} {P:Program} {w:World} {K:PySem.W.Frag} {mg:Str->Option Value} {base:Heap} {N:List Str} {qual:Str} {scope:Scope} {f:Addr} {cd:Value} {A:Around} {outer:List Env} {s:Shared} {H:Hp} {E:XK} :
  (gU CX P w K mg base N qual scope f cd A outer s H E).K=K:=rfl
theorem df {α:Type} (a:α) (l:List α):cU (a::l) 0=some a:=iX (j:=0) rfl
theorem uv {α:Type} (a b:α) (l:List α):cU (a::b::l) 1=some b:=iX (j:=1) rfl
theorem Hw {α:Type} (a b c:α) (l:List α):cU (a::b::c::l) 2=some c:=iX (j:=2) rfl
theorem PJ (n:Nat):gp (n+1) 0=some 0:=by
 unfold gp;rw [if_pos (by decide),if_pos (by omega)];rfl
theorem P7 (n:Nat):gp (n+3) 2=some 2:=by
 unfold gp;rw [if_pos (by decide),if_pos (by omega)];rfl
theorem K5 {H:Hp} {p b:Addr} {o u:HO} (h:H b=some u) (hp:H p=Option.none):upd H p o b=some u:=by rw [ag (gd h hp)]; exact h
theorem fZ:bootBuiltins "isinstance" = some (.builtin "isinstance"):=by decide +kernel
theorem K8:bootBuiltins "all" = some (.builtin "all"):=by decide +kernel
theorem md:bootBuiltins "str" = some (.type "str"):=by decide +kernel
theorem Xq:bootBuiltins "bool" = some (.type "bool"):=by decide +kernel
theorem tY:bootBuiltins "int" = some (.type "int"):=by decide +kernel
theorem vN:bootBuiltins "list" = some (.type "list"):=by decide +kernel
end
abbrev J5 (ifs:List Expr) (env:Env):Sem Bool:=forIn ifs true fun c r=>if r=true then do let ok <- isTrue c env (eval c env); pure (ForInStep.yield ok) else pure (ForInStep.yield r)
section
variable {prog:Program} {w:World} {A:Around} {R:Result->Shared->Prop} {s:Shared}
theorem Pq (J:Nat->Shared->Prop) (hN:∀ e s',notedBy (model prog w) A env (fun e s'=>R (.error e) s') e s'->True)
  (turn:∀ n s,J n s->wpAny (model prog w) A (pyNext it) (fun r s1=>match r with
   | none=>R (.ok .next) s1
   | some v=>wpAny (model prog w) A (letOwnedTupleGo tg it v) (fun _ s2=>wpAny (model prog w) A (assign tg env v) (fun _ s3=>wpAny (model prog w) A (J5 ifs env)
     (fun ok s4=>if ok=true then wpAny (model prog w) A (eval elt env) (fun x s5=>wpAny (model prog w) A (call (.builtin "list.append") [acc,x]) (fun _ s6=>∃ m,m < n/\J m s6) (fun _ _=>False) s5) (fun _ _=>False) s4
      else ∃ m,m < n/\J m s4) (fun _ _=>False) s3) (fun _ _=>False) s2) (fun _ _=>False) s1) (fun _ _=>False) s)
  (n:Nat) (h:J n s):codeAny (model prog w) A (.compLoop (.ListComp elt [⟨tg,iter,ifs,0⟩] scope pos) 0 it acc env) R s:=by
 have no:∀ {E:Value->Shared->Prop} (e:Value) (s':Shared),False->E e s':=fun _ _ z=>z.elim;refine codeAny_loop rfl J (fun n s hI=>?_) n h;refine (show wpAny _ A (Sem.onRaise (compTurn (.ListComp elt [⟨tg,iter,ifs,0⟩] scope pos) 0 it acc env) (fun x=>do noteFrame x env; theTreesLotGoes x)) _ _ s from ?_);refine wpAny_noted ?_;rw [compTurn_list];refine wpAny_bind (wpAny_standAt (wpAny_bind (wpAny_mono (turn n s hI) (fun r s1 q1=>?_) no)));cases r with
 | none=>exact wpAny_pure q1
 | some v =>
  refine wpAny_bind (wpAny_mono q1 (fun _ s2 q2=>wpAny_bind (wpAny_mono q2 (fun _ s3 q3=>wpAny_bind (wpAny_mono q3 (fun ok s4 q4=>?_) no)) no)) no);cases ok with
  | false=>exact wpAny_pure ⟨rfl,q4⟩
  | true=>exact wpAny_bind (wpAny_bind (wpAny_mono q4 (fun x s5 q5=>wpAny_bind (wpAny_mono q5 (fun _ s6 q6=>wpAny_pure (wpAny_pure ⟨rfl,q6⟩)) no)) no))
end
def oY (X:Cx) (ifs:List Expr) (t:TT):Prop :=
 ∀ (pins:List (Addr×Obj)) (s:Shared) (σ:St) (H:Hp) (Q:Bool->Hp->Prop),Inv X pins σ H s->t σ H Q->wpAny (model X.prog X.w) X.A (J5 ifs X.env) (TP X pins σ Q) X.xe s
def g7:TT:=fun _ H Q=>Q true H
theorem Qt:oY X [] g7:=fun _ _ _ H _ I h=>wpAny_tests_nil ⟨H,I,h⟩
theorem XJ (h:PT X c t):oY X [c] t:=fun pins s σ H Q I q=>wpAny_tests_one (h pins s σ H Q I q)
def wk (wi:TI) (tt:TT) (te:TE):TE:=fun σ H Q=>wi σ H fun J H1=>∃ W:Nat->List V->Nat->Hp->Prop,(∃ m,W 0 [] m H1)/\∀ i ys m H,W i ys m H ->
 ys.length<=sizeLine/\((J.stop i H/\∀ l,H l=none->Q (.ref l) (upd H l (.lst ys))) \/
  (J.go i H/\ys.length < sizeLine/\∀ y H',J.kO i H y H'->tt [some y] H' fun c H2=>if c=true then te [some y] H2 fun z H3=>∃ m',m' < m/\W (i+1) (ys++[z]) m' H3 else ∃ m',m' < m/\W (i+1) ys m' H2))
section
variable {X:Cx}
structure yC (X:Cx) (pins:List (Addr×Obj)) (H:Hp) (C:Addr):Prop where
 fr:H C=none
 nl:C≠X.env.locals
 ab:X.s₀.heap.objs.size<=C
 nc:∀ x c,X.env.cells.lookup x=some c->c≠C
 np:∀ p∈X.pn++pins,p.1≠C
theorem yC.go (o:yC X pins H C) (I:Inv X pins σ H s) (hs:Heap.SameBut C s.heap h'):Inv X pins σ H { s with heap:=h' } :=
 I.turned (t':=s.toks) (fun b ob hb e=>(hs.2 b hb).trans e) o.fr o.nl (.inr o.ab) o.nc o.np
end
def cO (st:Addr) (H H':Hp):Prop:=∀ c o,c≠st->H c=some o->H' c=some o
theorem cO.trans {st:Addr} {H H1 H2:Hp} (a:cO st H H1) (b:cO st H1 H2):cO st H H2:=fun c o n e=>b c o n (a c o n e)
theorem ah.upd (h:H p=Option.none):ah H (upd H p o):=fun b u e=>by rw [ag (gd e h)]; exact e
theorem ah.keep (h:ah H H') (st:Addr):cO st H H':=fun c o _ e=>h c o e
theorem cO.upd:cO p H (upd H p o):=fun c u n e=>by rw [ag n]; exact e
theorem cO.same {H H1 H':Hp} {st:Addr} (a:ah H H1) (h:H st=Option.none) (k:cO st H1 H'):ah H H':=fun c o e=>k c o (gd e h) (a c o e)
def w9:V->Bool
 | .str _=>true
 | _=>false
def mE (t:TE):TE:=fun σ H Q=>∃ M:VK,t σ H M/\∀ v H1,M v H1->Q v H1
def mA (t:TA):TA:=fun σ H Q=>∃ M:List V->Hp->Prop,t σ H M/\∀ v H1,M v H1->Q v H1
theorem PE.m (h:PE X e t):PE X e (mE t):=fun pins s σ H Q I ⟨M,h1,h2⟩=>aD (h pins s σ H M I h1) fun _ _ ⟨v,H1,I1,r,q⟩=>⟨v,H1,I1,r,h2 v H1 q⟩
theorem PA.m (h:PA X e t):PA X e (mA t):=fun pos pins s σ H Q I ⟨M,h1,h2⟩=>aD (h pos pins s σ H M I h1) fun _ _ ⟨v,H1,I1,r,q⟩=>⟨v,H1,I1,r,h2 v H1 q⟩
theorem PI.imp (h:PI X tg it t) (i:∀ σ H R,t' σ H R->t σ H R):PI X tg it t':=fun pins s σ H R I hw=>h pins s σ H R I (i σ H R hw)
def BM (ta:TA):TI:=fun σ H R=>ta σ H fun vs H1=>match vs with
 | [.int j]=>(-(2 ^ 62)<=j/\j < 2 ^ 62)/\R (lQ 0 j.toNat) H1
 | _=>False
theorem Tz (hg:Gl X "range") (hm:X.mg "range" = none) (ha:PA X [a] ta) (hs:starEach [a] X.env=[(false,eval a X.env)]:=by rfl):PI X tg (.Call (.Name "range" p) [a] [] pos) (BM ta) :=
 (Sn hg hm ha.m hs).imp fun σ H R h=>⟨_,h,fun vs H1 z=>by
  split at z
  ·exact ⟨_,rfl,z.1.1,z.1.2,z.2⟩
  ·exact z.elim⟩
def wj (K:PySem.W.Frag) (tl:TE):TI:=fun σ H R=>tl σ H fun x H1=>match x with
 | .ref a=>(∃ xs,aC K H1 a xs)/\R (iY K a) H1
 | _=>False
theorem R9 (hl:PE X l tl):PI X tg l (wj X.K tl):=(OK hl.m).imp fun σ H R h=>⟨_,h,fun x H1 z=>by
  split at z
  ·exact ⟨_,rfl,z.1,z.2⟩
  ·exact z.elim⟩
def C8 (J:It) (g:TG) (tb:TS) (D:Ends) (σ:St) (H1:Hp):Prop:=∃ W:Nat->Nat->St->Hp->Prop,(∃ m,W 0 m σ H1)/\∀ i m σ H,W i m σ H ->
 (J.stop i H/\D.nx σ H)\/(J.go i H/\∃ N:St->Hp->Prop,(∀ σ' H',N σ' H'->∃ m',m' < m/\W (i+1) m' σ' H')/\∀ x H',J.kO i H x H'->g x σ H' fun σ2 H2=>tb { D with nx:=N,ct:=N,bk:=D.nx } σ2 H2)
theorem Zo:vw wi g tb D σ H=wi σ H fun J H1=>C8 J g tb D σ H1:=rfl
theorem YZ {lo:Int} {n:Nat} {g:TG} {tb:TS} {D:Ends} {σ:St} {H:Hp} (Pv:Nat->St->Hp->Prop) (h0:Pv 0 σ H)
  (hs:∀ i σ H,i < n->Pv i σ H->g (.int (lo+i)) σ H fun σ2 H2=>tb { D with nx:=Pv (i+1),ct:=Pv (i+1),bk:=D.nx } σ2 H2) (hd:∀ σ H,Pv n σ H->D.nx σ H):C8 (lQ lo n) g tb D σ H:=Zx Pv h0 hs hd
theorem rA {K:PySem.W.Frag} {a:Addr} {xs:List V} {g:TG} {tb:TS} {D:Ends} {σ:St} {H:Hp} (Pv:Nat->St->Hp->Prop) (h0:Pv 0 σ H) (hl:∀ i σ H,i<=xs.length->Pv i σ H->aC K H a xs)
  (hs:∀ i x σ H,xs[i]?=some x->Pv i σ H->g x σ H fun σ2 H2=>tb { D with nx:=Pv (i+1),ct:=Pv (i+1),bk:=D.nx } σ2 H2) (hd:∀ σ H,Pv xs.length σ H->D.nx σ H):C8 (iY K a) g tb D σ H:=OG Pv h0 hl hs hd
theorem fits (h:n<=1000):n<=sizeLine:=Nat.le_of_lt (Fd h)
theorem iR (h:n<=1000):n < sizeLine:=Fd h
def nh (t u:TS):TS:=fun D σ H=>∃ P:St->Hp->Prop,t { D with nx:=P } σ H/\∀ σ' H',P σ' H'->u D σ' H'
theorem Rw {X:Cx} {st:Stmt} {rest:List Stmt} {t u:TS} (h1:PS X st t) (h2:dE X rest u):dE X (st::rest) (nh t u):=by
 intro pins s σ H D I h;obtain ⟨P,ht,hu⟩:=h;have h1':PS X st (fun D' σ' H'=>D'={ D with nx:=P }/\t D' σ' H'):=h1.imp fun _ _ _ z=>z.2;have h2':dE X rest (fun D' σ' H'=>P σ' H'/\D'=D):=fun pins s σ H D' I z=>by
  obtain ⟨z1,rfl⟩:=z;exact h2 pins s σ H D' I (hu σ H z1)
 refine U3 (t:=fun D' σ' H'=>t { D with nx:=P } σ' H'/\D'.rt=D.rt/\D'.bk=D.bk/\D'.ct=D.ct/\∀ σ'' H'',P σ'' H''->D'.nx σ'' H'') (u:=fun D' σ' H'=>P σ' H'/\D'=D) ?_ h2' pins s σ H D I ⟨ht,rfl,rfl,rfl,fun σ'' H'' z=>⟨z,rfl⟩⟩;intro pins s σ H D' I z;obtain ⟨z1,z2,z3,z4,z5⟩:=z;refine aD (h1 pins s σ H { D with nx:=P } I z1) fun f s' hq=>?_;cases f with
 | next=>obtain ⟨σ',H',I',q⟩:=hq; exact ⟨σ',H',I',z5 _ _ q⟩
 | brk=>obtain ⟨σ',H',I',q⟩:=hq; exact ⟨σ',H',I',by rw [z3]; exact q⟩
 | cont=>obtain ⟨σ',H',I',q⟩:=hq; exact ⟨σ',H',I',by rw [z4]; exact q⟩
 | ret u=>obtain ⟨v,σ',H',I',r,q⟩:=hq; exact ⟨v,σ',H',I',r,by rw [z2]; exact q⟩
theorem aj (h:t { D with nx:=u D } σ H):nh t u D σ H:=⟨u D,h,fun _ _ z=>z⟩
theorem fe (P:St->Hp->Prop) (h1:t { D with nx:=P } σ H) (h2:∀ σ' H',P σ' H'->u D σ' H'):nh t u D σ H:=⟨P,h1,h2⟩
theorem yP (h:clsName H x=some T):sx T "str" = w9 x:=by
 unfold clsName at h;split at h
 ·cases h; rfl
 ·cases h; rfl
 ·cases h; rfl
 ·cases h; rfl
 ·split at h
  ·cases h; rfl
  ·cases h; rfl
  ·cases h; rfl
  ·cases h
 ·cases h
theorem ZK (H:Hp) (z:Str):clsName H (.str z)=some "str" := rfl
theorem PN (H:Hp) (z:Bool):clsName H (.bl z)=some "bool" := rfl
theorem Rg (H:Hp) (z:Int):clsName H (.int z)=some "int" := rfl
theorem T8 (H:Hp):clsName H .au=some "NoneType" := rfl
theorem vy (n:String) (h:["bool","int","str","list","tuple","dict"].contains n=true):n∈["bool","int","str","list","tuple","dict"]:=by simpa using h
def wy (K:PySem.W.Frag):R2:=fun x y H Q=>match y with
 | .ref p=>∃ xs,(aC K H p xs\/bJ K H p xs)/\cN x=true/\xs.all cN=true/\Q (.bl (gT x xs)) H
 | _=>False
theorem Sw:bg X (compareOp .In) (wy X.K):=Kv.imp fun x y H Q h=>by
 unfold wy at h;split at h
 ·obtain ⟨xs,h1,h2,h3,h4⟩:=h;exact ⟨_,xs,rfl,h1,h2,h3,h4⟩
 ·exact h.elim
section
variable {X:Cx} {K:PySem.W.Frag}
theorem tu (h:X.K=K):bg X (compareOp .In) (xq K):=h ▸ ZN
theorem wN (h:X.K=K):bg X (compareOp .In) (wy K):=h ▸ Sw
theorem kc (h:X.K=K):cI X (.builtin "len") (wB K):=h ▸ R8
theorem KD (h:X.K=K) (hc:X.calm=true):cI X (.builtin "all") (vL K):=h ▸ OD hc
theorem Ky (h:X.K=K):cI X (.type "list") (vo K):=h ▸ XX
theorem bC (h:X.K=K):fC X (nj K):=h ▸ qx
theorem mm (h:X.K=K):gS X (xw K):=h ▸ Yl
theorem Cw (h:X.K=K):cT X "str.join" (rJoin K):=h ▸ VI
end
def sV:Sp:=fun vs H Q _=>match vs with
 | [.ref st,.int b]=>∃ zs:List Int,H st=some (.lst (zs.map V.int))/\(zs.length=1\/zs.length=3)/\0 < b/\b < 1073741824 /\
   ∀ (d:Int) (zs':List Int) (H':Hp),0<=d->d < b->zs'.length=3->H' st=some (.lst (zs'.map V.int))->cO st H H'->Q (.int d) H'
 | _=>False
def oN (J:It) (tt:TT) (te:TE) (Q:VK) (H0:Hp):Prop:=∃ W:Nat->List V->Nat->Hp->Prop,(∃ m,W 0 [] m H0)/\∀ i ys m H,W i ys m H ->
 ys.length<=sizeLine/\((J.stop i H/\∀ l,H l=none->Q (.ref l) (upd H l (.lst ys))) \/
  (J.go i H/\ys.length < sizeLine/\∀ y H',J.kO i H y H'->tt [some y] H' fun c H2=>if c=true then te [some y] H2 fun z H3=>∃ m',m' < m/\W (i+1) (ys++[z]) m' H3 else ∃ m',m' < m/\W (i+1) ys m' H2))
theorem FJ:wk wi tt te σ H Q=wi σ H fun J H1=>oN J tt te Q H1:=rfl
theorem UC (f:Nat->V) (hz:z.length<=sizeLine)
  (he:∀ c,c∈z.cps.toList->∀ H1,ah H H1->∀ R:VK,(∀ H2,ah H1 H2->R (f c) H2)->te [some (.str ⟨#[c]⟩)] H1 R)
  (q:∀ H1,ah H H1->∀ l,H1 l=none->Q (.ref l) (upd H1 l (.lst (z.cps.toList.map f)))):oN (vG z) g7 te Q H:=by
 have hl:z.cps.toList.length=z.length:=by simp [Str.length]
 refine ⟨fun i ys m H1=>ah H H1/\ys=(z.cps.toList.take i).map f/\i<=z.length/\m=z.length - i,⟨_,ah.refl H,rfl,Nat.zero_le _,rfl⟩,?_⟩;rintro i ys m H1 ⟨s1,rfl,hi,rfl⟩;have hlen:((z.cps.toList.take i).map f).length=i:=by rw [List.length_map,List.length_take,hl]; omega
 refine ⟨by rw [hlen]; omega,?_⟩;by_cases h:i < z.length
 ·refine .inr ⟨h,by rw [hlen]; omega,?_⟩;rintro y H' ⟨rfl,c,hc,rfl⟩;have jc:z.cps.toList[i]?=some c:=by simpa using hc
  simp only [g7,if_true];refine he c (List.mem_of_getElem? jc) H' s1 _ fun H2 s2=>⟨_,?_,s1.trans s2,?_,h,rfl⟩
  ·omega
  ·rw [List.take_add_one,jc,List.map_append]; rfl
 ·have LG:i=z.length:=by omega
  refine .inl ⟨Nat.le_of_eq LG.symm,fun l hl'=>?_⟩;have:=q H1 s1 l hl';rw [List.take_of_length_le (by rw [hl]; omega)];exact this
theorem Ar {K:PySem.W.Frag} {a:Addr} {xs:List V} {tt:TT} {te:TE} {H:Hp} {Q:VK} (p:V->Bool) (f:V->V) (EY:aC K H a xs) (hz:xs.length<=sizeLine)
  (ht:∀ x,x∈xs->∀ H1,ah H H1->∀ R:Bool->Hp->Prop,(∀ H2,ah H1 H2->R (p x) H2)->tt [some x] H1 R)
  (he:∀ x,x∈xs->p x=true->∀ H1,ah H H1->∀ R:VK,(∀ H2,ah H1 H2->R (f x) H2)->te [some x] H1 R)
  (q:∀ H1,ah H H1->∀ l,H1 l=none->Q (.ref l) (upd H1 l (.lst ((xs.filter p).map f)))):oN (iY K a) tt te Q H:=by
 refine ⟨fun i ys m H1=>ah H H1/\ys=((xs.take i).filter p).map f/\i<=xs.length/\m=xs.length - i,⟨_,ah.refl H,rfl,Nat.zero_le _,rfl⟩,?_⟩;rintro i ys m H1 ⟨s1,rfl,hi,rfl⟩;have hlen:(((xs.take i).filter p).map f).length<=i:=by
  rw [List.length_map];refine Nat.le_trans (List.length_filter_le _ _) ?_;rw [List.length_take]; omega
 refine ⟨by omega,?_⟩;by_cases h:i < xs.length
 ·have hx:xs[i]?=some xs[i]:=List.getElem?_eq_getElem h;refine .inr ⟨⟨xs,xs[i],s1.seq EY,hx⟩,by omega,?_⟩;rintro y H' ⟨rfl,hy⟩;have jb:xs[i]?=some y:=hy xs (s1.seq EY);have hm:y∈xs:=List.mem_of_getElem? jb;have e1:(xs.take (i+1)).filter p=(xs.take i).filter p++(if p y=true then [y] else []):=by
   rw [List.take_add_one,jb,List.filter_append];by_cases hp:p y=true
   ·simp [hp]
   ·simp [hp]
  refine ht y hm H' s1 _ fun H2 s2=>?_;by_cases hp:p y=true
  ·rw [if_pos hp];refine he y hm hp H2 (s1.trans s2) _ fun H3 s3=>⟨_,?_,(s1.trans s2).trans s3,?_,h,rfl⟩
   ·omega
   ·rw [e1,if_pos hp,List.map_append]; rfl
  ·rw [if_neg hp];refine ⟨_,?_,s1.trans s2,?_,h,rfl⟩
   ·omega
   ·rw [e1,if_neg hp,List.append_nil]
 ·have LG:i=xs.length:=by omega
  refine .inl ⟨⟨xs,s1.seq EY,by omega⟩,fun l hl'=>?_⟩;have:=q H1 s1 l hl';rw [List.take_of_length_le (by omega)];exact this
structure QE (X:Cx) (e:Expr) (t:TE):Prop where
 h:PE X e t
structure QA (X:Cx) (e:List Expr) (t:TA):Prop where
 h:PA X e t
structure QT (X:Cx) (e:Expr) (t:TT):Prop where
 h:PT X e t
structure QW (X:Cx) (e:Expr) (t:TT):Prop where
 h:PW X e t
structure QS (X:Cx) (e:Stmt) (t:TS):Prop where
 h:PS X e t
structure QB (X:Cx) (e:List Stmt) (t:TS):Prop where
 h:dE X e t
structure QI (X:Cx) (tg it:Expr) (t:TI):Prop where
 h:PI X tg it t
structure QG (X:Cx) (e:Expr) (t:TG):Prop where
 h:PG X e t
structure vK (X:Cx) (e:List Expr) (t:jm):Prop where
 h:ua X e t
structure oV (X:Cx) (e:List Expr) (t:TT):Prop where
 h:oY X e t
structure QO (X:Cx) (e:Option Expr) (t:TO):Prop where
 h:PO X e t
structure QP (X:Cx) (pos:Pos) (ks:List (Option Expr)) (vs:List Expr) (t:List (TE×TE)):Prop where
 h:Zk X pos ks vs t
namespace Dv
section
variable {X:Cx} {a b c:Expr} {ta tb tc:TE} {pos:Pos} {rest:List Expr} {tA tB':TT}
theorem v (i:Nat) (hN:X.N[i]?=some x:=by rfl) (hv:rC X.env.scope x:=by first | exact Or.inl rfl | exact Or.inr (Or.inl rfl) | exact Or.inr (Or.inr rfl)) (hd:(x == ("__debug__" : Str))=false:=by decide)
  (dj:(x == ("__classdict__" : Str))=false:=by decide):QE X (.Name x pos) (fh i):=⟨qv i hN hv hd dj⟩
theorem int {i j pos}:QE X (.Constant (.int i) j pos) (tC (.int i)):=⟨QU⟩
theorem bl {b j pos}:QE X (.Constant (.bool b) j pos) (tC (.bl b)):=⟨Q1⟩
theorem au {j pos}:QE X (.Constant .none j pos) (tC .au):=⟨P4⟩
theorem str {x j pos}:QE X (.Constant (.str x) j pos) (tC (.str x)):=⟨Te⟩
theorem glob (v:V) (hm:X.mg x=some u) (r:RelV v u) (hg:Gl X x:=by rfl) (hd:(x == ("__debug__" : Str))=false:=by decide):QE X (.Name x pos) (tC v):=⟨WR hg hm r hd⟩
theorem jf (v:V) (hm:X.mg x=none) (hv:bootBuiltins x=some u) (r:RelV v u) (hg:Gl X x:=by rfl) (hn:x ≠ "__name__" := by decide) (hd:(x == ("__debug__" : Str))=false:=by decide):QE X (.Name x pos) (tC v):=⟨SO hg hm hv r hn hd⟩
theorem op (ho:bg X (binaryOp o) r) (ha:QE X a ta) (hb:QE X b tb):QE X (.BinOp a o b pos) (ir r ta tb):=⟨Pp ho ha.h hb.h⟩
theorem un (ho:tw X (unaryOp o) r) (ha:QE X a ta):QE X (.UnaryOp o a pos) (BE r ta):=⟨Zd ho ha.h⟩
theorem cmp (ho:bg X (compareOp o) r) (ha:QE X a ta) (hb:QE X b tb) (hm:behindInMarks o b=false:=by first | exact wZ _ (by decide) (by decide) | rfl):QE X (.Compare a [o] [b] pos) (ir r ta tb):=⟨PB ho ha.h hb.h hm⟩
theorem xn (ha:QE X a ta) (hb:QE X (.BoolOp .And (b::rest) pos) tb):QE X (.BoolOp .And (a::b::rest) pos) (Bi ta tb):=⟨WS ha.h hb.h⟩
theorem YK (ha:QE X a ta) (hb:QE X (.BoolOp .Or (b::rest) pos) tb):QE X (.BoolOp .Or (a::b::rest) pos) (AJ ta tb):=⟨YV ha.h hb.h⟩
theorem one {o} (h:QE X a t):QE X (.BoolOp o [a] pos) t:=⟨Q0 h.h⟩
theorem Yb (ha:QE X a ta):QE X (.UnaryOp .Not a pos) (zg ta):=⟨TF ha.h⟩
theorem ae:QA X [] fR:=⟨Wq⟩
theorem aa (ha:QE X e te) (hr:QA X es t) (hs:noStar e=true:=by rfl):QA X (e::es) (fD te t):=⟨Rb ha.h hr.h hs⟩
theorem call
  (F:az X.prog X.w X.K X.mg X.base CX k f fd ps sp) (hr:bH k X.A) (hm:X.mg x=some (.ref f)) (hk:PySem.W.keepIn X.K (.ref f)=true) (hb:Binds X.K fd ps ds) (hd:Vals bE ds) (hx:Passes CX X E)
  (ha:QA X (e::es) t) (hg:Gl X x:=by rfl) (hs:(e::es).all noStar=true:=by rfl) (bV:(x == ("__debug__" : Str))=false:=by decide):QE X (.Call (.Name x p) (e::es) [] pos) (xB sp bE E t):=⟨Tt F hr hg hm hk hb hd hx ha.h hs bV⟩
theorem cF {x:Str} {p pos:Pos} {e:Expr} {es:List Expr} {t:TA} {id:String} {r:List V->Hp->VK->Prop} (hc:cI X (.builtin id) r) (hm:X.mg x=none) (hv:bootBuiltins x=some (.builtin id)) (ha:QA X (e::es) t)
  (hg:Gl X x:=by rfl) (hs:(e::es).all noStar=true:=by rfl) (hn:x ≠ "__name__" := by decide) (bV:(x == ("__debug__" : Str))=false:=by decide):QE X (.Call (.Name x p) (e::es) [] pos) (nM r t):=⟨Py hc hg hm hv ha.h hs hn bV⟩
theorem l6 (hc:cI X (.type T) r) (hm:X.mg x=none) (hv:bootBuiltins x=some (.type T)) (ha:QA X (e::es) t)
  (hg:Gl X x:=by rfl) (hs:(e::es).all noStar=true:=by rfl) (hn:x ≠ "__name__" := by decide) (bV:(x == ("__debug__" : Str))=false:=by decide):QE X (.Call (.Name x p) (e::es) [] pos) (nM r t):=⟨Wz hc hg hm hv ha.h hs hn bV⟩
section
variable {name:Str} {id:String} {r:V->List V->Hp->VK->Prop} {o e:Expr} {es:List Expr} {to:TE} {t:TA} {apos bu:Pos}
theorem nK (slot:Slot "str" name id) (cw:typeOf (.builtin id)=pure (.type "method_descriptor")) (hm:cT X id r) (ho:QE X o to) (ha:QA X (e::es) t)
  (hs:(e::es).all noStar=true:=by rfl) (aP:decide ((e::es).length+([]:List Keyword).length+(if ([]:List Keyword).isEmpty then 0 else 1) < 30)=true:=by rfl)
  (gk:attributeBase o name X.env (eval o X.env)=eval o X.env:=by rfl) (gn:(apos.endLine == bu.line)=true:=by rfl):QE X (.Call (.Attribute o name apos) (e::es) [] bu) (zf r to t):=⟨TQ slot cw hm ho.h ha.h hs aP gk gn⟩
theorem fo (slot:Slot "list" name id) (cw:typeOf (.builtin id)=pure (.type "method_descriptor")) (hm:cT X id r) (ho:QE X o to) (ha:QA X (e::es) t)
  (hs:(e::es).all noStar=true:=by rfl) (aP:decide ((e::es).length+([]:List Keyword).length+(if ([]:List Keyword).isEmpty then 0 else 1) < 30)=true:=by rfl)
  (gk:attributeBase o name X.env (eval o X.env)=eval o X.env:=by rfl) (gn:(apos.endLine == bu.line)=true:=by rfl):QE X (.Call (.Attribute o name apos) (e::es) [] bu) (Bp r to t):=⟨UU slot cw hm ho.h ha.h hs aP gk gn⟩
end
theorem jC:QO X none y1:=⟨Ue⟩
theorem iu (h:QE X a ta):QO X (some a) (BL ta):=⟨UR h.h⟩
theorem slice {r:V->Option Int->Option Int->Hp->VK->Prop} {lo hi:Option Expr} {tl th:TO} {p2:Pos} (hr:gS X r) (he:QE X a ta) (hl:QO X lo tl) (hu:QO X hi th):QE X (.Subscript a (.Slice lo hi none p2) pos) (zj r ta tl th):=⟨Q8 hr he.h hl.h hu.h⟩
theorem ix (hr:fC X r) (ha:QE X a ta) (hb:QE X b tb) (hs:K3 b:=by intro _ _; rfl):QE X (.Subscript a b pos) (ir r ta tb):=⟨Uw hr ha.h hb.h hs⟩
theorem lst (h:QA X es t):QE X (.List es pos) (wc t):=⟨O8 h.h⟩
theorem tup {x1} (h:QA X es t):QE X (.Tuple es x1 pos) (ko t):=⟨RO h.h⟩
theorem nR:QE X (.Dict [] [] pos) yK:=⟨Xx⟩
theorem aZ (ho:bg X (compareOp o) r) (ha:QE X a ta) (hb:QE X b tb) (hm:behindInMarks o b=false:=by first | exact wZ _ (by decide) (by decide) | rfl):QT X (.Compare a [o] [b] pos) (lF (ir r ta tb)):=⟨NR ho ha.h hb.h hm⟩
theorem Ac (ho:bg X (compareOp o) (jI f)) (ho':bg X (compareOp o') (jI g)) (ha:QE X a ta) (hb:QE X b tb) (hc:QE X c tc)
  (hm:lastMarks [o,o'] [b,c]=false:=by with_unfolding_all rfl):QT X (.Compare a [o,o'] [b,c] pos) (BO f g ta tb tc):=⟨UW ho ho' ha.h hb.h hc.h hm⟩
theorem cK (h:QE X a t) (he:∀ whole,isTrue a X.env whole=(do let v <- whole; standAt a.pos; holding [v] (truthy v)):=by intro _; rfl):QT X a (lF t):=⟨TX h.h he⟩
theorem c9 (ha:QT X a tA):QT X (.UnaryOp .Not a pos) (Cz tA):=⟨Xs ha.h⟩
theorem eA (h:QW X a tA):QT X a tA:=⟨h.h.pt⟩
theorem jz (ha:QT X a tA):QW X (.BoolOp .And [a] pos) tA:=⟨S8 ha.h⟩
theorem jo (ha:QT X a tA):QW X (.BoolOp .Or [a] pos) tA:=⟨UO ha.h⟩
theorem w_and (ha:QT X a tA) (hb:QW X (.BoolOp .And (b::rest) pos) tB'):QW X (.BoolOp .And (a::b::rest) pos) (yA tA tB'):=⟨VC ha.h hb.h⟩
theorem w_or (ha:QT X a tA) (hb:QW X (.BoolOp .Or (b::rest) pos) tB'):QW X (.BoolOp .Or (a::b::rest) pos) (zt tA tB'):=⟨Vf ha.h hb.h⟩
variable {st:Stmt} {LL:List Stmt} {t u:TS} {tg:Expr} {g:TG}
theorem et (i:Nat) (hN:X.N.Nodup) (hi:X.N[i]?=some x:=by rfl) (hx:Loc X.env.scope x:=by first | exact Or.inl rfl | exact Or.inr rfl) (hf:X.fn x=true\/X.env.scope.names.lookup x=some .local:=by first | exact .inl rfl | exact .inr rfl):QG X (.Name x pos) (eV i):=⟨Qs hN hi hx hf⟩
theorem JI (ho:QE X o to) (hi:QE X i ti) (hs:xb X s) (ha:∀ v,assign (.Subscript o i pos) X.env v=(do
   let ov <- holding [v] (eval o X.env)
   let iv <- holding [v,ov] (eval i X.env)
   standAt pos
   holding [v,ov,iv] (setItem ov iv v)
   release [v,ov,iv] []):=by intro _; rfl):QG X (.Subscript o i pos) (zI to ti s):=⟨Ts ho.h hi.h hs ha⟩
theorem xo:vK X [] zS:=⟨Y4⟩
theorem lL {e:Expr} {es:List Expr} {t:TG} {u:jm} (h1:QG X e t) (h2:vK X es u) (hs:(assignEach (e::es) X.env).map (·.2)=assign e X.env::(assignEach es X.env).map (·.2):=by rfl):vK X (e::es) (zM t u):=⟨Xm h1.h h2.h hs⟩
theorem wo {K:PySem.W.Frag} {es:List Expr} {k:Nat} {t:jm} {n:Nat} (hK:X.K=K) (hc:X.calm=true) (h:vK X es t) (hn:(assignEach es X.env).length=n:=by rfl) (aO:(assignEach es X.env).findIdx? (·.1)=none:=by rfl):QG X (.Tuple es k pos) (yx K n t):=hK ▸ ⟨Rm hc h.h hn aO⟩
theorem aR (i:Nat) (hN:X.N.Nodup) (he:QE X e te) (hi:X.N[i]?=some x:=by rfl) (hx:Loc X.env.scope x:=by first | exact Or.inl rfl | exact Or.inr rfl) (hs:swapsWith e (some (.Name x pos')) pos.line X.env=pure false:=by rfl)
  (hf:X.fn x=true\/X.env.scope.names.lookup x=some .local:=by first | exact .inl rfl | exact .inr rfl):QS X (.Assign [.Name x pos'] e pos) (jt te (eV i)):=⟨NU hN hi hx he.h hs hf⟩
theorem ub (he:QE X e te) (hg:QG X tg g) (hs:swapsWithSole [tg] e pos.line X.env=pure false:=by rfl) (hw:swappedStores [tg] e X.env=pure none:=by rfl) (h1:(assignEach [tg] X.env).map (·.2)=[assign tg X.env]:=by rfl) :
  QS X (.Assign [tg] e pos) (jt te g):=⟨Ww he.h hg.h hs hw h1⟩
theorem aM (he:QE X a ta):QS X (.Return (some a) pos) (Dn ta):=⟨Xe he.h⟩
theorem Hb:QS X (.Return none pos) Ab:=⟨OI⟩
theorem aU (he:QE X a ta) (hs:swapsWith a none pos.line X.env=pure false:=by rfl):QS X (.Expr a pos) (zA ta):=⟨Ry he.h hs⟩
theorem aW (hc:QT X a tA) (ha:QB X A t) (hb:QB X B u):QS X (.If a A B pos) (rH tA t u):=⟨Ul hc.h ha.h hb.h⟩
theorem oQ {iter:Expr} {body:List Stmt} {wi:TI} {tb:TS} (hp:PassesOwn (model X.prog X.w) X.A X.env X.xe) (hc:X.calm=true) (hi:QI X tg iter wi) (hg:QG X tg g) (hb:QB X body tb) (hs:∀ x,foldedSetIterable iter X.env x=pure x:=by intro _; rfl) :
  QS X (.For tg iter body [] pos) (vw wi g tb):=⟨W7 hp hc hi.h hg.h hb.h hs⟩
theorem nil:QB X [] Bv:=⟨VL⟩
theorem ai (h1:QS X st t):QB X [st] t:=⟨W6 h1.h⟩
theorem cut (h1:QS X st t) (h2:QB X LL u):QB X (st::LL) (nh t u):=⟨Rw h1.h h2.h⟩
theorem iS {K:PySem.W.Frag} {l:Expr} {tl:TE} (h:X.K=K) (hl:QE X l tl):QI X tg l (wj K tl):=h ▸ ⟨R9 hl.h⟩
theorem SA (hl:QE X l tl):QI X tg l (y2 tl):=⟨Qh hl.h⟩
theorem OL {ta:TA} {p:Pos} (hm:X.mg "range" = none) (ha:QA X [a] ta) (hg:Gl X "range" := by rfl) (hs:noStar a=true:=by rfl):QI X tg (.Call (.Name "range" p) [a] [] pos) (BM ta):=⟨Tz hg hm ha.h (fc hs)⟩
theorem sd:oV X [] g7:=⟨Qt⟩
theorem Ld (h:QT X c tA):oV X [c] tA:=⟨XJ h.h⟩
end
end Dv
end L2
namespace Tx
open PySem PySem.Builtin PySem.StrLaws
theorem ze (h:a=c) (r:List Nat):cut c (a::r)=[]::cut c r:=if_pos h
theorem GJ (h:¬ a=c) (e:cut c r=x::y):cut c (a::r)=(a::x)::y:=by
 show (if a=c then _ else _)=_;rw [if_neg h,e]
theorem HG (c:Nat):∀ (t r:List Nat),cut c (t++c::r)=cut c t++cut c r
 | [],r=>ze rfl r
 | a::t,r=>by
  have ih:=HG c t r;show cut c (a::(t++c::r))=_;by_cases h:a=c
  ·rw [ze h,ze h,ih]; rfl
  ·cases e:cut c t with
   | nil=>exact absurd e (VX c t)
   | cons x y =>
    rw [e] at ih;rw [GJ h ih,GJ h e]; rfl
def words (c:Nat) (t:List Nat):List (List Nat):=(cut c t).filter fun w=>decide (w≠[])
theorem yN (c:Nat) (t r:List Nat):words c (t++c::r)=words c t++words c r:=by
 unfold words;rw [HG,List.filter_append]
theorem yH (c:Nat) (r:List Nat):words c (c::r)=words c r:=yN c [] r
theorem HU (c:Nat) (r:List Nat):∀ n:Nat,words c (List.replicate n c++r)=words c r
 | 0=>rfl
 | n+1=>by
  show words c (c::(List.replicate n c++r))=_;rw [yH,HU c r n]
theorem Gr (c:Nat):∀ w:List Nat,c ∉ w->cut c w=[w]
 | [],_=>rfl
 | a::r,h=>by
  unfold cut;rw [if_neg (fun e=>h (by rw [e]; exact List.mem_cons_self)),Gr c r (fun m=>h (List.mem_cons_of_mem _ m))]
theorem F4 (c:Nat) (w:List Nat) (h:c ∉ w) (hn:w≠[]):words c w=[w]:=by
 unfold words;rw [Gr c w h];simp [hn]
theorem vQ (c:Nat):∀ t:List Nat,(cut c t).length<=t.length+1
 | []=>Nat.le_refl _
 | a::r=>by
  have ih:=vQ c r;unfold cut;split
  ·simp only [List.length_cons]; omega
  ·split
   ·simp
   ·rename_i h t' e;rw [e] at ih;simp only [List.length_cons] at ih ⊢;omega
theorem GD (t:List Nat) (c:Nat):((cut c t).map S).filter (fun z=>decide (z≠S []))=(words c t).map S:=by
 unfold words;rw [List.filter_map]
 congr 1
 refine List.filter_congr fun w _=>?_;show decide (S w≠S [])=decide (w≠[]);by_cases h:w=[]
 ·simp [h]
 ·have:S w≠S []:=fun e=>h (pS e);simp [h,this]
theorem Pn (x:List Nat) (c:Nat):Txt.startswith (S x) (S [c])=decide (x.head?=some c):=by
 unfold Txt.startswith;rw [cq,cq];cases x with
 | nil=>simp
 | cons a r =>
  rw [subAt_one (a::r) c 0 (by simp)];simp
theorem ZF (x:List Nat) (c:Nat):Txt.endswith (S x) (S [c])=decide (x.getLast?=some c):=by
 unfold Txt.endswith;rw [cq,cq];cases hx:x with
 | nil=>simp
 | cons a r =>
  have hl:(a::r).length - [c].length < (a::r).length:=by simp
  rw [subAt_one (a::r) c _ hl];have e:(a::r)[(a::r).length - [c].length]?=(a::r).getLast?:=by
   rw [List.getLast?_eq_getElem?]; rfl
  rw [e];have:decide (0+[c].length<=(a::r).length)=true:=decide_eq_true (by simp);rw [this,Bool.true_and]
end Tx
namespace L2
open PySem PySem.Spec PyProof.Rows
theorem FC (j:Nat) (h1:j < (strValues l1).toArray.size) (h2:j < (strValues l2).toArray.size) :
  SeqAt.EqAt A s (strValues l1).toArray[j] (strValues l2).toArray[j] (decide ((l1.map (·.1))[j]?=(l2.map (·.1))[j]?)):=by
 have g1:j < l1.length:=by simpa [strValues] using h1
 have g2:j < l2.length:=by simpa [strValues] using h2
 have e1:(strValues l1).toArray[j]=Value.str l1[j].1 l1[j].2:=by simp [strValues]
 have e2:(strValues l2).toArray[j]=Value.str l2[j].1 l2[j].2:=by simp [strValues]
 rw [e1,e2];have e:decide ((l1.map (·.1))[j]?=(l2.map (·.1))[j]?)=(l1[j].1 == l2[j].1):=by
  rw [List.getElem?_map,List.getElem?_map,List.getElem?_eq_getElem g1,List.getElem?_eq_getElem g2];by_cases q:l1[j].1=l2[j].1
  ·simp [q]
  ·simp [q]
 rw [e];exact SeqAt.EqAt.str_str _ _ _ _
theorem all_eq {α:Type} [DecidableEq α] {xs ys:List α} (h:xs.length=ys.length):(List.range xs.length).all (fun j=>decide (xs[j]?=ys[j]?))=decide (xs=ys):=by
 rw [Bool.eq_iff_iff,List.all_eq_true,decide_eq_true_eq];constructor
 ·intro q;apply List.ext_getElem?;intro i;by_cases hi:i < xs.length
  ·exact of_decide_eq_true (q i (List.mem_range.mpr hi))
  ·rw [List.getElem?_eq_none (by omega),List.getElem?_eq_none (by omega)]
 ·rintro rfl j _;simp
section
variable {X:Cx}
theorem Je {pins:List (Addr×Obj)} {σ:St} {H:Hp} {s:Shared} {A:Around} {a b:Addr} {ts us:List Str} (I:Inv X pins σ H s) (ha:H a=some (.lst (ts.map V.str))) (hb:H b=some (.lst (us.map V.str))) (hu:A.units < cLine) :
  SeqAt.RcAt A s (.ref a) (.ref b) (decide (ts=us))/\SeqAt.RcNeAt A s (.ref a) (.ref b) (!decide (ts=us)):=by
 obtain ⟨i1,r1,p1,_⟩:=I.list (aC.of ha);obtain ⟨i2,r2,p2,_⟩:=I.list (aC.of hb);obtain ⟨l1,rfl,e1⟩:=wU r1;obtain ⟨l2,rfl,e2⟩:=wU r2;have n1:(strValues l1).toArray.size=ts.length:=by rw [<- e1]; simp [strValues]
 have n2:(strValues l2).toArray.size=us.length:=by rw [<- e2]; simp [strValues]
 by_cases h:ts.length=us.length
 ·have hsz:(strValues l1).toArray.size=(strValues l2).toArray.size:=by rw [n1,n2,h]
  have k1:=SeqAt.RcAt.lists (A:=A) p1.isList p2.isList hsz hu (fun j g1 g2=>FC j g1 g2);have k2:=SeqAt.RcNeAt.lists (A:=A) p1.isList p2.isList hsz hu (fun j g1 g2=>FC j g1 g2);rw [n1,e1,e2,all_eq h] at k1 k2;exact ⟨k1,k2⟩
 ·have hsz:((strValues l1).toArray.size != (strValues l2).toArray.size)=true:=by rw [n1,n2]; simpa using h
  have e:decide (ts=us)=false:=decide_eq_false fun z=>h (by rw [z]);rw [e];exact ⟨SeqAt.RcAt.lists_lengths p1.isList p2.isList hsz hu,SeqAt.RcNeAt.lists_lengths p1.isList p2.isList hsz hu⟩
def qf (neg:Bool):R2:=fun x y H Q=>match x,y with
 | .ref a,.ref b=>∃ ts us:List Str,H a=some (.lst (ts.map V.str))/\H b=some (.lst (us.map V.str))/\Q (.bl (neg ^^ decide (ts=us))) H
 | _,_=>False
theorem RI (hu:X.A.units < cLine):bg X (compareOp .Eq) (qf false):=by
 intro pins s σ H x y v u Q I rx ry h;unfold qf at h;split at h
 ·obtain ⟨ts,us,ha,hb,q⟩:=h;cases rx; cases ry;simp only [Bool.false_bne] at q;exact (Je I ha hb hu).1 _ _ _ _ ⟨.bl _,H,I,rfl,q⟩
 ·exact h.elim
theorem Sy (hu:X.A.units < cLine):bg X (compareOp .NotEq) (qf true):=by
 intro pins s σ H x y v u Q I rx ry h;unfold qf at h;split at h
 ·obtain ⟨ts,us,ha,hb,q⟩:=h;cases rx; cases ry;simp only [Bool.true_bne] at q;exact (Je I ha hb hu).2 _ _ _ _ ⟨.bl _,H,I,rfl,q⟩
 ·exact h.elim
theorem Dv.fz {st:Stmt}:QS X st zQ:=⟨SR⟩
end
def Al:V->Hp->VK->Prop:=fun x H Q=>match x with
 | .int i=>Q (.int (-i)) H
 | _=>False
theorem jO {X:Cx}:tw X (unaryOp .USub) Al:=fun pins s σ H x v Q I rx h=>Zh pins s σ H x v Q I rx (by
 unfold Al at h;split at h
 ·exact ⟨_,rfl,h⟩
 ·exact h.elim)
theorem N0 (r:List V) (x:V):fH (r++[x]) Option.none (some (-1))=r:=by
 unfold fH;have e1:HT.bh (r++[x]).length (r++[x]).length (some (-1))=r.length:=by
  unfold HT.bh;simp;omega
 rw [HT.zd,e1];simp
section
variable {X:Cx} {K:PySem.W.Frag}
def Am (K:PySem.W.Frag):List V->Hp->VK->Prop:=fun xs H Q=>match xs with
 | [.ref p]=>∃ ys,aC K H p ys/\Q (.int ys.length) H
 | _=>False
theorem Ql (h:X.K=K):cI X (.builtin "len") (Am K):=h ▸ Ib.imp fun xs H Q h=>by
 unfold Am at h;split at h
 ·obtain ⟨ys,h1,h2⟩:=h;exact ⟨_,_,rfl,.inl ⟨ys,h1,rfl⟩,h2⟩
 ·exact h.elim
def Bc (K:PySem.W.Frag):R2:=fun x y H Q=>match x,y with
 | .ref p,.int i=>∃ xs v,aC K H p xs/\cU xs i=some v/\Q v H
 | _,_=>False
theorem Sh (h:X.K=K):fC X (Bc K):=h ▸ Kr.imp fun x y H Q h=>by
 unfold Bc at h;split at h
 ·obtain ⟨xs,v,h1,h2,h3⟩:=h;exact ⟨_,xs,_,v,rfl,rfl,h1,h2,h3⟩
 ·exact h.elim
end
end L2
namespace L2
open PySem
open Sem (wp)
def dI (e:Addr) (c:Value) (od:Option Addr) (h:Heap):Prop:=∃ o,h.get? e=some o/\o.cls=c/\o.dict=od/\∃ vs,o.data=.fields vs
structure Kp (e:Addr) (c:Value) (od:Option Addr) {α:Type} (t:Sem α):Prop where
 out:∀ (M:Model) (Γ:Ctx) (P:α->Pos->Shared->Prop) (Ee:Value->Pos->Shared->Prop) (p:Pos) (s:Shared),dI e c od s.heap->wp M Γ t P Ee p s->wp M Γ t (fun a p' s'=>P a p' s'/\dI e c od s'.heap) Ee p s
section
variable {e:Addr} {c:Value} {od:Option Addr} {α β:Type}
theorem Kp.pure (a:α):Kp e c od (Pure.pure a:Sem α):=⟨fun _ _ _ _ _ _ hd h=>⟨h,hd⟩⟩
theorem Kp.unsupported (w:String):Kp e c od (PySem.unsupported w:Sem α):=⟨fun _ _ _ _ _ _ _ h=>h⟩
theorem Kp.bind (hm:Kp e c od m) (hf:∀ a,Kp e c od (f a)):Kp e c od (m >>= f):=⟨fun M Γ P Ee p s hd h=>by
 rw [Sem.wp_bind'] at h ⊢;exact Sem.wp_mono M Γ m (fun a p' s' h'=>(hf a).out M Γ P Ee p' s' h'.2 h'.1) (fun _ _ _ x=>x) p s (hm.out M Γ _ Ee p s hd h)⟩
theorem Kp.ite {q:Prop} [Decidable q] (ht:Kp e c od t) (hu:Kp e c od u):Kp e c od (if q then t else u):=by split <;> assumption
theorem Kp.load (a:Addr):Kp e c od (PySem.load a):=⟨fun _ _ _ _ _ _ hd h=>let ⟨o,ho,z⟩:=h; ⟨o,ho,z,hd⟩⟩
theorem Kp.stack:Kp e c od PySem.stack:=⟨fun M Γ P Ee p s hd h=>by
 unfold PySem.stack at h ⊢;rw [Sem.wp_stack] at h ⊢;exact ⟨h,hd⟩⟩
theorem dI.push (x:dI e c od h) (o:Obj):dI e c od (h.push o):=let ⟨u,hu,r⟩:=x; ⟨u,Heap.get?_push_of_some _ hu,r⟩
theorem dI.update (x:dI e c od h) (a:Addr) (f:Obj->Obj) (hf:∀ o,(f o).cls=o.cls/\(f o).dict=o.dict/\∀ vs,o.data=.fields vs->∃ ws,(f o).data=.fields ws):dI e c od (h.update a f):=by
 obtain ⟨u,hu,h1,h2,vs,h3⟩:=x;by_cases q:a=e
 ·subst q;obtain ⟨ws,h4⟩:=(hf u).2.2 vs h3;exact ⟨f u,Heap.get?_update_self f hu (Obj.isFreed_of_fields h4),(hf u).1.trans h1,(hf u).2.1.trans h2,ws,h4⟩
 ·exact ⟨u,(Heap.get?_update_other _ _ q).trans hu,h1,h2,vs,h3⟩
theorem Kp.update (a:Addr) (f:Obj->Obj) (hf:∀ o,(f o).cls=o.cls/\(f o).dict=o.dict/\∀ vs,o.data=.fields vs->∃ ws,(f o).data=.fields ws):Kp e c od (PySem.update a f) :=
 ⟨fun _ _ _ _ _ _ hd h=>⟨h.1,h.2,hd.update a f hf⟩⟩
theorem Ud (g:Array Value->Array Value) (o:Obj):(Obj.mapFields g o).cls=o.cls/\(Obj.mapFields g o).dict=o.dict/\∀ vs,o.data=.fields vs->∃ ws,(Obj.mapFields g o).data=.fields ws:=by
 obtain ⟨c1,d1,dt,sl⟩:=o;refine ⟨Obj.cls_mapFields _ _,?_,fun vs h=>⟨_,Obj.data_mapFields h g⟩⟩;cases dt <;> rfl
theorem Kp.alloc (o:Obj):Kp e c od (PySem.alloc o):=⟨fun _ _ _ _ _ _ hd h=>⟨h,hd.push o⟩⟩
theorem Kp.field (v:Value) (i:Nat):Kp e c od (PySem.field v i):=⟨fun _ Γ _ _ _ _ hd h=>by
 rw [wp_field_iff] at h ⊢;obtain ⟨a,o,vs,x,h1,h2,h3,h4,h5⟩:=h;exact ⟨a,o,vs,x,h1,h2,h3,h4,h5,hd⟩⟩
theorem Kp.setField (v:Value) (i:Nat) (x:Value):Kp e c od (PySem.setField v i x):=⟨fun _ Γ _ _ _ _ hd h=>by
 rw [wp_setField_iff] at h ⊢;obtain ⟨a,o,vs,h1,h2,h3,h4,h5⟩:=h;exact ⟨a,o,vs,h1,h2,h3,h4,h5,hd.update a _ (Ud _)⟩⟩
local macro_rules | `(tactic| walk_at "kps")=>`(tactic| repeat' with_reducible first | assumption | exact Kp.pure _ | exact Kp.unsupported _ | exact Kp.field _ _ | exact Kp.setField _ _ _ | exact Kp.load _ | exact Kp.stack | exact Kp.alloc _ | apply Kp.ite | apply Kp.bind | intro _ | split)
theorem Kp.newFields (ty:String) (vs:List Value):Kp e c od (PySem.newFields ty vs):=by
 unfold PySem.newFields newObj newObjAsIs;walk_at "kps"
theorem Kp.frameEnvs:Kp e c od PySem.frameEnvs:=by
 unfold PySem.frameEnvs;walk_at "kps"
theorem Kp.isImport (env:Env) (outer:List Env):Kp e c od (behindIsImport env outer):=by
 unfold behindIsImport;walk_at "kps"
theorem Kp.caller:Kp e c od underTheClaimsCaller:=by
 unfold underTheClaimsCaller;walk_at "kps"
theorem Kp.keptBack (env:Env) (i:Bool) (l:List Env):Kp e c od (PySem.keptBack env i l):=by
 have:=Kp.caller (e:=e) (c:=c) (od:=od);cases l <;> unfold PySem.keptBack <;> walk_at "kps"
theorem Kp.ready:∀ l:List Env,Kp e c od (readyFrames l)
 | []=>Kp.pure _
 | env::outer=>by
  have ih:=Kp.ready outer;have h1:=Kp.isImport (e:=e) (c:=c) (od:=od) env outer;have h2:=fun i=>Kp.keptBack (e:=e) (c:=c) (od:=od) env i outer;unfold readyFrames;walk_at "kps"
  all_goals first | exact h2 _ | exact Kp.update _ _ (fun o=>⟨rfl,rfl,fun vs h=>⟨vs,h⟩⟩) | skip
theorem Kp.frameObject (l:List Env):Kp e c od (PySem.frameObject l):=by
 cases l with
 | nil=>exact Kp.pure _
 | cons env outer =>
  have:=Kp.ready (e:=e) (c:=c) (od:=od) (env::outer);unfold PySem.frameObject;walk_at "kps"
theorem Kp.frameOf (env:Env):Kp e c od (PySem.frameOf env):=by
 have h1:=Kp.frameEnvs (e:=e) (c:=c) (od:=od);have h2:=Kp.frameObject (e:=e) (c:=c) (od:=od);unfold PySem.frameOf;walk_at "kps"
 all_goals first | exact h2 _ | skip
theorem Kp.place (f:Addr) (b:Bool):Kp e c od (entryPlaceOf f b):=by
 unfold entryPlaceOf;walk_at "kps"
theorem Kp.setFlight (v:Value) (fr:Option Addr):Kp e c od (PySem.setFlight v fr):=by
 unfold PySem.setFlight;walk_at "kps"
theorem Kp.noteFrame (v:Value) (env:Env):Kp e c od (PySem.noteFrame v env):=by
 have h1:=Kp.frameOf (e:=e) (c:=c) (od:=od) env;have h2:=fun f b=>Kp.place (e:=e) (c:=c) (od:=od) f b;unfold PySem.noteFrame EntryCells.newEntry;walk_at "kps"
 all_goals first | exact h2 _ _ | exact Kp.newFields _ _ | skip
theorem Kp.leaving (env:Env) (v:Value):Kp e c od (PySem.leaving env v):=by
 have h1:=Kp.noteFrame (e:=e) (c:=c) (od:=od) v env;have h2:=Kp.setFlight (e:=e) (c:=c) (od:=od) v none;unfold PySem.leaving;walk_at "kps"
theorem Kp.any (k:Kp e c od t) (hd:dI e c od s.heap) (h:wpAny M A t Q E s):wpAny M A t (fun a s'=>Q a s'/\dI e c od s'.heap) E s :=
 fun Γ p hΓ=>k.out M Γ _ _ p s hd (h Γ p hΓ)
end
end L2
namespace L2
theorem Fb (xs:List V) (k:Nat):fH xs none (some (k:Int))=xs.take k:=by
 unfold fH;rw [HT.zd,HT.sj,List.drop_zero,Nat.sub_zero];by_cases h:k<=xs.length
 ·rw [Nat.min_eq_left h]
 ·rw [Nat.min_eq_right (by omega),List.take_of_length_le (Nat.le_refl _),List.take_of_length_le (by omega)]
theorem vY (xs:List V) (k:Nat):fH xs (some (k:Int)) none=xs.drop k:=by
 unfold fH;rw [HT.zd,HT.sj];by_cases h:k<=xs.length
 ·rw [Nat.min_eq_left h,List.take_of_length_le (by rw [List.length_drop]; exact Nat.le_refl _)]
 ·rw [Nat.min_eq_right (by omega),List.drop_eq_nil_of_le (Nat.le_refl _),List.drop_eq_nil_of_le (by omega)];simp
end L2
namespace L2
open PySem PySem.Spec PyProof.Rows
theorem b9.there (x:b9 P w H h a o):∃ u,h.get? a=some u:=by
 cases o with
 | lst xs=>obtain ⟨_,_,_,_,e⟩:=x; exact ⟨_,e⟩
 | tup xs=>obtain ⟨_,_,_,u,e,_⟩:=x; exact ⟨_,e⟩
 | dK kvs=>obtain ⟨_,_,_,_,o,_,_,e,_⟩:=x; exact ⟨_,e⟩
 | dT kvs=>obtain ⟨_,_,_,_,o,_,_,e,_⟩:=x; exact ⟨_,e⟩
 | set S n=>obtain ⟨o,_,_,_,e,_⟩:=x; exact ⟨_,e⟩
 | ins C dx fs=>obtain ⟨_,_,_,e,_⟩:=x; exact ⟨_,e⟩
 | own y=>exact x
 | xd fs=>obtain ⟨_,⟨_,_,_,e,_⟩,_⟩:=x; exact ⟨_,e⟩
 | vW lo hi=>obtain ⟨_,_,_,e⟩:=x; exact ⟨_,e⟩
 | eS ob u=>obtain ⟨e,_⟩:=x; exact ⟨_,e⟩
 | mv ps=>exact ⟨_,(show h.get? a=some _ from x)⟩
 | met f y=>exact ⟨_,(show h.get? a=some _ from x)⟩
 | ext φ=>obtain ⟨_,e,_⟩:=x; exact e
def rJ (B:Heap) (fs:List Addr) (h:Heap) (H':Hp) (h':Heap):Prop :=
 ∀ b o,h'.get? b=some o->b ∉ fs->((∃ u,h.get? b=some u)\/∃ u,H' b=some u)->B.get? b=some o
theorem GK (u:Un fs [] H H' h h1) (aB:ck P w H' h1) (hf:∀ b∈fs,H b=none/\∃ o,h.get? b=some o/\∀ vs,o.data≠.fields vs) (gF:rJ B fs h H' h1)
  (st:B.StaysIn h2) (up:h1.UpToSlots h2):Un fs [] H H' h h2/\ck P w H' h2:=by
 have kB:∀ b o,h1.get? b=some o->b ∉ fs->((∃ u,h.get? b=some u)\/∃ u,H' b=some u)->h2.get? b=some o:=fun b o e hb z=>st b o (gF b o e hb z);have fr:∀ b∈fs,∀ o,h.get? b=some o->∃ sl,h2.get? b=some { o with slots:=sl }:=fun b hb o e=>by
  obtain ⟨n,o',e',nf⟩:=hf b hb;rw [e] at e'; cases e';obtain ⟨sl,e1⟩:=u.slot b o e n hb (by simp);obtain ⟨sl',e2⟩:=up b _ e1 nf;exact ⟨sl',e2⟩
 refine ⟨⟨fun b o q n hb hx=>kB b o (u.keep b o q n hb hx) hb (.inl ⟨o,q⟩),fun b o q n hb hx=>fr b hb o q,u.free,fun b o q hx=>?_,u.gr,u.gi,u.gu⟩,fun a v e=>?_⟩
 ·by_cases hb:b∈fs
  ·obtain ⟨sl,e⟩:=fr b hb o q;exact ⟨_,e⟩
  ·obtain ⟨o',e1⟩:=u.there b o q hx;exact ⟨o',kB b o' e1 hb (.inl ⟨o,q⟩)⟩
 ·have tr:∀ b,(∃ u,H' b=some u)->b ∉ fs:=fun b ⟨v',e'⟩ hb=>by
   obtain ⟨n,o,ho,_⟩:=hf b hb;have:=u.free b o ho n (by simp);rw [e'] at this; cases this
  refine (aB a v e).g8 (fun b x hb q=>?_) (fun _ q=>q) fun _ _ q=>q;have hs:∃ u,H' b=some u:=by
   rcases hb with rfl | hb
   ·exact ⟨v,e⟩
   ·exact ⟨_,hb⟩
  exact kB b x q (tr b hs) (.inr hs)
structure m8 (P:Program) (w:World) (outer:List Env) (H:Hp) (s:Shared) (ea C:Addr) (od:Option Addr) (H':Hp) (s':Shared):Prop where
 os:s'.os=s.os
 bare:AllBare s'.gens
 un:Un (bW outer) [] H H' s.heap s'.heap
 aB:ck P w H' s'.heap
 free:H' ea=none
 new:s.heap.get? ea=none
 hd:dI ea (.ref C) od s'.heap
 Fv:∃ B a0,Heap.FlyingW B outer ea (.ref C) a0 s'.heap/\rJ B (bW outer) s.heap H' s'.heap
def cM (P:Program) (w:World):eT:=fun outer H s E e s'=>∃ ea C od H',e=.ref ea/\m8 P w outer H s ea C od H' s'/\E (.ref C) od H'
section
variable {X:Cx} {pins:List (Addr×Obj)} {σ:St} {H H':Hp} {s s':Shared} {ea C:Addr} {od:Option Addr}
theorem Inv.Hx (I:Inv X pins σ H s):∀ b∈bW X.stack,H b=none/\∃ o,s.heap.get? b=some o/\∀ vs,o.data≠.fields vs:=fun b hb=>⟨I.vC b hb,(I.stack.mem hb).2⟩
structure Own (X:Cx):Prop where
 dq:X.stack=X.env::X.outer
 frame:X.env.frame=some X.env.locals
 ex:X.ex=[]
theorem Inv.yZ (I:Inv X pins σ H s) (O:Own X) (os:s'.os=s.os) (bare:AllBare s'.gens) (un:Un (bW X.stack) [] H H' s.heap h1) (aB:ck X.prog X.w H' h1) (free:H' ea=none) (new:s.heap.get? ea=none)
  (gF:rJ B (bW X.stack) s.heap H' h1) (fl:Heap.FlyingW B X.outer ea (.ref C) a0 s'.heap) (up:h1.UpToSlots s'.heap) (hd:dI ea (.ref C) od s'.heap):m8 X.prog X.w X.outer X.H₀ X.s₀ ea C od H' s':=by
 obtain ⟨u2,hok2⟩:=GK un aB I.Hx gF fl.1 up;have DB:bW X.stack=X.env.locals::X.fs:=by
  rw [O.dq];unfold bW;rw [List.filterMap_cons,O.frame];rfl
 have vj:∀ b o,X.s₀.heap.get? b=some o->b≠X.env.locals:=fun b o e=>Nat.ne_of_lt (Nat.lt_of_lt_of_le (Heap.lt_size e) I.ok.above);have nx:∀ b:Addr,b ∉ X.ex:=fun b=>by rw [O.ex]; simp
 have fN:∀ b o,X.s₀.heap.get? b=some o->b ∉ X.fs->b ∉ bW X.stack:=fun b o e hb z=>by
  rw [DB] at z;rcases List.mem_cons.mp z with q | q
  ·exact vj b o e q
  ·exact hb q
 have Lfree:H' X.env.locals=none:=by
  obtain ⟨m,⟨o,_,_,ho,_⟩,_⟩:=I.loc;exact un.free _ o ho I.free (by simp)
 refine ⟨os.trans I.os,bare,⟨fun b o q n hb _=>?_,fun b o q n hb _=>?_,fun b o q n _=>?_,fun b o q _=>?_,fun b xs q=>?_,fun b o v q=>?_,fun b ps q=>?_⟩,hok2,free,?_,hd,B,a0,fl,fun b o e hb z=>?_⟩
 ·exact u2.keep b o (I.base.keep b o q n hb (nx b)) (I.base.free b o q n (nx b)) (fN b o q hb) (by simp)
 ·obtain ⟨sl,e1⟩:=I.base.slot b o q n hb (nx b);obtain ⟨sl',e2⟩:=u2.slot b _ e1 (I.base.free b o q n (nx b)) (by rw [DB]; exact List.mem_cons_of_mem _ hb) (by simp);exact ⟨sl',e2⟩
 ·obtain ⟨o',e1⟩:=I.base.there b o q (nx b);exact u2.free b o' e1 (I.base.free b o q n (nx b)) (by simp)
 ·obtain ⟨o',e1⟩:=I.base.there b o q (nx b);exact u2.there b o' e1 (by simp)
 ·exact u2.gr b xs (I.base.gr b xs q)
 ·exact u2.gi b o v (I.base.gi b o v q)
 ·obtain ⟨m1,e1⟩:=I.base.gu b ps q;obtain ⟨m2,e2⟩:=u2.gu b _ e1;exact ⟨m1++m2,by rw [e2,Array.append_assoc]⟩
 ·cases q:X.s₀.heap.get? ea with
  | none=>rfl
  | some u =>
   obtain ⟨u',e'⟩:=I.base.there ea u q (nx ea);rw [new] at e'; cases e'
 ·have hn:b ∉ bW X.stack:=fun z'=>by
   rw [DB] at z';rcases List.mem_cons.mp z' with q | q
   ·rcases z with ⟨o',e'⟩ | ⟨v,e'⟩
    ·exact vj b o' e' q
    ·rw [q,Lfree] at e'; cases e'
   ·exact hb q
  have hs:∃ o',h1.get? b=some o'/\((∃ u,s.heap.get? b=some u)\/∃ u,H' b=some u):=by
   rcases z with ⟨o',e'⟩ | ⟨v,e'⟩
   ·obtain ⟨o2,e2⟩:=I.base.there b o' e' (nx b);obtain ⟨o3,e3⟩:=un.there b o2 e2 (by simp);exact ⟨o3,e3,.inl ⟨o2,e2⟩⟩
   ·obtain ⟨o3,e3⟩:=(aB b v e').there;exact ⟨o3,e3,.inr ⟨v,e'⟩⟩
  obtain ⟨o3,e3,z3⟩:=hs;have e4:=gF b o3 e3 hn z3;have e5:=fl.1 b o3 e4;rw [e] at e5; cases e5;exact e4
theorem Inv.YE (I:Inv X pins σ H s) (O:Own X) (hA:A.frames=some X.stack) (F:m8 X.prog X.w X.stack H s ea C od H' s') :
  wpAny M A (leaving X.env (.ref ea)) (fun _ s''=>m8 X.prog X.w X.outer X.H₀ X.s₀ ea C od H' s'') E s':=by
 obtain ⟨B,a0,fl,gF⟩:=F.Fv;have fl':=fl;rw [O.dq] at fl' hA;refine aD ((Kp.leaving X.env (.ref ea)).any F.hd (wpAny_leaves_onW (Q:=fun _ s''=>∃ h',s''={ s' with heap:=h' }/\Heap.FlyingW B X.outer ea (.ref C) a0 h'/\s'.heap.UpToSlots h') hA O.frame fl' fun h' x1 x2=>⟨h',rfl,x1,x2⟩)) fun _ s'' ⟨⟨h',e,x1,x2⟩,hd⟩=>?_;subst e;exact I.yZ (s':={ s' with heap:=h' }) O F.os F.bare F.un F.aB F.free F.new gF x1 x2 hd
theorem Iy (hx:Heap.MadeExcOf h h' e cls args):dI e cls none h':=by
 obtain ⟨t,he,_⟩:=hx.there;exact ⟨_,he,rfl,rfl,_,rfl⟩
theorem Inv.SD (I:Inv X pins σ H s) (O:Own X) (hA:A.frames=some X.stack) (hx:Heap.MadeExcOf s.heap h' ea (.ref C) vs) :
  wpAny M A (leaving X.env (.ref ea)) (fun _ s''=>m8 X.prog X.w X.outer X.H₀ X.s₀ ea C none H s'') E { s with heap:=h' }:=by
 have aO:(PySem.W.hideAll s.heap (bW X.stack)).StaysIn s.heap:=fun b o q=>PySem.W.of_hideAll _ q;have lE:s.heap.FunFrames (PySem.W.hideAll s.heap (bW X.stack)) X.stack:=PySem.W.funFrames_hide I.stack fun env he a ha=>List.mem_filterMap.mpr ⟨env,he,ha⟩;have mZ:H ea=none:=by
  cases q:H ea with
  | none=>rfl
  | some u =>
   obtain ⟨o,e⟩:=(I.aB ea u q).there;have:=hx.new;rw [e] at this; cases this
 have gF:rJ (PySem.W.hideAll s.heap (bW X.stack)) (bW X.stack) s.heap H h':=fun b o e hb z=>by
  have hs:∃ u,s.heap.get? b=some u:=by
   rcases z with z | ⟨v,z⟩
   ·exact z
   ·exact (I.aB b v z).there
  obtain ⟨u,eu⟩:=hs;have:=hx.keeps b u eu;rw [e] at this; cases this;exact PySem.W.hideAll_get _ eu hb
 generalize PySem.W.hideAll s.heap (bW X.stack)=B at aO lE gF;have hfr':=lE;rw [O.dq] at hfr' hA;refine aD ((Kp.leaving X.env (.ref ea)).any (s:={ s with heap:=h' }) (Iy hx) (wpAny_leaves_madeW (s:={ s with heap:=h' }) (Q:=fun _ s''=>∃ h2 t,s''={ s with heap:=h2 }/\Heap.FlyingW B X.outer ea (.ref C) (.ref t) h2/\h'.UpToSlots h2) hA O.frame aO hfr' hx
  fun h2 t x1 _ _ x4=>⟨h2,t,rfl,x1,x4⟩)) fun _ s'' ⟨⟨h2,t,e,x1,x4⟩,hd⟩=>?_
 subst e;exact I.yZ (s':={ s with heap:=h2 }) O rfl I.bare (Un.kept hx.keeps) (I.aB.kept hx.keeps) mZ hx.new gF x1 x4 hd
structure lU (X:Cx) (R:St->XK):Prop where
 pass:∀ (pins:List (Addr×Obj)) (σ:St) (H:Hp) (s:Shared) (e:Value) (s':Shared),Inv X pins σ H s->cM X.prog X.w X.stack H s (R σ) e s'->X.xe e s'
structure Raises (X:Cx) (R:St->XK):Prop where
 made:∀ (pins:List (Addr×Obj)) (σ:St) (H:Hp) (s:Shared) (h':Heap) (ea C:Addr) (vs:List Value),Inv X pins σ H s->Heap.MadeExcOf s.heap h' ea (.ref C) vs->R σ (.ref C) none H->X.xe (.ref ea) { s with heap:=h' }
theorem cS {P:Program} {w:World} {K:PySem.W.Frag} {mg:Str->Option Value} {base:Heap} {N:List Str} {qual:Str} {scope:Scope} {f:Addr} {cd:Value} {A:Around} {outer:List Env} {s₀:Shared} {H₀:Hp} {E:XK} :
  lU (gU (cM P w) P w K mg base N qual scope f cd A outer s₀ H₀ E) (fun _=>E) where
 pass:=fun pins σ H s e s' I hc=>by
  obtain ⟨ea,C,od,H',rfl,F,hE⟩:=hc;exact aD (I.YE ⟨rfl,rfl,rfl⟩ I.ok.frames F) fun _ s'' z=>⟨ea,C,od,H',rfl,z,hE⟩
theorem Ak {P:Program} {w:World} {K:PySem.W.Frag} {mg:Str->Option Value} {base:Heap} {N:List Str} {qual:Str} {scope:Scope} {f:Addr} {cd:Value} {A:Around} {outer:List Env} {s₀:Shared} {H₀:Hp} {E:XK} :
  Raises (gU (cM P w) P w K mg base N qual scope f cd A outer s₀ H₀ E) (fun _=>E) where
 made:=fun pins σ H s h' ea C vs I hx hE=>aD (I.SD ⟨rfl,rfl,rfl⟩ I.ok.frames hx) fun _ s'' z=>⟨ea,C,none,H,rfl,z,hE⟩
def Dg (sp:Sp) (bE:List V) (R:St->XK) (t:TA):TE:=fun σ H Q=>t σ H fun vs H1=>sp (vs++bE) H1 Q (R σ)
section
variable {k:Nat} {f:Addr} {fd:FuncData} {ps:List Str} {sp:Sp} {bE:List V} {ds:List Value} {R:St->XK} {x:Str} {p pos:Pos} {e:Expr} {es:List Expr} {t:TA}
theorem HR (F:az X.prog X.w X.K X.mg X.base (cM X.prog X.w) k f fd ps sp) (hr:bH k X.A) (hb:Binds X.K fd ps ds) (hd:Vals bE ds) (hx:lU X R)
  (I:Inv X pins σ H s) (r:Vals vs us) (h:sp (vs++bE) H Q (R σ)):wpAny (model X.prog X.w) X.A (call (.ref f) us) (EP X pins σ Q) X.xe s:=by
 have r2:Vals (vs++bE) (us++ds):=r.append hd;have hl:(us++ds).length=ps.length:=by rw [<- r2.length]; exact F.len _ _ _ _ h
 refine wpAny_call (codeAny_mono (F.run X.A X.stack s H ⟨us,[]⟩ (us++ds) (vs++bE) Q (R σ) hr I.sN (hb s us I.cg hl) r2 h) fun r s' hq=>?_);cases r with
 | error e=>exact hx.pass pins σ H s e s' I hq
 | ok fl =>
  cases fl with
  | ret u=>exact I.after hq
  | next=>exact False.elim hq
  | brk=>exact False.elim hq
  | cont=>exact False.elim hq
theorem Pe (F:az X.prog X.w X.K X.mg X.base (cM X.prog X.w) k f fd ps sp) (hr:bH k X.A) (hg:Gl X x) (hm:X.mg x=some (.ref f)) (hk:PySem.W.keepIn X.K (.ref f)=true) (hb:Binds X.K fd ps ds) (hd:Vals bE ds) (hx:lU X R)
  (ha:PA X (e::es) t) (hs:(e::es).all noStar=true:=by rfl) (bV:(x == ("__debug__" : Str))=false:=by decide):PE X (.Call (.Name x p) (e::es) [] pos) (Dg sp bE R t):=by
 have hs':=hs;rw [List.all_cons,Bool.and_eq_true] at hs';intro pins s σ H Q I h;refine wpAny_Call_Name_kw (kW I hg hm ?_ bV);refine PySem.W.callWith_K (h₀:=X.base) I.ok.mod.iO hk (aD (ha pos pins s σ H _ I h) fun us s1 ⟨vs,H1,I1,r,q⟩=>⟨I1.cg,?_⟩) (fc hs'.1) (gW hs'.2);exact HR F hr hb hd hx I1 r q
end
end
abbrev tL:List Value:=[.type "ValueError",.type "Exception",.type "BaseException",.type "object"]
theorem WC {K:PySem.W.Frag} {h:Heap} {C:Addr} {MO:List Value} {newId:String} (X:K.In h) (q:PySem.W.excIn K C MO newId=true) :
  ∃ bm N nm q bs hdct sn sub ab col dd k0 k1 k2 k3 k5 mN,h.get? C=some (excClassObj nm q C N bs bm hdct sn sub ab col dd k0 k1 k2 k3 k5 newId)/\h.Ns N mN/\mN "__init__" = none/\OwnTail h MO bm:=by
 unfold PySem.W.excIn at q;split at q
 ·rename_i dd cd sl ho;split at q
  ·rename_i C' bm k0 k1 k2 k3 n k5 hm hs;simp only [Bool.and_eq_true,beq_iff_eq,Bool.not_eq_true'] at q;obtain ⟨⟨⟨⟨⟨q1,q2⟩,q3⟩,q4⟩,q5⟩,q6⟩:=q;subst q1 q2;obtain ⟨nm,bs,mro,ns,qn,hd,sn,sub,ab,col,del⟩:=cd;dsimp only at hm q3 q5 q6;subst hm q3;have e1:sl=#[k0,k1,k2,k3,some (.builtin n),k5]:=by
    obtain ⟨l⟩:=sl;simp only at hs;rw [hs]
   subst e1;exact ⟨bm,ns,nm,qn,bs,hd,sn,sub,ab,col,dd,k0,k1,k2,k3,k5,_,X _ _ ho,.of_isNs (PySem.W.isNs_of_in X q5),PySem.W.nsMap_none_of_in X q5 q6,PySem.W.tail_of_in X q4⟩
  ·cases q
 ·cases q
def Bt (C:Addr) (R:St->XK) (t:TA):TS:=fun _ σ H=>t σ H fun vs H1=>vs.length<=sizeLine/\R σ (.ref C) none H1
theorem NP {X:Cx} {R:St->XK} {x:Str} {C:Addr} {e:Expr} {es:List Expr} {t:TA} {np bu pos:Pos} (hx:Raises X R) (hc:X.calm=true) (hm:X.mg x=some (.ref C)) (q:PySem.W.excIn X.K C tL "ValueError.__new__" = true) (ha:PA X (e::es) t)
  (hg:Gl X x:=by rfl) (hs:(e::es).all noStar=true:=by rfl) (bV:(x == ("__debug__" : Str))=false:=by decide):PS X (.Raise (some (.Call (.Name x np) (e::es) [] bu)) none pos) (Bt C R t):=by
 have hs':=hs;rw [List.all_cons,Bool.and_eq_true] at hs';intro pins s σ H D I h;obtain ⟨bm,N,nm,qn,bs,hdct,sn,sub,ab,col,dd,k0,k1,k2,k3,k5,mN,hC,hN,hni,T⟩:=WC I.ok.mod.iO q;refine wpAny_Raise_call_subT (C:=C) (nm:=nm) (q:=qn) (N:=N) (bs:=bs) (bm:=bm) (hdct:=hdct) (sn:=sn) (sub:=sub) (ab:=ab) (col:=col) (dd:=dd) (k0:=k0) (k1:=k1) (k2:=k2) (k3:=k3) (k5:=k5)
  PySem.F.excBase_ValueError (mN:=mN) (T.hasType PySem.F.excBase_ValueError.hasBase) (I.ok.hd hc) (by rw [fc hs'.1]; exact gW hs'.2) hni (kW I hg hm ⟨rfl,?_⟩ bV)
 have ha':=ha bu pins s σ H _ I h;rw [fc hs'.1] at ha' ⊢;refine Calls.evalArgs_plain (aD ha' fun us s2 ⟨vs,H2,I2,r,z,hR⟩=>?_);exact ⟨rfl,by rw [<- r.length]; exact z,I2.bk _ _ hC,hN.keeps I2.bk,T.keeps I2.bk,fun h' ea hm'=>hx.made pins σ H2 s2 h' ea C us I2 hm' hR⟩
def Hl (ea C:Addr) (od:Option Addr):HO:=.ext (dI ea (.ref C) od)
abbrev Cx.nu (X:Cx) (v:Value):Cx:={ X with A:=X.A.mark (some v),calm:=false,xe:=fun _ _=>False }
abbrev Cx.nt (X:Cx) (pins:List (Addr×Obj)) (R:St->XK):Cx:={ X with pn:=X.pn++pins,xe:=fun e s'=>∃ (σ':St) (H H':Hp) (s:Shared) (ea C:Addr) (od:Option Addr),Inv X pins σ' H s/\e=.ref ea/\m8 X.prog X.w X.stack H s ea C od H' s'/\R σ' (.ref C) od H' }
section
variable {X:Cx} {pins pins':List (Addr×Obj)} {σ:St} {H H':Hp} {s s':Shared} {R:St->XK} {v:Value}
theorem Inv.nu (I:Inv X pins σ H s) (v:Value):Inv (X.nu v) pins σ H s :=
 ⟨⟨I.ok.mod,I.ok.kind,I.ok.glob,I.ok.blt,I.ok.above,I.ok.inj,I.ok.has,I.ok.mj,(fun z=>Bool.noConfusion z),I.ok.frames,I.ok.dq,I.ok.uc,I.ok.bs,I.ok.iq,I.ok.mr,I.ok.lP,I.ok.fS,I.ok.jx⟩,
  I.os,I.bare,I.base,I.loc,I.cell,I.free,I.fY,I.pin,I.aB,I.len⟩
theorem Inv.xt (I:Inv (X.nu v) pins σ H s) (ok:X.Ok):Inv X pins σ H s:=⟨ok,I.os,I.bare,I.base,I.loc,I.cell,I.free,I.fY,I.pin,I.aB,I.len⟩
theorem Inv.nt (I:Inv X pins σ H s) (R:St->XK):Inv (X.nt pins R) [] σ H s :=
 ⟨⟨I.ok.mod,I.ok.kind,I.ok.glob,I.ok.blt,I.ok.above,I.ok.inj,I.ok.has,I.ok.mj,I.ok.hd,I.ok.frames,I.ok.dq,I.ok.uc,I.ok.bs,I.ok.iq,I.ok.mr,I.ok.lP,I.ok.fS,I.ok.jx⟩,
  I.os,I.bare,I.base,I.loc,I.cell,I.free,I.fY,fun p hp=>I.pin p (by simpa using hp),I.aB,I.len⟩
theorem Inv.sO (I:Inv (X.nt pins R) pins' σ H s):Inv X pins σ H s :=
 ⟨⟨I.ok.mod,I.ok.kind,I.ok.glob,I.ok.blt,I.ok.above,I.ok.inj,I.ok.has,I.ok.mj,I.ok.hd,I.ok.frames,I.ok.dq,I.ok.uc,I.ok.bs,I.ok.iq,I.ok.mr,I.ok.lP,I.ok.fS,I.ok.jx⟩,
  I.os,I.bare,I.base,I.loc,I.cell,I.free,I.fY,fun p hp=>I.pin p (List.mem_append_left _ hp),I.aB,I.len⟩
theorem RA:lU (X.nt pins R) R:=⟨fun pins' σ H s e s' I hc=>by
 obtain ⟨ea,C,od,H',rfl,F,hE⟩:=hc;exact ⟨σ,H,H',s,ea,C,od,I.sO,rfl,F,hE⟩⟩
theorem Inv.KO {a:Addr} {o:HO} (I:Inv X pins σ H s) (hn:H a=none) (n0:X.s₀.heap.get? a=none) (nL:a≠X.env.locals) (nC:∀ x c,X.env.cells.lookup x=some c->c≠a) (nP:∀ p∈X.pn++pins,p.1≠a)
  (new:b9 X.prog X.w (upd H a o) s.heap a o):Inv X pins σ (upd H a o) s:=by
 have ne:∀ b u,H b=some u->b≠a:=fun b u e=>gd e hn;have n0':∀ b u,X.s₀.heap.get? b=some u->b≠a:=fun b u e z=>by rw [z,n0] at e; cases e
 refine ⟨I.ok,I.os,I.bare,⟨I.base.keep,I.base.slot,fun b u e n hx=>by rw [ag (n0' b u e)]; exact I.base.free b u e n hx,I.base.there,fun b xs e=>by have:=I.base.gr b xs e; rw [ag (ne b _ this)]; exact this,
  fun b u v e=>by have:=I.base.gi b u v e; rw [ag (ne b _ this)]; exact this,fun b ps e=>?_⟩,I.loc,I.cell,by rw [ag (Ne.symm nL)]; exact I.free,fun x c e=>by rw [ag (nC x c e)]; exact I.fY x c e,fun p hp=>?_,fun b u e=>?_,I.len⟩
 ·obtain ⟨m,e1⟩:=I.base.gu b ps e;exact ⟨m,by rw [ag (ne b _ e1)]; exact e1⟩
 ·obtain ⟨e1,e2,r⟩:=I.pin p hp;exact ⟨e1,by rw [ag (nP p hp)]; exact e2,r⟩
 ·by_cases hb:b=a
  ·subst hb;rw [ax] at e; cases e;exact new
  ·rw [ag hb] at e;exact (I.aB b u e).g8 (fun _ _ _ q=>q) (fun c q=>by rw [ag (ne c _ q)]; exact q) fun c xs q=>by rw [ag (ne c _ q)]; exact q
end
structure um (K:PySem.W.Frag) (C:Addr):Prop where
 ha:PySem.W.findIn K (.ref C) "__class__" = some (some (.builtin "object.__class__"))
 hn:PySem.W.specialIn K (.builtin "object.__class__") "__get__" = some (some (.builtin "getset_descriptor.__get__"))
 eC:PySem.W.takesIn K (.builtin "object.__class__")=some true
 hm:PySem.W.mroIn K C (.type "object")=some true
 sZ:PySem.W.findIn K (.ref C) "__getattribute__" = some (some (.builtin "BaseException.__getattribute__"))
 W3:PySem.W.findIn K (.ref C) "__getattr__" = some none
 hb:PySem.W.mroIn K C (.type "BaseException")=some true
theorem pC (I:dI x (.ref C) od h):PySem.W.Looks M h (typeOf (.ref x)) (.ref C):=by
 obtain ⟨o,e,c,_⟩:=I;exact c ▸ (PySem.W.Looks.ld e).andThen .now
theorem yz {K:PySem.W.Frag} {C:Addr} {b:Value} {r:Bool} (h:PySem.W.mroIn K C b=some r):∃ c d cd sl,K.lookup C=some ⟨c,d,.cls cd,sl⟩:=by
 obtain ⟨cd,dj,_⟩:=Option.bind_eq_some_iff.mp h;unfold PySem.W.clsIn at dj;split at dj
 ·rename_i c' d' cd' sl' ho;exact ⟨_,_,_,_,ho⟩
 ·cases dj
section
variable {prog:Program} {w:World} {A:Around} {E:Value->Shared->Prop} {s:Shared} {K:PySem.W.Frag} {x C:Addr} {od:Option Addr}
theorem YR (X:K.In h) (ha:PySem.W.findIn K (.ref C) name=some (some a)) (hn:PySem.W.specialIn K a "__get__" = some (some g)) (eC:PySem.W.takesIn K a=some true) :
  PySem.W.Looks M h (Builtin.ObjectAttr.find (.ref x) (.ref C) name) (.bind g a):=by
 have L1:=PySem.W.looks_findIn (M:=M) X ha;have L2:PySem.W.Looks M h (Builtin.ObjectAttr.getOf (some a)) (some g):=PySem.W.looks_specialIn X hn;have L3:=PySem.W.looks_takesIn (M:=M) X eC;unfold Builtin.ObjectAttr.find;refine L1.andThen (L2.andThen ?_);have L4:PySem.W.Looks M h (Builtin.ObjectAttr.dataDescriptor? (some a) (some g)) (some (g,a)):=by
  unfold Builtin.ObjectAttr.dataDescriptor?;exact L3.andThen .now
 exact L4.andThen (PySem.W.Looks.tag .now)
open PySem.W in
open Builtin Builtin.ObjectAttr Builtin.Getset_descriptor in
theorem OM (Z:um K C) (X:K.In s.heap) (I:dI x (.ref C) od s.heap) (h:R (.ok (.ret (.ref C))) s) :
  codeAny (model prog w) A (.call (.builtin "getset_descriptor.__get__") ⟨[.builtin "object.__class__",.ref x,tp],[]⟩) R s:=by
 obtain ⟨hh,g,dr,t,os⟩:=s;have L0:=pC (M:=model prog w) I;have L1:=looks_mroIn (M:=model prog w) X Z.hm;refine codeAny_call_builtin KF.slot_gs.plain KF.entry_gs (KF.slot_gs.check _ _ _ _ _ _ _ _ KF.type_class (KF.args_gs _ _ _) ?_);unfold Builtin.«getset_descriptor.__get__» descrGet;rw [dga_obj];refine wpAny_bind (wpAny_pure ?_);unfold descrGetter descrCheckInstance descrNameAndClass isInstance;simp only [KF.owner_class]
 repeat lk
 refine ⟨Code.quiet_builtin _ (by decide +kernel),codeAny_builtin KF.entry_class ?_⟩;unfold Builtin.«object.__class__» shownTypeOf
 repeat lk
 exact h
theorem Q3 (Z:um K C) (X:K.In s.heap) (I:dI x (.ref C) od s.heap) (h:Q () s):wpAny M A (checkBuiltinCall "BaseException.__getattribute__" ⟨[.ref x,nameV],[]⟩) Q E s:=by
 have k1:builtinKind "BaseException.__getattribute__" = some .slot:=by decide +kernel
 have k2:splitId "BaseException.__getattribute__" = some ("BaseException","__getattribute__"):=by decide +kernel
 have k3:=PySem.F.args_bexc_ga (.ref x) nameV;have L0:=pC (M:=M) I;have L1:=PySem.W.looks_mroIn (M:=M) X Z.hb;obtain ⟨hh,g,d,t,os⟩:=s;have L2:PySem.W.Looks M hh (isInstance (.ref x) (.type "BaseException")) true:=L0.andThen L1;simp only [checkBuiltinCall,k1,k2];refine wpAny_bind (L2.at ?_)
 repeat (any_goals (first | assumption | wp_step))
theorem Sv (Z:um K C) (X:K.In s.heap) (I:dI x (.ref C) od s.heap) (h:Q (some (.ref C)) { s with toks:=s.toks+1 }):wpAny (model prog w) A (getAttr? (.ref x) "__class__") Q E s:=by
 obtain ⟨hh,g,d,t,os⟩:=s;have L0:=pC (M:=model prog w) I;have L1:=PySem.W.looks_findIn (M:=model prog w) X Z.sZ;have L2:=PySem.W.looks_findIn (M:=model prog w) X Z.W3;have L3:=YR (M:=model prog w) (x:=x) X Z.ha Z.hn Z.eC;unfold getAttr? getAttrBy? getAttrBy;refine wpAny_bind (wpAny_mkText (wpAny_bind (wpAny_attempt (wpAny_holding (wpAny_bind (L0.at (wpAny_bind (L1.at ?_))))))));show wpAny _ _ (getAttrByItsOwn (.ref x) (.str "__class__" t) (.ref C) (.builtin "BaseException.__getattribute__") false false) _ _ _;unfold getAttrByItsOwn;refine wpAny_bind (L2.at ?_);refine wpAny_bind (wpAny_attempt (wpAny_holding ?_));show wpAny _ _ (boundAndCalled (.builtin "BaseException.__getattribute__") (.ref x) (.str "__class__" t)) _ _ _;unfold boundAndCalled;refine wpAny_bind (wpAny_of_eq (PySem.F.attr_ValueError.ga.bind (.ref x)) ?_);refine wpAny_call (codeAny_call_builtin PySem.F.attr_ValueError.ga.plain PySem.F.entry_bexc_ga (Q3 Z X I ?_));show wpAny _ _ (Builtin.«object.__getattribute__» ⟨[.ref x,.str "__class__" t],[]⟩) _ _ _;unfold Builtin.«object.__getattribute__»;refine wpAny_bind (wpAny_pure ?_);refine wpAny_bind (wpAny_pure ?_);refine wpAny_bind (L0.at (wpAny_bind (L3.at ?_)));show wpAny _ _ (Builtin.ObjectAttr.bindTo (.builtin "getset_descriptor.__get__") (.builtin "object.__class__") (.ref x) (.ref C)) _ _ _;show wpAny _ _ (holding [.builtin "object.__class__"] (call (.builtin "getset_descriptor.__get__") [.builtin "object.__class__",.ref x,.ref C]) >>= fun v=>ret v) _ _ _;refine wpAny_bind (wpAny_holding (wpAny_call (OM Z X I (wpAny_pure ?_))));exact wpAny_pure (wpAny_pure h)
theorem BJ (Z:um K C):PySem.W.KitX K (.ref x) (.ref C) (dI x (.ref C) od) where
 ty:=fun _ _ _ I=>pC I
 it:=fun _ _ X _=>by
  obtain ⟨c',d',cd',sl',ho⟩:=yz Z.hm;intro A' Q' E' s' k q;unfold isType loadHead;exact wpAny_bind (wpAny_loadPart (k _ _ (X _ _ ho)) (wpAny_pure q))
 ne:=fun h tp dd ao n sl X htp=>by
  obtain ⟨c',d',cd',sl',ho⟩:=yz Z.hm;refine Bool.eq_false_iff.mpr fun q=>?_;have e:C=tp:=Value.ref.inj (beq_iff_eq.mp q);subst e;have z:=(X _ _ ho).symm.trans htp;cases z
 ca:=fun X I k=>Sv Z X I k
end
inductive wF (K:PySem.W.Frag) (H:Hp):V->Value->Bool->Prop where
 | of {x:V} {t:Value} (h:fw K H x t):wF K H x t false
 | exc {ea C:Addr} {od:Option Addr} (e:H ea=some (Hl ea C od)) (Z:um K C):wF K H (.ref ea) (.ref C) true
inductive sT (K:PySem.W.Frag) (H:Hp) (t:Value):Bool->V->Bool->Prop where
 | ty {f:Bool} {n:String} {b:Bool} (e:PySem.W.kitOne K t (.type n)=some b):sT K H t f (.ty n) b
 | cls {f:Bool} {a:Addr} {b:Bool} (e:PySem.W.kitOne K t (.ref a)=some b):sT K H t f (.ref a) b
 | tup {p:Addr} {cs:List V} {us:List Value} {b:Bool} (h:H p=some (.tup cs)) (hu:∀ ws,Vals cs ws->ws=us) (e:PySem.W.kitAny K t us=some b):sT K H t true (.ref p) b
section
variable {X:Cx} {K:PySem.W.Frag}
def BS (K:PySem.W.Frag):List V->Hp->VK->Prop:=fun xs H Q=>match xs with
 | [x,c]=>∃ (t:Value) (f b:Bool),wF K H x t f/\sT K H t f c b/\Q (.bl b) H
 | _=>False
theorem VN (I:Inv X pins σ H s) (rx:RelV x u) (rc:RelV c v) (ty:wF X.K H x t f) (a:sT X.K H t f c b)
  (h:∀ tk,Q (.bool b) { s with toks:=tk }):wpAny (model X.prog X.w) A (call (.builtin "isinstance") [u,v]) Q E s:=by
 cases ty with
 | of ty =>
  cases a with
  | ty e=>cases (show v=Value.type _ from rc); exact BP I rx ty e h
  | cls e=>cases (show v=Value.ref _ from rc); exact BP I rx ty e h
 | @exc ea C od e Z =>
  cases (show u=Value.ref ea from rx);obtain ⟨p,_,_⟩:=(show b9 X.prog X.w H s.heap ea (Hl ea C od) from I.aB ea _ e);cases a with
  | ty e'=>cases (show v=Value.type _ from rc); exact PySem.W.kia_one (BJ Z) I.cg p e' (fun z=>nomatch z) h
  | cls e'=>cases (show v=Value.ref _ from rc); exact PySem.W.kia_one (BJ Z) I.cg p e' (fun z=>nomatch z) h
  | @tup tp cs us b hp hu e' =>
   cases (show v=Value.ref tp from rc);obtain ⟨_,ao,rv,o,ho,hc,n,hd,_⟩:=(show b9 X.prog X.w H s.heap tp (.tup cs) from I.aB tp _ hp);obtain rfl:=hu ao rv;obtain ⟨oc,odd,MY,dW⟩:=o;dsimp only at hc hd;subst hc hd;exact PySem.W.kia_tup (BJ Z) I.cg p ho e' (fun z=>nomatch z) h
theorem rX (h:X.K=K):cI X (.builtin "isinstance") (BS K):=h ▸ fun pins s σ H xs us Q I r q=>by
 unfold BS at q;split at q
 ·rename_i x c;obtain ⟨t,f,b,ty,a,q⟩:=q;obtain ⟨u,v,rfl,ru,rv⟩:=vals2 r;exact VN I ru rv ty a fun tk=>⟨.bl b,H,I.tok tk,rfl,q⟩
 ·exact q.elim
end
namespace Dv
section
variable {X:Cx} {st:Stmt} {t:TS}
theorem dR {k:Nat} {f:Addr} {fd:FuncData} {ps:List Str} {sp:Sp} {bE:List V} {ds:List Value} {R:St->XK} {x:Str} {p pos:Pos} {e:Expr} {es:List Expr} {t:TA}
  (F:az X.prog X.w X.K X.mg X.base (cM X.prog X.w) k f fd ps sp) (hr:bH k X.A) (hm:X.mg x=some (.ref f)) (hk:PySem.W.keepIn X.K (.ref f)=true) (hb:Binds X.K fd ps ds) (hd:Vals bE ds) (hx:lU X R)
  (ha:QA X (e::es) t) (hg:Gl X x:=by rfl) (hs:(e::es).all noStar=true:=by rfl) (bV:(x == ("__debug__" : Str))=false:=by decide):QE X (.Call (.Name x p) (e::es) [] pos) (Dg sp bE R t):=⟨Pe F hr hg hm hk hb hd hx ha.h hs bV⟩
theorem za {R:St->XK} {x:Str} {C:Addr} {e:Expr} {es:List Expr} {t:TA} {np bu pos:Pos} (hx:Raises X R) (hc:X.calm=true) (hm:X.mg x=some (.ref C)) (q:PySem.W.excIn X.K C tL "ValueError.__new__" = true) (ha:QA X (e::es) t)
  (hg:Gl X x:=by rfl) (hs:(e::es).all noStar=true:=by rfl) (bV:(x == ("__debug__" : Str))=false:=by decide):QS X (.Raise (some (.Call (.Name x np) (e::es) [] bu)) none pos) (Bt C R t):=⟨NP hx hc hm q ha.h hg hs bV⟩
end
end Dv
theorem jk.dP {P:Program} {w:World} {K:PySem.W.Frag} {mg:Str->Option Value} {base:Heap} {CX:eT} {x qual:Str} {st:Stmt} {f:Addr} {fd:FuncData} {N ps:List Str} {k:Nat} {sp:Sp} (F:jk K x qual st f fd) (S:aE N ps (aA st)) (len:∀ vs H Q E,sp vs H Q E->vs.length=ps.length)
  (hb:∀ (aw:Value) (A:Around) (outer:List Env) (s:Shared) (H:Hp) (vs:List V) (Q:VK) (E:XK),bH k (A.deeper (envOfC qual (aA st) s.heap.objs.size f aw))->sp vs H Q E ->
   ∃ t,dE (gU CX P w K mg base N qual (aA st) f aw A outer s H E) (aV st) t/\t { nx:=fun _ H'=>Q .au H',rt:=Q } (start N vs) H):az P w K mg base CX (k+1) f fd ps sp:=by
 obtain ⟨oc,od,kV,doc,pm,an,aw,ct,dW,rfl,lk,dj⟩:=F.ex;exact Cv lk dj S len fun A outer s H vs Q E hr gH=>hb aw A outer s H vs Q E hr gH
def sI:List Value->Bool
 | []=>false
 | v::r=>(v::r) == tL || match v with
  | .ref _=>sI r
  | _=>false
theorem KA (self:Value):∀ {l:List Value},sI l=true->refuseLoop self "__setattr__" l=pure ()
 | [],e=>nomatch e
 | v::r,e=>by
  unfold sI at e;rcases Bool.or_eq_true_iff.mp e with q | q
  ·rw [beq_iff_eq.mp q]; exact PySem.F.store_ValueError.passes self
  ·split at q
   ·rw [refuseLoop_ref];exact KA self q
   ·cases q
def vZ (K:PySem.W.Frag) (C:Addr):Bool:=match K.lookup C with
 | some ⟨.type "type",_,.cls cd,sl⟩=>(match cd.mro,sl.toList with
  | .ref C'::bm,[_,_,_,_,some (.builtin n),_]=>C' == C && n == "ValueError.__new__" && !cd.hasDel && PySem.W.tailIn K tL bm && sI cd.mro && cd.hasDict
  | _,_=>false)
 | _=>false
structure jH (K:PySem.W.Frag) (C f:Addr) (fld:Str):Prop where
 q:vZ K C=true
 hi:PySem.W.findIn K (.ref C) "__init__" = some (some (.ref f))
 hf:PySem.W.typeIn K (.ref f)=some (.type "function")
 sa:PySem.W.findIn K (.ref C) "__setattr__" = some (some (.builtin "object.__setattr__"))
 na:PySem.W.findIn K (.ref C) fld=some none
 ob:PySem.W.mroIn K C (.type "object")=some true
 be:PySem.W.mroIn K C (.type "BaseException")=some true
 self:PySem.W.mroIn K C (.ref C)=some true
 kp:PySem.W.keepIn K (.ref C)=true
theorem CK {K:PySem.W.Frag} {h:Heap} {C:Addr} (X:K.In h) (q:vZ K C=true) :
  ∃ bm N nm q bs sn sub ab col dd k0 k1 k2 k3 k5,h.get? C=some (excClassObj nm q C N bs bm true sn sub ab col dd k0 k1 k2 k3 k5 "ValueError.__new__")/\OwnTail h tL bm/\sI (.ref C::bm)=true:=by
 unfold vZ at q;split at q
 ·rename_i dd cd sl ho;split at q
  ·rename_i C' bm k0 k1 k2 k3 n k5 hm hs;simp only [Bool.and_eq_true,beq_iff_eq,Bool.not_eq_true'] at q;obtain ⟨⟨⟨⟨⟨q1,q2⟩,q3⟩,q4⟩,q5⟩,q6⟩:=q;subst q1 q2;obtain ⟨nm,bs,mro,ns,qn,hd,sn,sub,ab,col,del⟩:=cd;dsimp only at hm q3 q5 q6;subst hm q3 q6;have e1:sl=#[k0,k1,k2,k3,some (.builtin "ValueError.__new__"),k5]:=by
    obtain ⟨l⟩:=sl;simp only at hs;rw [hs]
   subst e1;exact ⟨bm,ns,nm,qn,bs,sn,sub,ab,col,dd,k0,k1,k2,k3,k5,X _ _ ho,PySem.W.tail_of_in X q4,q5⟩
  ·cases q
 ·cases q
section
variable {prog:Program} {w:World} {A:Around} {E:Value->Shared->Prop} {s:Shared} {K:PySem.W.Frag} {x C f:Addr} {fld:Str} {v:Value}
open Builtin Builtin.ObjectAttr in
theorem V5 (Z:jH K C f fld) (X:K.In s.heap) (I:dI x (.ref C) none s.heap)
  (h:∀ h' d tk,s.heap.objs.size<=d->d≠x->(∃ o,s.heap.get? x=some o/\h'.get? x=some { o with dict:=some d })->h'.Ns1 d (fun y=>if y=fld then some v else none)->(∀ b o,b≠x->s.heap.get? b=some o->h'.get? b=some o)->Q () { s with heap:=h',toks:=tk }) :
  wpAny (model prog w) A (setAttr (.ref x) fld v) Q E s:=by
 obtain ⟨hh,g,dr,t,os⟩:=s;have L0:=pC (M:=model prog w) I;have L1:=PySem.W.looks_findIn (M:=model prog w) X Z.sa;have L2:=PySem.W.looks_findIn (M:=model prog w) X Z.na;obtain ⟨bm,N,nm,qn,bs,sn,sub,ab,col,dd,k0,k1,k2,k3,k5,hC,T,hve⟩:=CK X Z.q;have Lo:=PySem.W.looks_mroIn (M:=model prog w) X Z.ob;have Li:PySem.W.Looks (model prog w) hh (isInstance (.ref x) (.type "object")) true:=L0.andThen Lo;have SF:=PySem.F.store_object;refine wpAny_bind (wpAny_mkText (wpAny_bind (wpAny_bind (wpAny_bind (L0.at (L1.at (wpAny_holding ?_)))))));rw [SF.slot.bind];refine wpAny_bind (wpAny_pure (wpAny_bind (wpAny_call ?_)));refine codeAny_call_builtin SF.slot.plain SF.entry ?_;refine @PySem.W.check_slot (model prog w) _ _ ⟨hh,g,dr,t+1,os⟩ "object.__setattr__" "object" "__setattr__" (.ref x) [.str fld t,v] [] _ SF.kind SF.split Li (SF.args (.ref x) (.str fld t) v) ?_;show wpAny _ _ (Builtin.«object.__setattr__» ⟨[.ref x,.str fld t,v],[]⟩) _ _ _;rw [PySem.W.osa_eq,refuse_eq];refine wpAny_bind (wpAny_bind (L0.at (wpAny_bind (wpAny_mroOf_exc hC ?_))));rw [KA _ hve];refine wpAny_pure (wpAny_bind (L0.at (wpAny_bind (L2.at (wpAny_bind (wpAny_pure ?_))))));obtain ⟨o,hx,hc,qW,vs,iG⟩:=I;show wpAny _ _ (storeInOwnDict (.ref x) (.ref C) (.str fld t) fld v false) _ _ _;have Lc:PySem.W.Looks (model prog w) hh (classData C) _:=(PySem.W.Looks.ld (part:=none) hC).andThen .now;obtain ⟨oc,od,MY,dW⟩:=o;dsimp only at hc qW iG;subst hc qW iG;have bx:(hh.push { cls:=.type "dict",data:=.dict #[] }).get? x=some ⟨.ref C,none,.fields vs,dW⟩:=Heap.get?_push_of_some _ hx;have EL:x≠hh.objs.size:=Nat.ne_of_lt (Heap.lt_size hx);unfold storeInOwnDict ownDictForStores instanceDict;refine wpAny_bind (wpAny_pure ?_);refine wpAny_bind (wpAny_bind (wpAny_loadPart hx (wpAny_bind (Lc.at ?_))));refine wpAny_bind (wpAny_alloc' ?_);refine wpAny_bind (wpAny_update' bx (wpAny_pure ?_));show wpAny _ _ (storeInDict hh.objs.size (.str fld t) fld v) _ _ _;have hself:((hh.push { cls:=.type "dict",data:=.dict #[] }).update x fun o=>{ o with dict:=some hh.objs.size }).get? x=some ⟨.ref C,some hh.objs.size,.fields vs,dW⟩:=Heap.get?_update_self _ bx rfl;have hdict:((hh.push { cls:=.type "dict",data:=.dict #[] }).update x fun o=>{ o with dict:=some hh.objs.size }).get? hh.objs.size=some { cls:=.type "dict",data:=.dict #[] } :=
  (Heap.get?_update_ne _ _ _ _ EL.symm).trans (Heap.get?_push_at rfl rfl)
 have hoth:∀ b o,b≠x->hh.get? b=some o->((hh.push { cls:=.type "dict",data:=.dict #[] }).update x fun o=>{ o with dict:=some hh.objs.size }).get? b=some o:=fun b o hb e =>
  (Heap.get?_update_ne _ _ _ _ hb).trans (Heap.get?_push_of_some _ e)
 have gP:((hh.push { cls:=.type "dict",data:=.dict #[] }).update x fun o=>{ o with dict:=some hh.objs.size }).Ns hh.objs.size (fun _=>none):=⟨_,#[],_,hdict,rfl,fun e he=>absurd he (by simp),fun _=>rfl⟩;unfold storeInDict newKeyGuard;refine wpAny_bind (wpAny_pure (wpAny_bind (wpAny_nsSet1 (Heap.Ns1.of_empty gP) fun h' hn' hs=>?_)));obtain ⟨oD,esD,epD,Du,El,Et⟩:=hn'.count (Within.cons fld v Within.nil);refine wpAny_bind (wpAny_lookBehind Du (by rw [El]; exact pastItsLine_dict (Nat.le_trans Et (by rw [List.length_cons,List.length_nil,sizeLine_eq]; omega))) ?_);refine wpAny_pure (wpAny_pure (wpAny_pure ?_));exact h h' hh.objs.size _ (Nat.le_refl _) (Ne.symm EL) ⟨_,hx,(hs.2 x EL).trans hself⟩ hn' fun b o hb e=>(hs.2 b (Nat.ne_of_lt (Heap.lt_size e))).trans (hoth b o hb e)
end
def lN (e:Addr) (c:Value) (od:Option Addr) (h:Heap):Prop:=∃ o,h.get? e=some o/\o.cls=c/\o.dict=od/\∃ vs a0,o.data=.fields vs/\vs[1]?=some .none/\vs[0]?=some a0
theorem lN.hd (x:lN e c od h):dI e c od h:=let ⟨o,a,b,c,vs,_,d,_⟩:=x; ⟨o,a,b,c,vs,d⟩
def dk (ea C:Addr) (od:Option Addr):HO:=.ext (lN ea (.ref C) od)
theorem Kh (x:lN ea (.ref C) od h):b9 P w H h ea (dk ea C od) :=
 ⟨x,let ⟨o,e,_⟩:=x; ⟨o,e⟩,fun _ _ ⟨o,e,r⟩ k=>⟨o,k o e,r⟩⟩
theorem T9 (hx:Heap.MadeExcOf h h' e cls args):lN e cls none h':=by
 obtain ⟨t,he,_⟩:=hx.there;exact ⟨_,he,rfl,rfl,_,_,rfl,rfl,rfl⟩
def Dk (C:Addr) (fld:Str) (ta tv:TE):TS:=fun D σ H=>tv σ H fun y H1=>ta σ H1 fun x H2=>∃ ea,x=.ref ea/\H2 ea=some (dk ea C none)/\∀ d,H2 d=none->D.nx σ (upd (upd H2 ea (dk ea C (some d))) d (.xd [(fld,y)]))
theorem Vp (r:RelV y u):eM (([(fld,y)]:List (Str×V)).lookup g) (if g=fld then some u else none):=by
 by_cases h:g=fld
 ·have hb:(g == fld)=true:=beq_iff_eq.mpr h;simp only [List.lookup,hb,if_pos h];exact r
 ·have hb:(g == fld)=false:=beq_eq_false_iff_ne.mpr h;simp only [List.lookup,hb,if_neg h];exact True.intro
section
variable {X:Cx} {C f:Addr} {fld:Str} {o value:Expr} {ta tv:TE} {pos pos':Pos}
theorem Qn (Z:jH X.K C f fld) (ha:PE X o ta) (hv:PE X value tv) (hs:swapsWith value (some (.Attribute o fld pos')) pos.line X.env=pure false):PS X (.Assign [.Attribute o fld pos'] value pos) (Dk C fld ta tv):=by
 intro pins s σ H D I h;refine plainObj_wpAny_Assign_Attribute (aD (hv pins s σ H _ I h) fun u s1 ⟨y,H1,I1,ry,q⟩=>aD (ha pins s1 σ H1 _ I1 q) fun ov s2 ⟨x,H2,I2,rx,ea,ex,he,q2⟩=>?_) hs;subst ex;obtain rfl:ov=Value.ref ea:=rx;obtain ⟨p,_,_⟩:=(show b9 X.prog X.w H2 s2.heap ea (dk ea C none) from I2.aB ea _ he);refine V5 Z I2.cg p.hd fun h' d tk hsz la vd gP hkeep=>?_;obtain ⟨o0,e0,e1⟩:=vd;obtain ⟨o0',e0',c0,d0,vs,a0,v0⟩:=p;rw [e0] at e0'; cases e0';have hd':lN ea (.ref C) (some d) h':=⟨_,e1,c0,rfl,vs,a0,v0⟩;have bt:H2 d=none:=I2.aB.fresh hsz;have J:Inv X pins σ (upd H2 ea (dk ea C (some d))) { s2 with heap:=h',toks:=tk } :=
  I2.write (x:=ea) (e:=ea) (o:=dk ea C (some d)) (t':=tk) (by rw [he]; exact True.intro) (.inl rfl) hkeep ⟨_,e1⟩ (Kh hd')
 have big:∀ b,(∃ u,s2.heap.get? b=some u)->b≠d:=fun b ⟨u,e⟩ z=>absurd (Heap.lt_size e) (by rw [z]; exact Nat.not_lt.mpr hsz);refine ⟨σ,_,J.KO (a:=d) (o:=.xd [(fld,y)]) (by rw [ag la]; exact bt) (Heap.get?_none_of_le (Nat.le_trans I2.sz hsz)) ?_ ?_ ?_ ⟨_,gP,fun g=>Vp ry⟩,q2 d bt⟩
 ·obtain ⟨m,⟨o,_,_,ho,_⟩,_⟩:=I2.loc;exact Ne.symm (big _ ⟨o,ho⟩)
 ·intro z c e;obtain ⟨w',o,ho,_⟩:=I2.cell z c e;exact big _ ⟨o,ho⟩
 ·intro p hp;exact big _ ⟨_,(I2.pin p hp).1⟩
end
def lW (C:Addr) (fld:Str):Sp:=fun vs H Q _=>match vs with
 | [.ref ea,y]=>H ea=some (dk ea C none)/\∀ d,H d=none->Q .au (upd (upd H ea (dk ea C (some d))) d (.xd [(fld,y)]))
 | _=>False
section
variable {prog:Program} {w:World} {A:Around} {E:Value->Shared->Prop} {h:Heap} {g:Array GenState} {d:Drawn} {t:Nat} {os:OsState} {K:PySem.W.Frag} {C f:Addr} {fld:Str}
theorem Y5 {rest:List Value} {Q:Fin->Shared->Prop} (Z:jH K C f fld) (X:K.In h) (dX:rest.length<=sizeLine)
  (hq:∀ h' e,Heap.MadeExcOf h h' e (.ref C) rest->wpAny (model prog w) A (call (.ref f) (.ref e::rest)) (fun r s'=>r=.none/\Q (.done (.ret (.ref e))) s') E ⟨h',g,d,t,os⟩) :
  wpAny (model prog w) A (Builtin.«type.__call__» ⟨.ref C::rest,[]⟩) Q E ⟨h,g,d,t,os⟩:=by
 have F:=PySem.F.excBase_ValueError;obtain ⟨bm,N,nm,qn,bs,sn,sub,ab,col,dd,k0,k1,k2,k3,k5,hC,T,_⟩:=CK X Z.q
 repeat (first | with_reducible refine wpAny_loadPart_at hC ?_ | with_reducible refine wpAny_madeBy_exc hC ?_ | wp_step)
 refine codeAny_call_builtin_code (Code.quiet_builtin _ F.quiet) (wpAny_check_new_subT F T hC (codeAny_exc_new_subT F T hC ?_ dX));show wpAny _ _ _ _ _ _;have kk:∀ b o,h.get? b=some o->((h.push { cls:=.type "tuple",data:=.seq rest.toArray }).push { cls:=.ref C,data:=.fields #[.ref h.objs.size,.none,.none,.none,.bool false,.none] }).get? b=some o:=fun b o e=>Heap.get?_push_of_some _ (Heap.get?_push_of_some _ e);have Mu:((h.push { cls:=.type "tuple",data:=.seq rest.toArray }).push { cls:=.ref C,data:=.fields #[.ref h.objs.size,.none,.none,.none,.bool false,.none] }).get? (h.objs.size+1)=some { cls:=.ref C,data:=.fields #[.ref h.objs.size,.none,.none,.none,.bool false,.none] }:=by heap_get
 have MV:((h.push { cls:=.type "tuple",data:=.seq rest.toArray }).push { cls:=.ref C,data:=.fields #[.ref h.objs.size,.none,.none,.none,.bool false,.none] }).get? h.objs.size=some { cls:=.type "tuple",data:=.seq rest.toArray }:=Heap.get?_push_of_some _ (Heap.get?_push_at rfl rfl);generalize Mw:(h.push { cls:=.type "tuple",data:=.seq rest.toArray }).push { cls:=.ref C,data:=.fields #[.ref h.objs.size,.none,.none,.none,.bool false,.none] }=h2 at kk Mu MV ⊢;have made:Heap.MadeExcOf h h2 (h.objs.size+1) (.ref C) rest:=⟨kk,Heap.get?_none_of_le (Nat.le_succ _),h.objs.size,Mu,Heap.get?_none_of_le (Nat.le_refl _),MV⟩;have X2:K.In h2:=fun b o e=>kk b o (X b o e);have L0:=pC (M:=model prog w) (Iy made);have L1:=PySem.W.looks_findIn (M:=model prog w) X2 Z.hi;have Lb:=PySem.W.bind_fn (M:=model prog w) X2 (.ref (h.objs.size+1)) Z.hf;have Ls:PySem.W.Looks (model prog w) h2 (isSubtype (.ref C) (.ref C)) true:=PySem.W.looks_mroIn X2 Z.self;have Li:PySem.W.Looks (model prog w) h2 (isInstance (.ref (h.objs.size+1)) (.ref C)) true:=L0.andThen Ls;refine wpAny_bind (Li.at ?_);simp only [Bool.not_true,Bool.false_eq_true,if_false];refine wpAny_bind (wpAny_holding ?_);unfold callSpecial? specialOf;refine wpAny_bind (wpAny_bind (L0.at (L1.at ?_)));refine wpAny_holding (wpAny_bind (Lb.at (wpAny_bind (wpAny_mono (hq h2 _ made) (fun r s' z=>?_) fun _ _ z=>z))));obtain ⟨rfl,z⟩:=z;exact wpAny_pure (wpAny_pure z)
theorem Zw {rest:List Value} {Q:Value->Shared->Prop} (Z:jH K C f fld) (X:K.In h) (dX:rest.length<=sizeLine)
  (hq:∀ h' e,Heap.MadeExcOf h h' e (.ref C) rest->wpAny (model prog w) (A.under (.builtin "type.__call__" ⟨.ref C::rest,[]⟩)) (call (.ref f) (.ref e::rest)) (fun r s'=>r=.none/\Q (.ref e) s') E ⟨h',g,d,t,os⟩) :
  wpAny (model prog w) A (call (.ref C) rest) Q E ⟨h,g,d,t,os⟩:=by
 obtain ⟨bm,N,nm,qn,bs,sn,sub,ab,col,dd,k0,k1,k2,k3,k5,hC,T,_⟩:=CK X Z.q;have f1:=tc_lookup;have f2:=tc_bind (.ref C);have hT:(⟨h,g,d,t,os⟩:Shared).TypeIs (.ref C) "type" := ⟨_,hC,rfl⟩;refine wpAny_call (codeAny_of_tree ?_);show wpAny _ _ (callAny (.ref C) _) _ _ _
 repeat (any_goals (first | assumption | with_reducible refine wpAny_loadPart_at hC ?_ | wp_step))
 exact ⟨rfl,codeAny_call_builtin_at (Code.quiet_builtin _ (by decide +kernel)) entry_typeCall (wpAny_check_type_call_sub hC (Y5 Z X dX fun h' e hm=>hq h' e hm))⟩
end
theorem R0 {M:Model} {A:Around} {E:Value->Shared->Prop} {s:Shared} {env:Env} {K:PySem.W.Frag} {C:Addr} {x:Sem Value} {Q:Flow->Shared->Prop} (hb:PySem.W.mroIn K C (.type "BaseException")=some true) (cw:PySem.W.typeIn K (.ref C)=some (.type "type")) (hh:A.handled=none)
  (h:wpAny M A x (fun v s₁=>∃ e o vs,v=.ref e/\s₁.heap.get? e=some o/\o.cls=.ref C/\o.data=.fields vs/\vs[1]?=some .none/\K.In s₁.heap/\E (.ref e) s₁) E s) :
  wpAny M A (raiseStmt env (some x) none) Q E s:=by
 unfold raiseStmt;refine wpAny_bind (wpAny_mono h (fun v s₁ h₁=>?_) fun _ _ x=>x);obtain ⟨e,o,vs,rfl,he,hc,hd,h1,X,hE⟩:=h₁;obtain ⟨hp,g,d,tk,os⟩:=s₁;have L0:PySem.W.Looks M hp (typeOf (.ref e)) (.ref C):=hc ▸ (PySem.W.Looks.ld he).andThen .now;have L1:=PySem.W.looks_mroIn (M:=M) X hb;have L2:PySem.W.Looks M hp (isType (.ref e)) false:=by
  obtain ⟨oc,od,MY,dW⟩:=o;dsimp only at hd;subst hd;intro A' Q' E' s' k q;unfold isType loadHead;exact wpAny_bind (wpAny_loadPart (k _ _ he) (wpAny_pure q))
 have L3:PySem.W.Looks M hp (isExcClass (.ref e)) false:=L2.andThen .now;have L4:PySem.W.Looks M hp (isInstance (.ref e) (.type "BaseException")) true:=L0.andThen L1;have L5:=PySem.W.looks_typeIn (M:=M) X cw;refine wpAny_bind (wpAny_pure (wpAny_bind (wpAny_holding ?_)));unfold excFromValue;refine wpAny_bind (L3.at ?_);simp only [Bool.false_eq_true,if_false];refine wpAny_bind (L4.at ?_);simp only [if_true];refine wpAny_pure ?_;refine wpAny_bind (L2.at ?_);simp only [Bool.false_eq_true,if_false];unfold raisedInstance;refine wpAny_bind (wpAny_bind (L0.at (wpAny_bind (L5.at ?_))));refine wpAny_pure ?_;unfold setFlight;refine wpAny_bind (wpAny_bind (wpAny_field he hd h1 ?_));refine wpAny_pure ?_;exact wpAny_raiseNew_none hh hE
theorem Fx (u:Un fs [] H H' h h1):∀ l:List Env,(∀ b∈bW l,b∈fs/\H b=none)->h.FunFrames base l->h1.FunFrames base l
 | [],_,_=>trivial
 | env::r,hs,⟨hk,⟨L,o,hf,hn,ho,hd⟩,hr⟩=>by
  have e:bW (env::r)=L::bW r:=by
   unfold bW;rw [List.filterMap_cons,hf]
  obtain ⟨h1',h2'⟩:=hs L (by rw [e]; exact List.mem_cons_self);obtain ⟨sl,e1⟩:=u.slot L o ho h2' h1' (by simp);exact ⟨hk,⟨L,_,hf,hn,e1,hd⟩,Fx u r (fun b hb=>hs b (by rw [e]; exact List.mem_cons_of_mem _ hb)) hr⟩
section
variable {X:Cx} {pins:List (Addr×Obj)} {σ:St} {H H':Hp} {s s1:Shared} {ea C:Addr} {od:Option Addr}
theorem Inv.Vb (I:Inv X pins σ H s) (O:Own X) (hA:A.frames=some X.stack) (os:s1.os=s.os) (bare:AllBare s1.gens) (un:Un (bW X.stack) [] H H' s.heap s1.heap) (aB:ck X.prog X.w H' s1.heap)
  (free:H' ea=none) (new:s.heap.get? ea=none) (hn:lN ea (.ref C) od s1.heap):wpAny M A (leaving X.env (.ref ea)) (fun _ s''=>m8 X.prog X.w X.outer X.H₀ X.s₀ ea C od H' s'') E s1:=by
 have aO:(PySem.W.hideAll s1.heap (ea::bW X.stack)).StaysIn s1.heap:=fun b o q=>PySem.W.of_hideAll _ q;have lE:s1.heap.FunFrames (PySem.W.hideAll s1.heap (ea::bW X.stack)) X.stack:=PySem.W.funFrames_hide (Fx un X.stack (fun b hb=>⟨hb,I.vC b hb⟩) I.stack) fun env he a ha=>List.mem_cons_of_mem _ (List.mem_filterMap.mpr ⟨env,he,ha⟩);have EM:(PySem.W.hideAll s1.heap (ea::bW X.stack)).get? ea=none:=PySem.W.hideAll_none _ List.mem_cons_self;have gF:rJ (PySem.W.hideAll s1.heap (ea::bW X.stack)) (bW X.stack) s.heap H' s1.heap:=fun b o e hb z=>by
  refine PySem.W.hideAll_get _ e fun hm=>?_;rcases List.mem_cons.mp hm with q | q
  ·rcases z with ⟨u,z⟩ | ⟨u,z⟩
   ·rw [q,new] at z; cases z
   ·rw [q,free] at z; cases z
  ·exact hb q
 generalize PySem.W.hideAll s1.heap (ea::bW X.stack)=B at aO lE EM gF;rw [O.dq] at lE hA;obtain ⟨oe,he,hc,yh,vs,a0,hd,h1,h0⟩:=id hn;refine aD ((Kp.leaving X.env (.ref ea)).any hn.hd (wpAny_leaving_firstW (Q:=fun _ s''=>∃ h2,s''={ s1 with heap:=h2 }/\Heap.LeftW B (X.env::X.outer) ea oe.cls a0 s1.heap h2) hA lE O.frame he aO EM hd h1 h0 fun h2 x=>⟨h2,rfl,x⟩)) fun _ s'' ⟨⟨h2,e,k1,⟨_,_,k2⟩,k3,k4⟩,hd2⟩=>?_;subst e;rw [hc] at k3;exact I.yZ (s':={ s1 with heap:=h2 }) O os bare un aB free new gF ⟨k1,EM,k2,k3⟩ k4 hd2
structure Dc (X:Cx) (R:St->XK):Prop where
 made:∀ (pins:List (Addr×Obj)) (σ:St) (H H':Hp) (s s1:Shared) (ea C:Addr) (od:Option Addr),Inv X pins σ H s->s1.os=s.os->AllBare s1.gens->Un (bW X.stack) [] H H' s.heap s1.heap->ck X.prog X.w H' s1.heap->H' ea=none->s.heap.get? ea=none ->
  lN ea (.ref C) od s1.heap->R σ (.ref C) od H'->X.xe (.ref ea) s1
end
theorem pU {P:Program} {w:World} {K:PySem.W.Frag} {mg:Str->Option Value} {base:Heap} {N:List Str} {qual:Str} {scope:Scope} {f:Addr} {cd:Value} {A:Around} {outer:List Env} {s₀:Shared} {H₀:Hp} {E:XK} :
  Dc (gU (cM P w) P w K mg base N qual scope f cd A outer s₀ H₀ E) (fun _=>E) where
 made:=fun pins σ H H' s s1 ea C od I os bare un aB free new hn hE=>aD (I.Vb ⟨rfl,rfl,rfl⟩ I.ok.frames os bare un aB free new hn) fun _ s'' z=>⟨ea,C,od,H',rfl,z,hE⟩
def Dh (C:Addr) (fld:Str) (R:St->XK) (t:TA):TS:=fun _ σ H=>t σ H fun vs H1=>∃ v,vs=[v]/\∀ d,H1 d=none->R σ (.ref C) (some d) (upd H1 d (.xd [(fld,v)]))
theorem XS (hx:Dc X R) (hex:X.ex=[]) (hc:X.calm=true) (hm:X.mg x=some (.ref C)) (Z:jH X.K C f fld) (cw:PySem.W.typeIn X.K (.ref C)=some (.type "type"))
  (F:az X.prog X.w X.K X.mg X.base aJ k f fd ps (lW C fld)) (hr:bH (k+1) X.A) (hb:Binds X.K fd ps []) (ha:PA X (e::es) t)
  (hg:Gl X x:=by rfl) (hs:(e::es).all noStar=true:=by rfl) (bV:(x == ("__debug__" : Str))=false:=by decide):PS X (.Raise (some (.Call (.Name x np) (e::es) [] bu)) none pos) (Dh C fld R t):=by
 have hs':=hs;rw [List.all_cons,Bool.and_eq_true] at hs';intro pins s σ H D I h;rw [arm_exec_Raise];refine wpAny_bind (wpAny_standAt ?_);show wpAny _ _ (raiseStmt X.env (some (do let v <- eval (.Call (.Name x np) (e::es) [] bu) X.env; standAt pos; pure v)) none) _ _ s;refine R0 Z.be cw (I.ok.hd hc) (wpAny_bind (wpAny_mono (wpAny_Call_Name_kw (kW I hg hm ?_ bV)) (fun v s3 h3=>wpAny_bind (wpAny_standAt (wpAny_pure h3))) fun _ _ z=>z));refine PySem.W.callWith_K (h₀:=X.base) I.ok.mod.iO Z.kp (aD (ha bu pins s σ H _ I h) fun us s2 ⟨vs,H2,I2,r,v,ev,hR⟩=>⟨I2.cg,?_⟩) (fc hs'.1) (gW hs'.2);subst ev;obtain ⟨u,rfl,ru⟩:=vals1 r;obtain ⟨h2,g2,d2,t2,uU⟩:=s2;refine Zw Z I2.cg (by show 1<=sizeLine; decide) fun h3 ex mJ=>?_;have fN:∀ b,(∃ o,h2.get? b=some o)->b≠ex:=fun b ⟨o,e'⟩ z=>by
  have:=mJ.new;rw [z,this] at e'; cases e'
 have mZ:H2 ex=none:=by
  cases q:H2 ex with
  | none=>rfl
  | some o=>exact absurd rfl (fN ex (I2.aB ex o q).there)
 have I3:Inv X pins σ H2 ⟨h3,g2,d2,t2,uU⟩:=I2.kept (t':=t2) mJ.keeps;have I4:Inv X pins σ (upd H2 ex (dk ex C none)) ⟨h3,g2,d2,t2,uU⟩:=by
  refine I3.KO mZ ?_ ?_ ?_ ?_ (Kh (T9 mJ))
  ·cases q:X.s₀.heap.get? ex with
   | none=>rfl
   | some o =>
    exact absurd rfl (fN ex (I2.base.there ex o q (by rw [hex]; simp)))
  ·obtain ⟨m,⟨o,_,_,ho,_⟩,_⟩:=I2.loc;exact Ne.symm (fN _ ⟨o,ho⟩)
  ·intro y c e';obtain ⟨w',o,ho,_⟩:=I2.cell y c e';exact fN _ ⟨o,ho⟩
  ·intro p hp;exact fN _ ⟨_,(I2.pin p hp).1⟩
 have hl:([Value.ref ex,u]++([]:List Value)).length=ps.length:=by
  have:=F.len [.ref ex,v] (upd H2 ex (dk ex C none)) (fun _ _=>True) E0 ⟨ax,fun _ _=>True.intro⟩;exact this
 refine wpAny_call (codeAny_mono (F.run (X.A.under (.builtin "type.__call__" ⟨[.ref C,u],[]⟩)) X.stack ⟨h3,g2,d2,t2,uU⟩ (upd H2 ex (dk ex C none)) ⟨[.ref ex,u],[]⟩ [.ref ex,u] [.ref ex,v]
  (fun r H5=>r=.au/\∃ d,upd H2 ex (dk ex C none) d=none/\H5=upd (upd (upd H2 ex (dk ex C none)) ex (dk ex C (some d))) d (.xd [(fld,v)])) E0 (hr.make C [u] []) (I4.sN.make C [u] []) (hb _ [.ref ex,u] I4.cg hl) (.cons rfl (.cons ru .nil))
  ⟨ax,fun d hd=>⟨rfl,d,hd,rfl⟩⟩) fun r s5 hq=>?_)
 cases r with
 | error e'=>exact False.elim hq
 | ok fl =>
  cases fl with
  | next=>exact False.elim hq
  | brk=>exact False.elim hq
  | cont=>exact False.elim hq
  | ret u5 =>
   obtain ⟨v5,H5,os5,bare5,mU,ED,rv5,rfl,d,xJ,rfl⟩:=hq;have la:d≠ex:=fun z=>by rw [z,ax] at xJ; cases xJ
   have hd2:H2 d=none:=by rw [ag la] at xJ; exact xJ
   have e5:upd (upd (upd H2 ex (dk ex C none)) ex (dk ex C (some d))) d (.xd [(fld,v)]) ex=some (dk ex C (some d)):=by rw [ag (Ne.symm la),ax]
   have e6:∀ b,b≠ex->upd (upd (upd H2 ex (dk ex C none)) ex (dk ex C (some d))) d (.xd [(fld,v)]) b=upd H2 d (.xd [(fld,v)]) b:=fun b hb=>by
    by_cases q:b=d
    ·rw [q,ax,ax]
    ·rw [ag q,ag hb,ag hb,ag q]
   have e7:upd H2 d (.xd [(fld,v)]) ex=none:=by rw [ag (Ne.symm la)]; exact mZ
   have e4:∀ b,b≠ex->upd H2 ex (dk ex C none) b=H2 b:=fun b hb=>ag hb;generalize upd (upd (upd H2 ex (dk ex C none)) ex (dk ex C (some d))) d (.xd [(fld,v)])=H5 at mU ED e5 e6;obtain ⟨hN,_,_⟩:=(show b9 X.prog X.w H5 s5.heap ex (dk ex C (some d)) from ED ex _ e5);have qV:∀ b o,H2 b=some o->b≠ex:=fun b o q=>gd q mZ;have Nl:Un (bW X.stack) [] H2 (upd H2 d (.xd [(fld,v)])) h2 s5.heap:=by
    refine ⟨fun b o q n hb hx=>?_,fun b o q n hb hx=>?_,fun b o q n hx=>?_,fun b o q hx=>?_,fun b xs q=>?_,fun b o v' q=>?_,fun b ps' q=>?_⟩
    ·exact mU.keep b o (mJ.keeps b o q) (by rw [e4 b (fN b ⟨o,q⟩)]; exact n) hb hx
    ·exact mU.slot b o (mJ.keeps b o q) (by rw [e4 b (fN b ⟨o,q⟩)]; exact n) hb hx
    ·rw [<- e6 b (fN b ⟨o,q⟩)];exact mU.free b o (mJ.keeps b o q) (by rw [e4 b (fN b ⟨o,q⟩)]; exact n) hx
    ·exact mU.there b o (mJ.keeps b o q) hx
    ·rw [<- e6 b (qV b _ q)];exact mU.gr b xs (by rw [e4 b (qV b _ q)]; exact q)
    ·rw [<- e6 b (qV b _ q)];exact mU.gi b o v' (by rw [e4 b (qV b _ q)]; exact q)
    ·rw [<- e6 b (qV b _ q)];exact mU.gu b ps' (by rw [e4 b (qV b _ q)]; exact q)
   have hokF:ck X.prog X.w (upd H2 d (.xd [(fld,v)])) s5.heap:=fun b o q=>by
    have hb:b≠ex:=fun z=>by rw [z,e7] at q; cases q
    have q5:H5 b=some o:=by rw [e6 b hb]; exact q
    have ne5:∀ c o',H5 c=some o'->o'≠dk ex C (some d)->c≠ex:=fun c o' z1 z2 z=>by rw [z,e5] at z1; exact z2 (Option.some.inj z1).symm
    refine (ED b o q5).g8 (fun _ _ _ z=>z) (fun c z=>?_) fun c xs z=>?_
    ·rw [<- e6 c (ne5 c _ z (fun z'=>by cases z'))]; exact z
    ·rw [<- e6 c (ne5 c _ z (fun z'=>by cases z'))]; exact z
   obtain ⟨oe,he,xP,yh,vs',a0,qY,h1,h0⟩:=id hN;refine ⟨rv5,ex,oe,vs',rfl,he,xP,qY,h1,?_,hx.made pins σ H2 _ ⟨h2,g2,d2,t2,uU⟩ s5 ex C (some d) I2 os5 bare5 Nl hokF e7 mJ.new hN (hR d hd2)⟩;exact I2.ok.mod.iO.keeps fun b o z=>Nl.keep b o (I2.bs b o z).1 (I2.bs b o z).2 (fun hb=>by have:=(I2.stack.mem hb).1; rw [z] at this; cases this) (by simp)
section
variable {prog:Program} {w:World} {A:Around} {E:Value->Shared->Prop} {s:Shared} {K:PySem.W.Frag} {x C f d:Addr} {fld:Str}
end
inductive FI (C:Addr) (f:Str) (x:V) (H:Hp) (Q:V->Prop):Prop
 | mk:∀ a dx fs v,x=.ref a->H a=some (.ins C dx fs)->fs.lookup f=some v->Q v->FI C f x H Q
inductive SI (C:Addr) (f:Str) (x y:V) (H:Hp) (R:Hp->Prop):Prop
 | mk:∀ a dx fs,x=.ref a->H a=some (.ins C dx fs)->fs.length < 1000->R (upd H a (.ins C dx (ay f y fs)))->SI C f x y H R
inductive AI (C:Addr) (f:Str) (x:V) (H:Hp) (Q:Addr->V->Prop):Prop
 | mk:∀ a dx fs v,x=.ref a->H a=some (.ins C dx fs)->fs.lookup f=some v->Q a v->AI C f x H Q
inductive BI (C:Addr) (f:Str) (a:Addr) (z:V) (H:Hp) (R:Hp->Prop):Prop
 | mk:∀ dx fs,H a=some (.ins C dx fs)->fs.length < 1000->R (upd H a (.ins C dx (ay f z fs)))->BI C f a z H R
def wg (C:Addr) (f:Str) (ta:TE):TE:=fun σ H Q=>ta σ H fun x H1=>FI C f x H1 fun v=>Q v H1
def uf (C:Addr) (f:Str) (ta tv:TE):TS:=fun D σ H=>tv σ H fun y H1=>ta σ H1 fun x H2=>SI C f x y H2 fun H3=>D.nx σ H3
def AW (C:Addr) (f:Str) (ta tv:TE) (rd:R2):TS:=fun D σ H=>ta σ H fun x H1=>AI C f x H1 fun a v=>tv σ H1 fun y H2=>rd v y H2 fun z H3=>BI C f a z H3 fun H4=>D.nx σ H4
def Ai (C:Addr) (m:Str) (sp:Sp) (bE:List V) (R:St->XK) (ta:TE) (t:TA):TE:=fun σ H Q=>ta σ H fun x H1=>MI C m x H1 (t σ H1 fun vs H2=>sp (x::(vs++bE)) H2 Q (R σ))
section
variable {X:Cx} {k:Nat} {f C:Addr} {fd:FuncData} {ps:List Str} {sp:Sp} {bE:List V} {ds:List Value} {R:St->XK} {x m:Str} {p pos apos:Pos} {e o:Expr} {es:List Expr} {ta:TE} {t:TA}
theorem WV (he:PE X o ta) (c:cX X.K C) (hm:Meth X.K C m f) (F:az X.prog X.w X.K X.mg X.base (cM X.prog X.w) k f fd ps sp) (hr:bH k X.A) (hb:Binds X.K fd ps ds) (hd:Vals bE ds) (hx:lU X R) (ha:PA X (e::es) t) (hs:(e::es).all noStar=true:=by rfl)
  (ht:eval (.Call (.Attribute o m apos) (e::es) [] pos) X.env=(do
   let ov <- eval o X.env
   standAt apos.atName
   let (f,first) <- holding [ov] (getMethod ov m pl)
   callWith pos f first (backTo pos (starEach (e::es) X.env)) (backToKw pos (keywordEach [] X.env))):=by rfl):PE X (.Call (.Attribute o m apos) (e::es) [] pos) (Ai C m sp bE R ta t):=by
 have hs':=hs;rw [List.all_cons,Bool.and_eq_true] at hs';intro pins s σ H Q I h;refine PySem.W.methodCall_KW (pl:=pl) (aD (he pins s σ H _ I h) fun u s1 ⟨x,H1,I1,rx,a,dx,fs,ex,ea,l,q⟩=>?_) ht;subst ex;obtain rfl:u=Value.ref a:=rx;refine Cg I1 ea c hm l (PySem.W.callWith_K (first:=[.ref a]) (h₀:=X.base) I.ok.mod.iO hm.kp (aD (ha pos pins s1 σ H1 _ I1 q) fun us s2 ⟨vs,H2,I2,r,q2⟩=>⟨I2.cg,?_⟩) (fc hs'.1) (gW hs'.2));exact HR (us:=.ref a::us) (vs:=.ref a::vs) F hr hb hd hx I2 (.cons rfl r) q2
end
section
variable {X:Cx} {C:Addr} {f:Str} {e o value:Expr} {ta tv:TE} {pos pos' tpos:Pos}
theorem NF (c:cX X.K C) (n:bM X.K C f) (he:PE X e ta) (hb:attributeBase e f X.env (eval e X.env)=eval e X.env):PE X (.Attribute e f pos) (wg C f ta):=by
 intro pins s σ H Q I h;refine QR hb (aD (he pins s σ H _ I h) fun u s1 ⟨x,H1,I1,rx,a,dx,fs,v,ex,ea,l,q⟩=>?_);subst ex;obtain rfl:u=Value.ref a:=rx;exact Hi I1 ea c n l fun u' s2 I2 ru=>⟨v,H1,I2,ru,q⟩
theorem QD (c:cX X.K C) (n:bM X.K C f) (ha:PE X o ta) (hv:PE X value tv) (hs:swapsWith value (some (.Attribute o f pos')) pos.line X.env=pure false):PS X (.Assign [.Attribute o f pos'] value pos) (uf C f ta tv):=by
 intro pins s σ H D I h;refine plainObj_wpAny_Assign_Attribute (aD (hv pins s σ H _ I h) fun u s1 ⟨y,H1,I1,ry,q⟩=>aD (ha pins s1 σ H1 _ I1 q) fun ov s2 ⟨x,H2,I2,rx,a,dx,fs,ex,ea,l,q2⟩=>?_) hs;subst ex;obtain rfl:ov=Value.ref a:=rx;exact Ih I2 ea c n l ry fun s3 I3=>⟨σ,_,I3,q2⟩
theorem XB (c:cX X.K C) (n:bM X.K C f) (ha:PE X o ta) (hv:PE X value tv) (DH:BH X op rd):PS X (.AugAssign (.Attribute o f tpos) op value pos) (AW C f ta tv rd):=by
 intro pins s σ H D I h;refine wpAny_AugAssign_AttributeAny (aD (ha pins s σ H _ I h) fun ov s1 ⟨x,H1,I1,rx,a,dx,fs,v,ex,ea,l,q⟩=>?_);subst ex;obtain rfl:ov=Value.ref a:=rx;refine Hi I1 ea c n l fun u s2 I2 ru=>aD (hv pins s2 σ H1 _ I2 q) fun w3 s3 ⟨y,H2,I3,ry,q3⟩=>aD (DH pins s3 σ H2 v y u w3 _ I3 ru ry q3) fun w4 s4 ⟨z,H3,I4,rz,dx',fs',ea',l',q4⟩=>?_;exact Ih I4 ea' c n l' rz fun s5 I5=>⟨σ,_,I5,q4⟩
end
theorem IP (h:PC X op a b t) (hm:behindInMarks op b=false:=by first | exact wZ _ (by decide) (by decide) | rfl):PT X (.Compare a [op] [b] pos) (lF t):=by
 intro pins s σ H Q I hw;refine wpAny_isTrue_Compare1 (aD (h pins s σ H _ I hw) fun v s1 h1=>aD h1 fun u s2 h2=>aD h2 fun c s3 ⟨x,H1,I1,r1,q1⟩=>?_) hm;obtain ⟨k,rfl,q⟩:=AM q1;cases r1;exact wpAny_truthy_bool ⟨H1,I1,q⟩
namespace Dv
section
variable {X:Cx} {a b o e i value:Expr} {ta tb td ty tv:TE} {es:List Expr} {t:TA} {pos pos' apos bu p tpos:Pos} {f C:Addr} {fn m x:Str} {k:Nat} {fd:FuncData} {ps:List Str} {sp:Sp} {bE:List V} {ds:List Value} {R:St->XK} {CX:eT} {E:XK} {tA:TT} {body:List Stmt} {tB:TS}
theorem fld (c:cX X.K C) (n:bM X.K C fn) (he:QE X e ta) (hb:attributeBase e fn X.env (eval e X.env)=eval e X.env:=by rfl):QE X (.Attribute e fn pos) (wg C fn ta):=⟨NF c n he.h hb⟩
theorem bG (c:cX X.K C) (n:bM X.K C fn) (ha:QE X o ta) (hv:QE X value tv) (hs:swapsWith value (some (.Attribute o fn pos')) pos.line X.env=pure false:=by rfl):QS X (.Assign [.Attribute o fn pos'] value pos) (uf C fn ta tv):=⟨QD c n ha.h hv.h hs⟩
theorem kE {op:Operator} {rd:R2} (c:cX X.K C) (n:bM X.K C fn) (DH:BH X op rd) (ha:QE X o ta) (hv:QE X value tv):QS X (.AugAssign (.Attribute o fn tpos) op value pos) (AW C fn ta tv rd):=⟨XB c n ha.h hv.h DH⟩
theorem JX (Z:jH X.K C f fn) (ha:QE X o ta) (hv:QE X value tv) (hs:swapsWith value (some (.Attribute o fn pos')) pos.line X.env=pure false:=by rfl):QS X (.Assign [.Attribute o fn pos'] value pos) (Dk C fn ta tv):=⟨Qn Z ha.h hv.h hs⟩
theorem bf (c:cX X.K C) (hm:Meth X.K C m f) (F:az X.prog X.w X.K X.mg X.base CX k f fd ps sp) (hr:bH k X.A) (hb:Binds X.K fd ps ds) (hd:Vals bE ds) (hx:Passes CX X E) (ho:QE X o ta) (ha:QA X (e::es) t) (hs:(e::es).all noStar=true:=by rfl)
  (ht:eval (.Call (.Attribute o m apos) (e::es) [] pos) X.env=(do
   let ov <- eval o X.env
   standAt apos.atName
   let (f,first) <- holding [ov] (getMethod ov m pl)
   callWith pos f first (backTo pos (starEach (e::es) X.env)) (backToKw pos (keywordEach [] X.env))):=by rfl):QE X (.Call (.Attribute o m apos) (e::es) [] pos) (se C m sp bE E ta t):=by
 have hs':=hs;rw [List.all_cons,Bool.and_eq_true] at hs';exact ⟨Pg ho.h c hm F hr hb hd hx ha.h (fc hs'.1) (gW hs'.2) ht⟩
theorem pe (c:cX X.K C) (hm:Meth X.K C m f) (F:az X.prog X.w X.K X.mg X.base CX k f fd ps sp) (hr:bH k X.A) (hb:Binds X.K fd ps ds) (hd:Vals bE ds) (hx:Passes CX X E) (ho:QE X o ta)
  (ht:eval (.Call (.Attribute o m apos) [] [] pos) X.env=(do
   let ov <- eval o X.env
   standAt apos.atName
   let (f,first) <- holding [ov] (getMethod ov m pl)
   callWith pos f first (backTo pos (starEach [] X.env)) (backToKw pos (keywordEach [] X.env))):=by rfl):QE X (.Call (.Attribute o m apos) [] [] pos) (se C m sp bE E ta fR):=⟨Wm ho.h c hm F hr hb hd hx ht⟩
theorem ef (c:cX X.K C) (hm:Meth X.K C m f) (F:az X.prog X.w X.K X.mg X.base (cM X.prog X.w) k f fd ps sp) (hr:bH k X.A) (hb:Binds X.K fd ps ds) (hd:Vals bE ds) (hx:lU X R) (ho:QE X o ta) (ha:QA X (e::es) t) (hs:(e::es).all noStar=true:=by rfl)
  (ht:eval (.Call (.Attribute o m apos) (e::es) [] pos) X.env=(do
   let ov <- eval o X.env
   standAt apos.atName
   let (f,first) <- holding [ov] (getMethod ov m pl)
   callWith pos f first (backTo pos (starEach (e::es) X.env)) (backToKw pos (keywordEach [] X.env))):=by rfl):QE X (.Call (.Attribute o m apos) (e::es) [] pos) (Ai C m sp bE R ta t):=⟨WV ho.h c hm F hr hb hd hx ha.h hs ht⟩
theorem make (M:Mk X.K C f) (F:az X.prog X.w X.K X.mg X.base CX k f fd ps sp) (hr:bH (k+1) X.A) (hm:X.mg x=some (.ref C)) (hb:Binds X.K fd ps ds) (hd:Vals bE ds) (hx:Passes CX X E) (ha:QA X (e::es) t) (hg:Gl X x:=by rfl) (hs:(e::es).all noStar=true:=by rfl) (bV:(x == ("__debug__" : Str))=false:=by decide) :
  QE X (.Call (.Name x p) (e::es) [] pos) (sM C sp bE E t):=by
 have hs':=hs;rw [List.all_cons,Bool.and_eq_true] at hs';exact ⟨WO M F hr hg hm hb hd hx ha.h bV (fc hs'.1) (gW hs'.2)⟩
theorem Om (M:Mk X.K C f) (F:az X.prog X.w X.K X.mg X.base CX k f fd ps sp) (hr:bH (k+1) X.A) (hm:X.mg x=some (.ref C)) (hb:Binds X.K fd ps ds) (hd:Vals bE ds) (hx:Passes CX X E) (hg:Gl X x:=by rfl) (bV:(x == ("__debug__" : Str))=false:=by decide) :
  QE X (.Call (.Name x p) [] [] pos) (sM C sp bE E fR):=⟨Pw M F hr hg hm hb hd hx bV⟩
theorem pE (hx:Dc X R) (hex:X.ex=[]) (hc:X.calm=true) (hm:X.mg x=some (.ref C)) (Z:jH X.K C f fn) (cw:PySem.W.typeIn X.K (.ref C)=some (.type "type")) (F:az X.prog X.w X.K X.mg X.base aJ k f fd ps (lW C fn)) (hr:bH (k+1) X.A) (hb:Binds X.K fd ps []) (ha:QA X (e::es) t)
  (hg:Gl X x:=by rfl) (hs:(e::es).all noStar=true:=by rfl) (bV:(x == ("__debug__" : Str))=false:=by decide):QS X (.Raise (some (.Call (.Name x p) (e::es) [] bu)) none pos) (Dh C fn R t):=⟨XS hx hex hc hm Z cw F hr hb ha.h hg hs bV⟩
theorem tH (hu:X.A.units+1 < cLine) (ho:QE X o td) (hi:QE X i ty) (hs:Bb i:=by intro _ _; rfl):QE X (.Subscript o i pos) (Df td ty):=⟨ZD hu ho.h hi.h hs⟩
theorem yF (hu:X.A.units+1 < cLine) (hi:QE X i ty) (ho:QE X o td) (hm:behindInMarks .In o=false:=by rfl):QT X (.Compare i [.In] [o] pos) (lF (AE ty td)):=⟨IP (Sl hu hi.h ho.h) hm⟩
theorem GG (hu:X.A.units+1 < cLine) (hi:QE X i ty) (ho:QE X o td) (hm:behindInMarks .NotIn o=false:=by rfl):QT X (.Compare i [.NotIn] [o] pos) (lF (yV ty td)):=⟨IP (U7 hu hi.h ho.h) hm⟩
theorem uk (hu:X.A.units+1 < cLine) (ho:QE X o td) (hi:QE X i ty) (hv:QE X value tv) (hs:swapsWith value (some (.Subscript o i pos')) pos.line X.env=pure false:=by rfl):QS X (.Assign [.Subscript o i pos'] value pos) (yQ td ty tv):=⟨VQ hu ho.h hi.h hv.h hs⟩
theorem Ug:QE X (.Dict [] [] pos) Aq:=⟨Vi⟩
theorem Hm (hu:X.A.units+1 < cLine) (ho:QE X o td) (he:QE X e ty) (m1:M1 X o "get" apos e bu:=by exact ⟨rfl,rfl,rfl,rfl⟩):QE X (.Call (.Attribute o "get" apos) [e] [] bu) (yE td ty):=⟨Oc hu ho.h he.h m1⟩
theorem kZ (hp:PassesOwn (model X.prog X.w) X.A X.env X.xe) (hc:QT X a tA) (hb:QB X body tB):QS X (.While a body [] pos) (FZ tA tB):=⟨Qz hp hc.h hb.h⟩
theorem GU (hc:QT X o tA) (ha:QE X a ta) (hb:QE X b tb):QE X (.IfExp o a b pos) (yS tA ta tb):=⟨PY hc.h ha.h hb.h⟩
end
end Dv
theorem NX {K:PySem.W.Frag} {M:Model} {A:Around} {E:Value->Shared->Prop} {s:Shared} {e C Cc:Addr} {od:Option Addr} {Q:Bool->Shared->Prop} {b:Bool} (X:K.In s.heap) (hd:dI e (.ref C) od s.heap) (h1:PySem.W.instIn K (.ref Cc) (.type "tuple")=some false)
  (h2:PySem.W.mroIn K Cc (.type "BaseException")=some true) (h3:PySem.W.subIn K (.ref C) (.ref Cc)=some b) (hq:Q b s):wpAny M A (excMatches (.ref e) (.ref Cc)) Q E s:=by
 obtain ⟨o,he,hc,_⟩:=hd;have L1:=PySem.W.looks_instIn (M:=M) X h1;have L2:=PySem.W.looks_mroIn (M:=M) X h2;have L3:=PySem.W.looks_subIn (M:=M) X h3;have L4:PySem.W.Looks M s.heap (isType (.ref Cc)) true:=by
  obtain ⟨c',d',cd',sl',ho⟩:=yz h2;intro A' Q' E' s' k q;unfold isType loadHead;exact wpAny_bind (wpAny_loadPart (k _ _ (X _ _ ho)) (wpAny_pure q))
 have L5:PySem.W.Looks M s.heap (typeOf (.ref e)) (.ref C):=hc ▸ (PySem.W.Looks.ld he).andThen .now;have L6:PySem.W.Looks M s.heap (isExcClass (.ref Cc)) true:=L4.andThen L2;obtain ⟨hh,g,d,t,os⟩:=s;unfold excMatches;refine wpAny_bind (L1.at ?_);simp only [Bool.false_eq_true,if_false,pure_bind];simp only [List.forIn_cons,List.forIn_nil,bind_assoc,pure_bind];refine wpAny_bind (L6.at ?_);simp only [Bool.not_true,Bool.false_eq_true,if_false,bind_assoc,pure_bind];refine wpAny_bind (L5.at (wpAny_bind (L3.at ?_)));cases b with
 | true =>
  simp only [if_true,pure_bind];exact wpAny_pure hq
 | false =>
  simp only [Bool.false_eq_true,if_false,pure_bind];exact wpAny_pure hq
structure De (X:Cx) (pins:List (Addr×Obj)) (σ:St) (H:Hp) (ea C:Addr) (od:Option Addr) (s:Shared):Prop where
 fl:∃ B a0,Heap.FlyingW B (X.env::X.outer) ea (.ref C) a0 s.heap/\∀ h4:Heap,B.StaysIn h4->s.heap.UpToSlots h4->Inv X pins σ H { s with heap:=h4 }
 hd:dI ea (.ref C) od s.heap
 free:H ea=none
 n0:X.s₀.heap.get? ea=none
 nL:ea≠X.env.locals
 nC:∀ x c,X.env.cells.lookup x=some c->c≠ea
 nP:∀ p∈X.pn++pins,p.1≠ea
theorem De.inv (L:De X pins σ H ea C od s):Inv X pins σ H s:=by
 obtain ⟨B,a0,fl,k⟩:=L.fl;exact k s.heap fl.1 (Heap.UpToSlots.refl _)
abbrev mx:=Ends->St->Addr->Option Addr->Hp->Prop
def PH (X:Cx) (hs:List ExceptHandler) (t:mx):Prop:=∀ (pins:List (Addr×Obj)) (s:Shared) (σ:St) (H:Hp) (D:Ends) (ea C:Addr) (od:Option Addr),De X pins σ H ea C od s->t D σ C od H->wpAny (model X.prog X.w) X.A (handleBy (.ref ea) X.env hs) (SP X pins D) X.xe s
def F9 (K:PySem.W.Frag) (Cc:Addr) (th:TS) (tr:mx):mx:=fun D σ C od H=>∃ b,PySem.W.subIn K (.ref C) (.ref Cc)=some b/\if b=true then th D σ H else tr D σ C od H
def E8:mx:=fun _ _ _ _ _=>False
theorem Xy:PH X [] E8:=fun _ _ _ _ _ _ _ _ _ h=>h.elim
section
variable {X:Cx} {K:PySem.W.Frag} {Cc:Addr} {n x:Str} {u0:List Stmt} {b₀:Stmt} {np hpos pos:Pos} {th:TS} {tr:mx} {rest:List ExceptHandler}
theorem OU (hK:X.K=K) (hm:X.mg x=some (.ref Cc)) (c1:PySem.W.instIn X.K (.ref Cc) (.type "tuple")=some false) (c2:PySem.W.mroIn X.K Cc (.type "BaseException")=some true) (hs:∀ v,dE (X.nu v) (b₀::u0) th) (hr:PH X rest tr)
  (hg:Gl X x:=by rfl) (bV:(x == ("__debug__" : Str))=false:=by decide):PH X (.ExceptHandler (some (.Name x np)) none (b₀::u0) hpos::rest) (F9 K Cc th tr):=by
 subst hK;intro pins s σ H D ea C od L h;obtain ⟨b,Ej,h⟩:=h;have I:=L.inv;refine wpAny_handleBy_cons (codeAny_handlers_test (kW (I.nu (.ref ea)) hg hm (NX I.cg L.hd c1 c2 Ej ?_) bV)) (by intro q; cases q);cases b with
 | false=>exact hr pins s σ H D ea C od L h
 | true =>
  have aQ:=h;rw [if_pos rfl] at aQ;obtain ⟨B,a0,fl,step⟩:=L.fl;refine codeAny_handlers_suite (aD (lands_againW (Q:=fun _ s4=>∃ h4,s4={ s with heap:=h4 }/\Heap.FlyingW B (X.env::X.outer) ea (.ref C) a0 h4/\s.heap.UpToSlots h4) fl fun h4 x1 x2=>⟨h4,rfl,x1,x2⟩) fun _ s4 ⟨h4,e4,fl4,up4⟩=>?_);subst e4;refine wpAny_mono (hs (.ref ea) pins _ _ _ D ((step h4 fl4.1 up4).nu (.ref ea)) aQ) (fun f s7 z=>?_) fun _ _ z=>False.elim z;cases f with
  | next=>obtain ⟨σ7,H7,I7,q⟩:=z; exact ⟨_,H7,I7.xt I.ok,q⟩
  | ret u=>obtain ⟨v,σ7,H7,I7,r,q⟩:=z; exact ⟨v,_,H7,I7.xt I.ok,r,q⟩
  | brk=>obtain ⟨σ7,H7,I7,q⟩:=z; exact ⟨_,H7,I7.xt I.ok,q⟩
  | cont=>obtain ⟨σ7,H7,I7,q⟩:=z; exact ⟨_,H7,I7.xt I.ok,q⟩
def Gf (tb:(St->XK)->TS) (t:mx):TS:=fun D σ H=>∃ R:St->XK,tb R D σ H/\∀ σ' C od H',R σ' (.ref C) od H'->t D σ' C od H'
theorem Xr (O:Own X) (hb:∀ pins R,dE (X.nt pins R) body (tb R)) (hh:PH X (h₀::rest) t):PS X (.Try body (h₀::rest) [] [] pos) (Gf tb t):=by
 intro pins s σ H D I h;obtain ⟨R,hb',hR⟩:=h;refine wpAny_Try_except (wpAny_mono (hb pins R [] s σ H D (I.nt R) hb') (fun f s1 z=>?_) fun e s1 z=>?_)
 ·cases f with
  | next=>obtain ⟨σ',H',I',q⟩:=z; exact wpAny_execs_nil ⟨σ',H',I'.sO,q⟩
  | ret u=>obtain ⟨v,σ',H',I',r,q⟩:=z; exact ⟨v,σ',H',I'.sO,r,q⟩
  | brk=>obtain ⟨σ',H',I',q⟩:=z; exact ⟨σ',H',I'.sO,q⟩
  | cont=>obtain ⟨σ',H',I',q⟩:=z; exact ⟨σ',H',I'.sO,q⟩
 ·obtain ⟨σ',H0,H',s0,ea,C,od,I0,rfl,F,Dt⟩:=z;obtain ⟨B,a0,fl,gF⟩:=F.Fv;have hA:X.A.frames=some (X.env::X.outer):=by rw [<- O.dq]; exact I.ok.frames
  rw [O.dq] at fl;refine aD ((Kp.noteFrame (.ref ea) X.env).any F.hd (wpAny_looks_onW (Q:=fun _ s2=>∃ h2,s2={ s1 with heap:=h2 }/\Heap.HeldW B (X.env::X.outer) ea (.ref C) a0 X.env.locals h2/\s1.heap.UpToSlots h2) hA O.frame fl fun h2 x1 x2=>⟨h2,rfl,x1,x2⟩)) fun _ s2 ⟨⟨h2,e2,held,up2⟩,hd2⟩=>?_;subst e2;refine aD ((Kp.setFlight (.ref ea) none).any (s:={ s1 with heap:=h2 }) hd2 (wpAny_landsW (s:={ s1 with heap:=h2 }) (Q:=fun _ s3=>∃ h3,s3={ s1 with heap:=h3 }/\Heap.FlyingW B (X.env::X.outer) ea (.ref C) a0 h3/\h2.UpToSlots h3) held fun h3 x1 x2=>⟨h3,rfl,x1,x2⟩)) fun _ s3 ⟨⟨h3,e3,fl3,up3⟩,oz⟩=>?_;subst e3;have fN:∀ b,(∃ o,s0.heap.get? b=some o)->b≠ea:=fun b ⟨o,e⟩ z=>by rw [z,F.new] at e; cases e
  refine hh pins { s1 with heap:=h3 } σ' H' D ea C od ⟨⟨B,a0,fl3,fun h4 st up=>?_⟩,oz,F.free,?_,?_,fun y c e=>?_,fun p hp=>?_⟩ (hR σ' C od H' Dt)
  ·obtain ⟨u,aB⟩:=GK F.un F.aB I0.Hx gF st ((up2.trans up3).trans up);exact I0.Ka (s':={ s1 with heap:=h4 }) (ch:=[]) F.os u aB F.bare (fun b z=>absurd z (by simp))
  ·cases q:X.s₀.heap.get? ea with
   | none=>rfl
   | some u=>exact absurd rfl (fN ea (I0.base.there ea u q (by rw [O.ex]; simp)))
  ·obtain ⟨m,⟨o,_,_,ho,_⟩,_⟩:=I0.loc;exact Ne.symm (fN _ ⟨o,ho⟩)
  ·obtain ⟨w',o,ho,_⟩:=I0.cell y c e;exact fN _ ⟨o,ho⟩
  ·exact fN _ ⟨_,(I0.pin p hp).1⟩
end
structure QH (X:Cx) (hs:List ExceptHandler) (t:mx):Prop where
 h:PH X hs t
namespace Dv
section
variable {X:Cx} {K:PySem.W.Frag} {Cc:Addr} {n x:Str} {u0:List Stmt} {b₀:Stmt} {np hpos pos:Pos} {th:TS} {tr:mx} {rest:List ExceptHandler}
theorem QC:QH X [] E8:=⟨Xy⟩
theorem Vv (hK:X.K=K) (hm:X.mg x=some (.ref Cc)) (c1:PySem.W.instIn X.K (.ref Cc) (.type "tuple")=some false) (c2:PySem.W.mroIn X.K Cc (.type "BaseException")=some true) (hs:∀ v,QB (X.nu v) (b₀::u0) th) (hr:QH X rest tr)
  (hg:Gl X x:=by rfl) (bV:(x == ("__debug__" : Str))=false:=by decide):QH X (.ExceptHandler (some (.Name x np)) none (b₀::u0) hpos::rest) (F9 K Cc th tr):=⟨OU hK hm c1 c2 (fun v=>(hs v).h) hr.h hg bV⟩
theorem ND (O:Own X) (hb:∀ pins R,QB (X.nt pins R) body (tb R)) (hh:QH X (h₀::rest) t):QS X (.Try body (h₀::rest) [] [] pos) (Gf tb t):=⟨Xr O (fun pins R=>(hb pins R).h) hh.h⟩
end
end Dv
def eP (a b:Str):Bool:=!ltCps b.cps.toList a.cps.toList
def gR (ts:List Str):List Str:=ts.mergeSort eP
theorem xc:eP a b=true ↔ ¬ b.cps.toList < a.cps.toList:=by
 unfold eP; rw [ltCps_eq]; simp
theorem JL (a b c:Str) (h1:eP a b=true) (h2:eP b c=true):eP a c=true:=by
 rw [xc] at *;exact List.not_lt.mpr (List.le_trans (List.not_lt.mp h1) (List.not_lt.mp h2))
theorem YN (a b:Str):(eP a b || eP b a)=true:=by
 cases h:eP a b with
 | true=>rfl
 | false =>
  have:¬ eP a b=true:=by rw [h]; simp
  rw [xc,Classical.not_not] at this;simp only [Bool.false_or,xc];exact List.not_lt.mpr (List.le_of_lt this)
theorem TR (h1:eP a b=true) (h2:eP b a=true):a=b:=by
 rw [xc] at *;have:=List.le_antisymm (List.not_lt.mp h1) (List.not_lt.mp h2);obtain ⟨x⟩:=a; obtain ⟨y⟩:=b;exact congrArg Str.mk (Array.ext' this)
theorem GN (ts:List Str):(gR ts).Perm ts:=List.mergeSort_perm ts eP
theorem O1 (ts:List Str):(gR ts).Pairwise (fun a b=>eP a b=true):=List.pairwise_mergeSort JL YN ts
theorem Lh (ts:List Str):(gR ts).length=ts.length:=(GN ts).length_eq
theorem E6:∀ (p:Str) (l:List Str),risingS p l=true->(p::l).Pairwise (fun a b=>eP a b=true)
 | p,[],_=>List.pairwise_singleton _ _
 | p,x::r,h=>by
  have h':eP p x=true/\risingS x r=true:=by simpa [risingS,eP] using h
  have ih:=E6 x r h'.2;refine List.pairwise_cons.mpr ⟨fun y hy=>?_,ih⟩;rcases List.mem_cons.mp hy with e | hy
  ·exact e ▸ h'.1
  ·exact JL p x y h'.1 (List.rel_of_pairwise_cons ih hy)
theorem HJ:∀ (l:List Str),sortedS l=true->l.Pairwise (fun a b=>eP a b=true)
 | [],_=>.nil
 | x::r,h=>E6 x r h
theorem CP (hp:us.Perm ts) (hs:us.Pairwise (fun a b=>eP a b=true)):us=gR ts :=
 List.Perm.eq_of_pairwise (fun a b _ _ h1 h2=>TR h1 h2) hs (O1 ts) (hp.trans (GN ts).symm)
theorem Sm (x:Str):gR [x]=[x]:=(CP (.refl _) (List.pairwise_singleton _ _)).symm
theorem E3:∀ {ts:List Str} {us:List Value},Vals (ts.map V.str) us->StrsAre us ts
 | [],_,.nil=>.nil
 | x::r,_,.cons h t=>by obtain ⟨t',rfl⟩:=h; exact .cons x t' (E3 t)
theorem z0:∀ {us:List Value} {ts:List Str},StrsAre us ts->Vals (ts.map V.str) us
 | _,_,.nil=>.nil
 | _,_,.cons y t h=>.cons ⟨t,rfl⟩ (z0 h)
section
variable {X:Cx}
def Ji (K:PySem.W.Frag):List V->Hp->VK->Prop:=fun xs H Q=>∃ p ts,xs=[.ref p]/\aC K H p (ts.map V.str)/\ts.length < 64/\∀ l,H l=none->Q (.ref l) (upd H l (.lst ((gR ts).map V.str)))
theorem WL:cI X (.builtin "sorted") (Ji X.K):=by
 intro pins s σ H xs us Q I r h;obtain ⟨p,ts,rfl,hq,Dz,q⟩:=h;obtain ⟨u,rfl,rx⟩:=vals1 r;cases rx;obtain ⟨ao,r',pl,hz⟩:=I.list hq;have hlen:=r'.length;refine sorted_strs pl.isList (E3 r') (by rw [<- hlen]; simpa using Dz) fun out ss' a1 a2 a3=>?_;obtain ⟨e,he⟩:=sortedAll_at s.heap ao out;have e1:ss'=gR ts:=CP a2 (HJ _ a3);subst e1;refine ⟨.ref (s.heap.objs.size+1),_,I.laid (t':=s.toks) (fun _ _=>sortedAll_old) (Nat.le_succ _) (show b9 X.prog X.w _ _ _ (.lst ((gR ts).map V.str)) from ⟨?_,out.toList,e,z0 a1,?_⟩),rfl,q _ (I.aB.fresh (Nat.le_succ _))⟩
 ·rw [List.length_map,Lh]; simpa using hz
 ·simpa [seqObj] using he
def IK:List V->Hp->VK->Prop:=fun xs H Q=>∃ p kvs,∃ ts:List Str,xs=[.ref p]/\H p=some (.dK kvs)/\kvs.map (·.1)=ts.map Sum.inr/\ts.length < 64/\∀ l,H l=none->Q (.ref l) (upd H l (.lst ((gR ts).map V.str)))
theorem Sx (h:m6 (.inr x) v=true):∃ t,v=Value.str x t:=Value.isStrOf_shape h
theorem Wo (hc:X.calm=true):cI X (.builtin "sorted") IK:=by
 intro pins s σ H xs us Q I r h;obtain ⟨p,kvs,ts,rfl,hq,hk,Dz,q⟩:=h;obtain ⟨u,rfl,rx⟩:=vals1 r;cases rx;obtain ⟨hz,hS,vs,rv,m⟩:kvs.length<=sizeLine/\(p == sysModules)=false/\∃ vs,KV kvs vs/\s.heap.DictOf (eK X.prog X.w) p vs:=I.aB p _ hq;obtain ⟨ep,jT⟩:=m.dictAt;have fm:kvs.length=ts.length:=by simpa using congrArg List.length hk
 have D3:vs.length=ts.length:=by rw [<- fm]; simpa using (congrArg List.length rv.keys).symm
 refine Calls.call_function_entry kind_sorted plain_sorted entry_sorted (args_sorted1 _) ?_;unfold Builtin.«sorted»;refine wpAny_bind (m:=checkCount "sorted" 1 1 _) (wpAny_pure ?_);refine wpAny_bind (PySem.W.kdu_collect (A:=X.A.in1) (PySem.W.kdl_dict (knd:=eK X.prog X.w) (kvs:=vs) (ep:=ep) hS) (I.ok.hd hc) jT (by rw [D3,<- fm]; exact hz) fun h' tk acc hk' gC=>?_);have hl:acc.toList.length=ts.length:=by rw [Array.length_toList,<- D3]; exact gC.1
 have hS':StrsAre acc.toList ts:=by
  have key:∀ (l:List Value) (us:List Str),l.length=us.length->(∀ (j:Nat) (v:Value) (x:Str),l[j]?=some v->us[j]?=some x->∃ t,v=Value.str x t)->StrsAre l us:=by
   intro l
   induction l with
   | nil=>intro us e _; cases us with | nil=>exact .nil | cons=>cases e
   | cons v l ih =>
    intro us e hh;cases us with
    | nil=>cases e
    | cons x us =>
     obtain ⟨t,rfl⟩:=hh 0 v x rfl rfl;exact .cons x t (ih us (by simpa using e) fun j v x h1 h2=>hh (j+1) v x h1 h2)
  refine key _ _ hl fun j v x h1 h2=>?_;obtain ⟨k,y,hx,oi⟩:=gC.2 j v (by rw [<- Array.getElem?_toList]; exact h1);have e1:(vs.map (·.1))[j]?=some k:=by rw [List.getElem?_map,hx]; rfl
  rw [<- rv.keys,hk,List.getElem?_map,h2] at e1;cases e1;exact Sx oi
 refine wpAny_bind (wpAny_newList ?_ (by rw [hl,<- fm]; exact hz));have lq:(h'.push (seqObj "list" acc.toList.toArray 0)).get? h'.objs.size=some (seqObj "list" acc.toList.toArray 0):=Heap.get?_push_size _ rfl;refine wpAny_bind (wpAny_holding (wpAny_call_entry slot_list_sort ⟨_,lq,rfl⟩ entry_list_sort (list_sort_treeK strKind_oneLt lq hS'.keysOf (fun v₁ v₂ rest e=>keyKind_strs (by rw [<- e]; exact hS')) (by rw [hl]; exact Dz) fun st' a1 a2=>⟨_,rfl,?_⟩) (args_list_sort _)));refine wpAny_pure ⟨_,rfl,?_⟩;obtain ⟨ss',b1,b2,b3⟩:=sorted_out_str hS' a1 a2;have e1:ss'=gR ts:=CP b2 (HJ _ b3);subst e1;obtain ⟨e,he⟩:=sortedHeap_at (out:=(arrOf st').map (·.2)) lq;have I1:Inv X pins σ H { s with heap:=h',toks:=tk }:=I.kept (t':=tk) hk';refine ⟨.ref h'.objs.size,_,I1.laid (t':=tk) (fun b o z=>?_) (Nat.le_refl _) (show b9 X.prog X.w _ _ _ (.lst ((gR ts).map V.str)) from ⟨?_,_,e,z0 b1,?_⟩),rfl,q _ (I1.aB.fresh (Nat.le_refl _))⟩
 ·have hb:b < h'.objs.size:=Heap.lt_size z;rw [sortedHeap_old (Nat.ne_of_lt hb) (by have:=Heap.size_push h' (seqObj "list" acc.toList.toArray 0); rw [this]; exact Nat.lt_succ_of_lt hb)];exact Heap.get?_push_of_some _ z
 ·rw [List.length_map,Lh,<- fm]; exact hz
 ·rw [Array.toArray_toList]; exact he
end
def FX (c:Addr) (q:Str):HO:=.ext fun h=>h.CodeRec (.ref c) q
structure aae (N:List Str) (scope:Scope) (cl:List (Str×Addr)):Prop where
 kind:scope.kind=.function
 co:scope.isCoroutine=false
 gen:scope.isGenerator=false
 ZT:∀ x∈scope.names,x.2≠.cell
 free:∀ x∈N,scope.names.lookup x=some .free
 has:∀ x,scope.names.lookup x=some .free->∃ c,cl.lookup x=some c
 inj:∀ x y c,cl.lookup x=some c->cl.lookup y=some c->x=y
abbrev UA:=List Env->Shared->Sp
structure Z4 (P:Program) (w:World) (K:PySem.W.Frag) (mg:Str->Option Value) (base:Heap) (CX:eT) (k:Nat) (f:Addr) (fd:FuncData) (ps:List Str) (sp:UA):Prop where
 len:∀ outer s vs H Q E,sp outer s vs H Q E->vs.length=ps.length
 run:∀ (A:Around) (outer:List Env) (s:Shared) (H:Hp) (args:Args) (us:List Value) (vs:List V) (Q:VK) (E:XK),bH k A->lO P w K mg base A outer s H->BindsTo s fd args (ps.zip us)->Vals vs us->sp outer s vs H Q E ->
  codeAny (model P w) A (.call (.ref f) args) (CR CX outer P w H s Q E) s
abbrev Ent:=Int×Int×Addr
def JW:List Ent->List Value
 | []=>[]
 | e::r=>rawInt e.1::rawInt e.2.1::.ref e.2.2::JW r
def Ju (P:Addr) (es:List Ent):HO:=.ext fun h=>h.get? P=some (PySem.W.tabObj (JW es).toArray)
structure Yr (H:Hp) (P:Addr) (q:Str) (es:List Ent):Prop where
 tab:H P=some (Ju P es)
 code:∀ e∈es,H e.2.2=some (FX e.2.2 q)
structure Z5 (X:Cx) (P:Addr) (params:Arguments) (scope:Scope) (uN:List (Str×Addr)) (q:Str):Prop where
 dflt:defaultsOf params X.env=([],[])
 nX:closureFor scope X.env=pure uN
 code:∃ c,X.env.code=.ref c/\PySem.W.CodeHd X.base c P
 blt:X.base.BuiltinsAt X.mg P
 qual:X.env.qual ++ "<lambda>" = q
structure ZV (P:Addr) (q:Str) (c:Addr) (H H1:Hp):Prop where
 rest:∀ b,b≠P->b≠c->H1 b=H b
 code:H1 c=some (FX c q)
 old:H c=none\/H1=H
 tab:∃ es,Yr H1 P q es
abbrev aab:=Hp->VK->XK->Prop
def Cr (ix:List Nat) (σ:St) (vs:List V):Prop:=vs.length=ix.length/\∀ (i j:Nat) (v:V),ix[i]?=some j->vs[i]?=some v->σ[j]?=some (some v)
structure Z1 (X:Cx) (N':List Str) (ix:List Nat) (uN:List (Str×Addr)):Prop where
 len:ix.length=N'.length
 at':∀ (i j:Nat),ix[i]?=some j->∃ x,N'[i]?=some x/\X.N[j]?=some x/\X.env.scope.names.lookup x=some .cell
 nX:∀ x c,uN.lookup x=some c->X.env.cells.lookup x=some c
 Z8:∀ x∈N',uN.lookup x=X.env.cells.lookup x
 own:∀ x c,uN.lookup x=some c->X.fn x=true
abbrev Xu:=List (Addr×Addr)
structure aad (tabs:Xu) (H:Hp):Prop where
 all:∀ b,H b=none\/(∃ o xs,H b=some (.eS o (.lst xs)))\/∃ q∈tabs,b=q.2
 tab:∀ q∈tabs,H q.2=some (Ju q.2 [])
section
variable {prog:Program} {w:World} {A:Around} {R:Result->Shared->Prop} {I:Addr} {fp wr:List Addr} {P:Nat->Value->Prop} {St:Nat->Heap->Prop}
theorem SK (a d:Value):argsOk "min" ⟨[a],[("default",d)]⟩:=by unfold argsOk; kernel_rfl
theorem Ow (W:Walks prog w A.in1 I fp wr 0 P St) (aO:St 0 s.heap)
  (hS:s.heap.get? S=some { cls:=.type "list",dict:=none,data:=.seq #[] c,slots:=#[] })
  (hR:∀ h' tk,(∀ b o,b ∉ wr->s.heap.get? b=some o->h'.get? b=some o)->R (.ok (.ret d)) { s with heap:=h',toks:=tk }) :
  codeAny (model prog w) A (.builtin "min.loop" ⟨[.ref I,.none,.ref S],[("default",d)]⟩) R s:=by
 refine codeAny_builtin F.entry_min_loop ?_;rw [Around.under_plainId F.plain_min_loop _];show wpAny _ A.in1 (seqItems? (.ref S) >>= _) _ _ s;refine wpAny_bind (wpAny_seqItems hS rfl ?_);show wpAny _ A.in1 (tryCatch (pyNext (.ref I)) _ >>= _) _ _ s;refine wpAny_bind (wpAny_tryCatch (W.done s _ _ aO fun h' tk hk'=>?_));exact wpAny_bind (wpAny_rule (wpAny_pure (hR h' tk hk')))
theorem N3 (W:Walks prog w A.in1 I fp wr 1 P St) (qR:S ∉ fp) (aO:St 0 s.heap)
  (hS:s.heap.get? S=some { cls:=.type "list",dict:=none,data:=.seq #[] c,slots:=#[] })
  (hR:∀ v h' tk,P 0 v->(∀ b o,b ∉ wr->b≠S->s.heap.get? b=some o->h'.get? b=some o)->R (.ok (.ret v)) { s with heap:=h',toks:=tk }) :
  codeAny (model prog w) A (.builtin "min.loop" ⟨[.ref I,.none,.ref S],[("default",d)]⟩) R s:=by
 have MP:S ∉ wr:=fun h=>qR (W.sub _ h);have DU:(toString "min" ++ toString ".loop" : String) = "min.loop" := by decide
 refine codeAny_builtin F.entry_min_loop ?_;rw [Around.under_plainId F.plain_min_loop _];show wpAny _ A.in1 (seqItems? (.ref S) >>= _) _ _ s;refine wpAny_bind (wpAny_seqItems hS rfl ?_);show wpAny _ A.in1 (tryCatch (pyNext (.ref I)) _ >>= _) _ _ s;refine wpAny_bind (wpAny_tryCatch (W.item 0 s _ _ (by decide) aO fun v h' tk hP hst' hk'=>?_));have hS':=hk' S _ MP hS;show wpAny _ A.in1 (updateSeq S (fun _=>#[v,v]) >>= _) _ _ _;refine wpAny_bind ?_;refine wpAny_updateSeq hS' rfl ?_;rw [DU];refine wpAny_pure ⟨plainId_quiet F.plain_min_loop _,?_⟩;have key:∀ (s2:Shared) (c2:Nat),St 1 s2.heap->s2.heap.get? S=some { cls:=.type "list",dict:=none,data:=.seq #[v,v] c2,slots:=#[] }->(∀ h'' tk'',(∀ b o,b ∉ wr->b≠S->s2.heap.get? b=some o->h''.get? b=some o)->R (.ok (.ret v)) { s2 with heap:=h'',toks:=tk'' }) ->
   codeAny (model prog w) A (.builtin "min.loop" ⟨[.ref I,.none,.ref S],[("default",d)]⟩) R s2:=fun s2 c2 fO hS2 hR2=>by
  refine codeAny_builtin F.entry_min_loop ?_;rw [Around.under_plainId F.plain_min_loop _];show wpAny _ A.in1 (seqItems? (.ref S) >>= _) _ _ s2;refine wpAny_bind (wpAny_seqItems hS2 rfl ?_);show wpAny _ A.in1 (tryCatch (pyNext (.ref I)) _ >>= _) _ _ s2;refine wpAny_bind (wpAny_tryCatch (W.done s2 _ _ fO fun h3 tk3 LM=>?_));have hS3:=LM S _ MP hS2;show wpAny _ A.in1 (updateSeq S (fun _=>#[]) >>= _) _ _ _;refine wpAny_bind ?_;refine wpAny_updateSeq hS3 rfl (wpAny_bind (wpAny_letGo (wpAny_pure ?_)));exact hR2 _ tk3 fun b o hbw hbS e=>(Heap.get?_update_other _ _ (Ne.symm hbS)).trans (LM b o hbw e)
 refine key _ _ (W.frame _ _ _ hst' fun b jY o e=>(Heap.get?_update_other _ _ (fun h:S=b=>qR (by rw [h]; exact jY))).trans e) (Heap.get?_update_self _ hS' rfl) fun h'' tk'' hk''=>?_;exact hR v h'' tk'' hP fun b o hbw hbS e=>hk'' b o hbw hbS ((Heap.get?_update_other _ _ (Ne.symm hbS)).trans (hk' b o hbw e))
theorem RZ
  (h:wpAny (model prog w) A.in1 (pyIter x) (fun it s₂=>∃ I fp wr n P St,it=.ref I/\Walks prog w A.in1 I fp wr n P St/\St 0 s₂.heap/\(∀ b∈fp,b < s₂.heap.objs.size)/\n<=1 /\
   ∀ v h' tk,(n=0/\v=d\/n=1/\P 0 v)->(∀ b o,b ∉ wr->s₂.heap.get? b=some o->h'.get? b=some o)->Q v { s₂ with heap:=h',toks:=tk }) E s) :
  wpAny (model prog w) A (call (.builtin "min") [x] [("default",d)]) Q E s:=by
 have DU:(toString "min" ++ toString ".loop" : String) = "min.loop" := by decide
 refine wpAny_call (codeAny_call_builtin F.plain_min F.entry_min ?_);have qM:wpAny (model prog w) A.in1 (Builtin.«min» ⟨[x],[("default",d)]⟩) (fun fin s'=>match fin with
   | .done f=>(match (Except.ok f:Result) with | .ok (.ret v)=>Q v s' | .ok _=>False | .error e=>E e s')
   | .again c'=>c'.quiet=true/\codeAny (model prog w) A c' (fun r s'=>match r with | .ok (.ret v)=>Q v s' | .ok _=>False | .error e=>E e s') s') E s:=by
  show wpAny _ A.in1 (Builtin.Builtins.bindParams "min" ["key","default"] 0 ⟨[],[("default",d)]⟩ >>= _) _ _ s;refine wpAny_bind (wpAny_of_eq (show Builtin.Builtins.bindParams "min" ["key","default"] 0 ⟨[],[("default",d)]⟩=pure [none,some d] from rfl) ?_);refine wpAny_bind (wpAny_pure ?_);refine wpAny_bind (wpAny_mono h (fun it s₂ h₂=>?_) fun _ _ e=>e);obtain ⟨I,fp,wr,n,P,St,rfl,W,aO,Eo,hn,hQ⟩:=h₂;refine wpAny_bind (wpAny_newObj_type ?_);have qR:s₂.heap.objs.size ∉ fp:=fun hm=>Nat.lt_irrefl _ (Eo _ hm);rw [DU];refine wpAny_pure ⟨plainId_quiet F.plain_min_loop _,?_⟩;have fO:=W.frame _ _ _ aO (fun b _ o e=>Heap.get?_push_of_some { cls:=.type "list",data:=.seq ([]:List Value).toArray } e)
  match n,hn,W,hQ with
  | 0,_,W,hQ =>
   refine Ow W fO (Heap.get?_push_size _ rfl) fun h' tk hk=>?_;exact hQ d h' tk (.inl ⟨rfl,rfl⟩) fun b o hbw e=>hk b o hbw (Heap.get?_push_of_some _ e)
  | 1,_,W,hQ =>
   refine N3 W qR fO (Heap.get?_push_size _ rfl) fun v h' tk hP hk=>?_;exact hQ v h' tk (.inr ⟨rfl,hP⟩) fun b o hbw e=>hk b o hbw (Nat.ne_of_lt (Heap.lt_size e)) (Heap.get?_push_of_some _ e)
 have ha:=SK x d;simp only [checkBuiltinCall,F.kind_min];cases hsig:Manifest.signature? "min" with
 | none=>exact wpAny_pure qM
 | some sig =>
  have ha':Bind.checkArgs "min" sig ⟨[x],[("default",d)]⟩=pure ():=by simpa only [argsOk,hsig] using ha
  simp only [ha'];exact wpAny_pure qM
end
def jq (h:Heap) (d:Addr) (es:Array DictEntry) (ep:Nat):Prop:=∃ o,h.get? d=some o/\o.ExactDict/\o.data=.dict es ep
theorem jq.at' (x:jq h d es ep) (k:∀ o,h.get? d=some o->h'.get? d=some o):jq h' d es ep:=let ⟨o,e,r⟩:=x; ⟨o,k o e,r⟩
section
variable {prog:Program} {w:World} {A:Around} {E:Value->Shared->Prop} {s:Shared} {es:Array DictEntry}
theorem jq.typeIs (x:jq s.heap d es ep):s.TypeIs (.ref d) "dict" := let ⟨o,e,c,_⟩:=x; ⟨o,e,c.1⟩
theorem JG (hd:(d == sysModules)=false) (hm:jq s.heap d es ep)
  (hQ:Q (.ref s.heap.objs.size) { s with heap:=s.heap.push { cls:=.type "dict_keyiterator",data:=.fields #[.ref d,.int 0 0,.int es.size 0,.int ep 0] } }) :
  wpAny (model prog w) A (pyIter (.ref d)) Q E s:=by
 obtain ⟨o,ho,hc,iG⟩:=id hm;have hT:=hm.typeIs;refine wpAny_pyIter_slot hT F.slot_dict_iter (wpAny_call_entry F.slot_dict_iter hT F.entry_dict_iter ?_ (F.args_dict_iter_1 _));unfold Builtin.«dict.__iter__» Builtin.Dict.dictSlotNone;refine wpAny_bind (wpAny_bind (wpAny_notOrdered_dict hT ?_));show wpAny _ _ (pure (Value.ref d)) _ _ s;refine wpAny_pure ?_;show wpAny _ _ (Builtin.Dict.showsAll d >>= _) _ _ s;unfold Builtin.Dict.showsAll;rw [if_neg (by rw [hd]; exact Bool.false_ne_true)];refine wpAny_bind (wpAny_pure (wpAny_bind (wpAny_dictEntries ho iG (wpAny_bind (wpAny_dictEpoch ho iG ?_)))));refine wpAny_bind (wpAny_newObj_type (wpAny_pure ⟨_,rfl,"dict_keyiterator",_,⟨_,Heap.get?_push_size _ rfl,rfl⟩,F.slot_dict_keyiterator_next.lookup,?_⟩))
 simpa [rawInt] using hQ
theorem Kg (hit:s.heap.IsKeyIter it d i es.size ep) (hm:jq s.heap d es ep)
  (h1:∀ b8:i < es.size,∀ h',h'.IsKeyIter it d (i+1) es.size ep->Heap.SameBut it s.heap h'->Q (some es[i].key) { s with heap:=h' })
  (h2:es.size<=i->A.handled=none/\∀ h',Heap.ExtBut it s.heap h'->Q none { s with heap:=h' }) :
  wpAny (model prog w) A (pyNext (.ref it)) Q E s:=by
 obtain ⟨o,ho,hc,hd⟩:=id hit;obtain ⟨od,ML,dj,yh⟩:=id hm;unfold pyNext;refine wpAny_bind (wpAny_attempt (wpAny_callSpecial?_slot (name:=Str.ofString "__next__") hit.typeIs F.slot_dict_keyiterator_next
  (wpAny_call_entry F.slot_dict_keyiterator_next hit.typeIs F.entry_dict_keyiterator_next ?_ (F.args_dict_keyiterator_next_1 _))))
 refine wpAny_bind (wpAny_pure (wpAny_bind (wpAny_bind ?_)));refine wpAny_bind (wpAny_typeNameOfWhole_keyiter hit.typeIs (wpAny_pure ?_));refine wpAny_bind (wpAny_fieldsOf ho hd ?_);simp only [show Builtin.Dict_items.ownsTuple "dict_keyiterator" = false by decide,Bool.false_eq_true,if_false];show wpAny _ _ (if (Value.ref d == Value.none)=true then _ else _) _ _ s;rw [if_neg (show ¬ ((Value.ref d == Value.none)=true) from Bool.false_ne_true)];refine wpAny_bind (wpAny_pure (wpAny_bind (wpAny_dictEntries ML yh ?_)));rw [if_neg (by simp)];refine wpAny_bind (wpAny_pure (wpAny_bind (wpAny_dictEpoch ML yh ?_)));rw [if_neg (by simp)];refine wpAny_pure ?_;rcases Nat.lt_or_ge i es.size with b8 | xY
 ·simp only [show ¬ ((i:Int) < 0) from by omega,if_false,Int.toNat_natCast,Array.getElem?_eq_getElem b8];refine wpAny_bind (wpAny_bind (wpAny_typeNameOfWhole_keyiter hit.typeIs (wpAny_pure ?_)));refine wpAny_bind (wpAny_isOneOf_keyiter hit.typeIs ?_);show wpAny _ _ (setField (.ref it) 1 (rawInt ((i:Int)+1)) >>= _) _ _ s;refine wpAny_bind (wpAny_setField ho hd (by simp) ?_);have hit':(s.heap.update it (Obj.mapFields (·.setIfInBounds 1 (rawInt ((i:Int)+1))))).IsKeyIter it d (i+1) es.size ep :=
   ⟨_,Heap.get?_update_self _ ho (Obj.isFreed_of_fields (Obj.data_mapFields hd _)),(Obj.cls_mapFields ..).trans hc,by rw [Obj.data_mapFields hd]; simp [rawInt]⟩
  refine wpAny_bind (wpAny_holding (wpAny_bind (wpAny_isOneOf_keyiter (s:={ s with heap:=s.heap.update it (Obj.mapFields (·.setIfInBounds 1 (rawInt ((i:Int)+1)))) }) hit'.typeIs ?_)));show wpAny _ _ (pure es[i].key) _ _ _;exact wpAny_pure (wpAny_pure ⟨_,rfl,wpAny_pure (h1 b8 _ hit' (Heap.SameBut.update ..))⟩)
 ·obtain ⟨hh,hQ⟩:=h2 xY;simp only [show ¬ ((i:Int) < 0) from by omega,if_false,Int.toNat_natCast,Array.getElem?_eq_none xY];refine wpAny_bind (wpAny_bind (wpAny_typeNameOfWhole_keyiter hit.typeIs (wpAny_pure ?_)));show wpAny _ _ (setField (.ref it) 0 .none >>= _) _ _ s;refine wpAny_bind (wpAny_setField ho hd (by simp) ?_);show wpAny _ _ (newExc (.type "StopIteration") [] >>= _) _ _ _;refine wpAny_bind ?_;simp only [newExc,newTuple];refine wpAny_bind (wpAny_newObj_type ?_ (by size_fits));refine wpAny_bind (m:=firstArgMember _ _) (wpAny_of_eq (a:=Value.none) (by first | rfl | (simp only [firstArgMember]; rfl)) ?_);refine wpAny_newObj_type ?_ (by size_fits);simp only [raiseNew];refine wpAny_bind (wpAny_handled ?_);rw [show A.in1.handled=none from hh];refine wpAny_bind (wpAny_pure (wpAny_throw ?_));refine wpAny_bind (wpAny_isInstance (T := "StopIteration") (b:=true) ⟨_,Heap.get?_push_size _ rfl,rfl⟩ isSubtype_stop ?_);exact wpAny_pure (hQ _ (((Heap.SameBut.update ..).extBut.push _).push _))
theorem JY (hh:A.handled=none) (I d:Addr) (dY:d≠I) (es:Array DictEntry) (ep:Nat) :
  Walks prog w A I [I,d] [I] es.size (fun i v=>∃ e,es[i]?=some e/\v=e.key) (fun i h=>h.IsKeyIter I d i es.size ep/\jq h d es ep) where
 sub:=fun b hb=>by simp at hb; simp [hb]
 frame:=fun _ _ _ st hk=>⟨st.1.at fun o e=>hk I (by simp) o e,st.2.at' fun o e=>hk d (by simp) o e⟩
 item:=fun i s Q E hi st hQ=>Kg st.1 st.2 (fun b8 h' hit' hs'=>hQ _ h' s.toks ⟨es[i],by simp [b8],rfl⟩ ⟨hit',st.2.at' fun o e=>hs'.extBut d o dY e⟩ fun b o hb e=>hs'.extBut b o (fun h=>hb (by simp [h])) e) fun xY=>absurd hi (Nat.not_lt.mpr xY)
 done:=fun s Q E st hQ=>Kg st.1 st.2 (fun b8=>absurd b8 (Nat.lt_irrefl _)) fun _=>⟨hh,fun h' he'=>hQ h' s.toks fun b o hb e=>he' b o (fun h=>hb (by simp [h])) e⟩
 self:=fun _ _ _ _ st hQ=>wpAny_pyIter_keyiter st.1 hQ
end
section
variable {X:Cx}
def Co (te:TE):TE:=fun σ H Q=>te σ H fun x H1=>∃ a kvs,x=.ref a/\H1 a=some (.dT kvs)/\((kvs=[]/\Q .au H1)\/∃ k v,kvs=[(k,v)]/\∀ p,H1 p=some (.tup (k.map kV))->Q (.ref p) H1)
theorem Xg (hc:X.calm=true) (hg:Gl X "min") (hm:X.mg "min" = none) (he:PE X e te) (hs:starEach [e] X.env=[(false,eval e X.env)]:=by rfl) :
  PE X (.Call (.Name "min" p) [e] [⟨some "default",.Constant .none j p2,p3⟩] pos) (Co te):=by
 intro pins s σ H Q I h;refine wpAny_Call_Name_kw (nY (u:=.builtin "min") I hg hm (by kernel_rfl) ?_);refine callWith_kw ?_ (by rw [hs]; rfl) (by rw [hs]; rfl);rw [hs];show wpAny _ _ (spliced ((false,eval e X.env)::backTo pos [])) _ _ s;refine Calls.spliced_cons (aD (he pins s σ H _ I h) fun u s1 ⟨x,H1,I1,rx,a,kvs,ex,hd,q⟩=>Calls.spliced_nil ?_);subst ex;cases (show u=Value.ref a from rx);refine kws_cons (Constant_none (kws_nil ?_));show wpAny _ _ (call (.builtin "min") [.ref a] [("default",.none)]) _ _ s1;obtain ⟨hz,hS,xs,hp,o,es,ep,ho,hex,iG,oq,LO⟩:=id (I1.aB a _ hd);refine RZ (JG hS ⟨o,ho,hex,iG⟩ ?_);have b8:a < s1.heap.objs.size:=Heap.lt_size ho;have hW:=JY (prog:=X.prog) (w:=X.w) (A:=X.A.in1) (I1.ok.hd hc) s1.heap.objs.size a (Nat.ne_of_lt b8) es ep;have yi:(s1.heap.push { cls:=.type "dict_keyiterator",data:=.fields #[.ref a,.int 0 0,.int es.size 0,.int ep 0] }).IsKeyIter s1.heap.objs.size a 0 es.size ep/\jq (s1.heap.push { cls:=.type "dict_keyiterator",data:=.fields #[.ref a,.int 0 0,.int es.size 0,.int ep 0] }) a es ep :=
  ⟨⟨_,Heap.get?_push_size _ rfl,rfl,rfl⟩,⟨o,Heap.get?_push_of_some _ ho,hex,iG⟩⟩
 have Eo:∀ b∈[s1.heap.objs.size,a],b < (s1.heap.push { cls:=.type "dict_keyiterator",data:=.fields #[.ref a,.int 0 0,.int es.size 0,.int ep 0] }).objs.size:=fun b hb=>by
  rw [Heap.size_push];rcases List.mem_cons.mp hb with e | hb
  ·rw [e]; exact Nat.lt_succ_self _
  ·rw [List.mem_singleton.mp hb]; exact Nat.lt_succ_of_lt b8
 have kp:∀ h':Heap,(∀ b o,b ∉ [s1.heap.objs.size]->(s1.heap.push { cls:=.type "dict_keyiterator",data:=.fields #[.ref a,.int 0 0,.int es.size 0,.int ep 0] }).get? b=some o->h'.get? b=some o)->∀ b o,s1.heap.get? b=some o->h'.get? b=some o:=fun h' k b o e =>
  k b o (fun z=>by have z':=List.mem_singleton.mp z; have:=Heap.lt_size e; rw [z'] at this; exact Nat.lt_irrefl _ this) (Heap.get?_push_of_some _ e)
 have hsz:es.size=xs.length:=by rw [<- Array.length_toList,oq,List.length_map]
 refine ⟨_,_,_,_,_,_,rfl,hW,yi,Eo,?_,fun v h' tk hv hk=>?_⟩
 ·rcases q with ⟨rfl,_⟩ | ⟨k,v,rfl,_⟩
  ·cases hp; rw [hsz]; exact Nat.zero_le _
  ·cases hp with | cons _ t=>cases t; rw [hsz]; exact Nat.le_refl _
 ·have I2:Inv X pins σ H1 { s1 with heap:=h',toks:=tk }:=I1.kept (t':=tk) (kp h' hk);rcases q with ⟨rfl,q⟩ | ⟨k,v',rfl,q⟩
  ·cases hp;rcases hv with ⟨_,rfl⟩ | ⟨h1,_⟩
   ·exact ⟨.au,H1,I2,rfl,q⟩
   ·rw [hsz] at h1; cases h1
  ·cases hp with
   | @cons _ y _ _ hh t =>
    cases t;rcases hv with ⟨h1,_⟩ | ⟨_,e,he,rfl⟩
    ·rw [hsz] at h1; cases h1
    ·rw [<- Array.getElem?_toList,oq] at he;cases he;exact ⟨.ref y.2.1,H1,I2,rfl,q _ hh.2.1⟩
end
theorem cf (h:fs.length<=m):(ay f v fs).length<=m+1:=Nat.le_trans (C2 f v fs) (Nat.succ_le_succ h)
def cZ (fs gs:List (Str×V)):Prop:=∀ f,fs.lookup f=gs.lookup f
theorem cZ.refl (fs:List (Str×V)):cZ fs fs:=fun _=>rfl
theorem cZ.put (h:cZ fs gs) (f:Str) (v:V):cZ (ay f v fs) (ay f v gs):=fun g=>by rw [eB,eB,h g]
section
variable {X:Cx}
theorem Wh (hc:X.calm=true) (I:Inv X pins σ H s) (hd:H p=some (.dT [])) (q:∀ l,H l=none->Q (.ref l) (upd H l (.lst []))) :
  wpAny (model X.prog X.w) X.A (call (.builtin "sorted") [.ref p]) (EP X pins σ Q) X.xe s:=by
 obtain ⟨hz,hS,xs,hp,o,es,ep,ho,hex,iG,oq,LO⟩:=id (I.aB p _ hd);cases hp;have he:es=#[]:=by
  have:es.toList=[]:=oq;exact Array.toList_eq_nil_iff.mp this
 subst he;have jT:s.heap.DictAt (eK X.prog X.w) p [] ep:=⟨o,#[],ho,hex,iG,fun e z=>absurd z (by simp),.nil,.nil⟩;refine Calls.call_function_entry kind_sorted plain_sorted entry_sorted (args_sorted1 _) ?_;unfold Builtin.«sorted»;refine wpAny_bind (m:=checkCount "sorted" 1 1 _) (wpAny_pure ?_);refine wpAny_bind (PySem.W.kdu_collect (A:=X.A.in1) (PySem.W.kdl_dict (knd:=eK X.prog X.w) (kvs:=[]) (ep:=ep) hS) (I.ok.hd hc) jT (Nat.zero_le _) fun h' tk acc hk' gC=>?_);have ha:acc=#[]:=Array.eq_empty_of_size_eq_zero gC.1;subst ha;refine wpAny_bind (wpAny_newList ?_ (Nat.zero_le _));have lq:(h'.push (seqObj "list" ([]:List Value).toArray 0)).get? h'.objs.size=some (seqObj "list" ([]:List Value).toArray 0):=Heap.get?_push_size _ rfl;refine wpAny_bind (wpAny_holding (wpAny_call_entry slot_list_sort ⟨_,lq,rfl⟩ entry_list_sort (list_sort_treeK strKind_oneLt (vs:=[]) lq (StrsAre.nil).keysOf (fun v₁ v₂ rest e=>nomatch e) (by decide) fun st' a1 a2=>⟨_,rfl,?_⟩) (args_list_sort _)));refine wpAny_pure ⟨_,rfl,?_⟩;obtain ⟨e,he⟩:=sortedHeap_at (out:=(arrOf st').map (·.2)) lq;have aO:arrOf st'=#[]:=Array.eq_empty_of_size_eq_zero (a1.size_eq.trans (pairsOf_size []));rw [aO,Array.map_empty] at he;have I1:Inv X pins σ H { s with heap:=h',toks:=tk }:=I.kept (t':=tk) hk';rw [aO,Array.map_empty];refine ⟨.ref h'.objs.size,_,I1.laid (t':=tk) (fun b o z=>?_) (Nat.le_refl _) (show b9 X.prog X.w _ _ _ (.lst []) from ⟨Nat.zero_le _,[],e,.nil,he⟩),rfl,q _ (I1.aB.fresh (Nat.le_refl _))⟩;have hb:b < h'.objs.size:=Heap.lt_size z;rw [sortedHeap_old (Nat.ne_of_lt hb) (by have:=Heap.size_push h' (seqObj "list" ([]:List Value).toArray 0); rw [this]; exact Nat.lt_succ_of_lt hb)];exact Heap.get?_push_of_some _ z
def YW (K:PySem.W.Frag):List V->Hp->VK->Prop:=fun xs H Q=>Ji K xs H Q\/IK xs H Q\/∃ p,xs=[.ref p]/\H p=some (.dT [])/\∀ l,H l=none->Q (.ref l) (upd H l (.lst []))
theorem NY {K:PySem.W.Frag} (h:X.K=K) (hc:X.calm=true):cI X (.builtin "sorted") (YW K):=by
 subst h;intro pins s σ H xs us Q I r h;rcases h with h | h | ⟨p,rfl,hd,q⟩
 ·exact WL pins s σ H xs us Q I r h
 ·exact Wo hc pins s σ H xs us Q I r h
 ·obtain ⟨u,rfl,rx⟩:=vals1 r;cases rx;exact Wh hc I hd q
theorem O0:bootBuiltins "sorted" = some (.builtin "sorted"):=by kernel_rfl
theorem Dv.minD (hc:X.calm=true) (hm:X.mg "min" = none) (he:QE X e te) (hg:Gl X "min" := by rfl) (hs:starEach [e] X.env=[(false,eval e X.env)]:=by rfl) :
  QE X (.Call (.Name "min" p) [e] [⟨some "default",.Constant .none j p2,p3⟩] pos) (Co te):=⟨Xg hc hg hm he.h hs⟩
end
structure jL (K:PySem.W.Frag) (x qual:Str) (st:Stmt) (f:Addr) (fd:FuncData) (ds:List Value):Prop where
 ex:∃ (oc:Value) (od:Option Addr) (dt:Addr) (kV doc pm:Value) (an:Option Addr) (aw ct:Value) (dW:Array (Option Value)) (o:Obj) (n:Nat),
  fd=PySem.W.fnOf x qual (eZ st) (aV st) (aA st) (.ref dt) kV doc pm an aw ct/\K.lookup f=some ⟨oc,od,.func fd,dW⟩/\PySem.W.codeIn K aw qual=true/\K.lookup dt=some o/\o.data=.seq ds.toArray n
 kp:PySem.W.keepIn K (.ref f)=true
section
variable {P:Program} {w:World} {K:PySem.W.Frag} {mg:Str->Option Value} {base:Heap} {CX:eT} {x qual:Str} {st:Stmt} {f:Addr} {fd:FuncData} {N ps:List Str} {k:Nat} {ds:List Value}
theorem jL.dP (F:jL K x qual st f fd ds) (S:aE N ps (aA st)) (len:∀ vs H Q E,sp vs H Q E->vs.length=ps.length)
  (hb:∀ (aw:Value) (A:Around) (outer:List Env) (s:Shared) (H:Hp) (vs:List V) (Q:VK) (E:XK),bH k (A.deeper (envOfC qual (aA st) s.heap.objs.size f aw))->sp vs H Q E ->
   ∃ t,dE (gU CX P w K mg base N qual (aA st) f aw A outer s H E) (aV st) t/\t { nx:=fun _ H'=>Q .au H',rt:=Q } (start N vs) H):az P w K mg base CX (k+1) f fd ps sp:=by
 obtain ⟨oc,od,dt,kV,doc,pm,an,aw,ct,dW,o,n,rfl,lk,dj,_⟩:=F.ex;exact Cv lk dj S len fun A outer s H vs Q E hr gH=>hb aw A outer s H vs Q E hr gH
theorem jL.ok (F:jL K x qual st f fd ds) (S:aE N ps (aA st)) (len:∀ vs H Q E,sp vs H Q E->vs.length=ps.length)
  (hb:∀ (aw:Value) (A:Around) (outer:List Env) (s:Shared) (H:Hp) (vs:List V) (Q:VK) (E:XK),bH k (A.deeper (envOfC qual (aA st) s.heap.objs.size f aw))->sp vs H Q E ->
   ∃ t,dE (gU aJ P w K mg base N qual (aA st) f aw A outer s H E).pz (aV st) t/\t { nx:=fun _ H'=>Q .au H',rt:=Q } (start N vs) H):az P w K mg base aJ (k+1) f fd ps sp :=
 F.dP S len fun aw A outer s H vs Q E hr gH=>by
  obtain ⟨t,h,q⟩:=hb aw A outer s H vs Q E hr gH;exact ⟨t,h.pz,q⟩
theorem V6 {oc:Value} {od an:Option Addr} {dW:Array (Option Value)} {kV doc pm aw ct:Value} {dt:Addr} {o:Obj} {n:Nat} (l:K.lookup f=some ⟨oc,od,.func (PySem.W.fnOf x qual (eZ st) (aV st) (aA st) (.ref dt) kV doc pm an aw ct),dW⟩)
  (c:PySem.W.codeIn K aw qual=true) (k:PySem.W.keepIn K (.ref f)=true) (ld:K.lookup dt=some o) (hd:o.data=.seq ds.toArray n):jL K x qual st f (PySem.W.fnOf x qual (eZ st) (aV st) (aA st) (.ref dt) kV doc pm an aw ct) ds :=
 ⟨⟨oc,od,dt,kV,doc,pm,an,aw,ct,dW,o,n,rfl,l,c,ld,hd⟩,k⟩
end
section
variable {X:Cx}
end
theorem fW {X:Cx}:lU X (fun _=>E0) where
 pass:=fun pins σ H s e s' I hc=>by
  obtain ⟨ea,C,od,H',rfl,F,hE⟩:=hc;exact hE.elim
section
variable {X:Cx}
end
def iL {α:Type} (p:α->Prop):List α->Prop
 | []=>True
 | a::r=>p a/\iL p r
theorem iL.mem {α:Type} {p:α->Prop}:∀ {l:List α},iL p l->∀ a∈l,p a
 | _::_,h,a,ha=>by
  rcases List.mem_cons.mp ha with rfl | ha
  ·exact h.1
  ·exact iL.mem h.2 a ha
section
variable {X:Cx}
theorem wJ (I:Inv X pins σ H s) (ha:aC X.K H a xs) (hb:aC X.K H b ys) (h0:xs=[]\/ys=[]) (hu:A.units < cLine) :
  SeqAt.RcAt A s (.ref a) (.ref b) (decide (xs=ys))/\SeqAt.RcNeAt A s (.ref a) (.ref b) (!decide (xs=ys)):=by
 obtain ⟨i1,r1,p1,_⟩:=I.list ha;obtain ⟨i2,r2,p2,_⟩:=I.list hb;have n1:i1.toArray.size=xs.length:=by rw [List.size_toArray,<- r1.length]
 have n2:i2.toArray.size=ys.length:=by rw [List.size_toArray,<- r2.length]
 by_cases h:xs.length=ys.length
 ·have e1:xs=[]:=by
   rcases h0 with e | e
   ·exact e
   ·rw [e] at h; exact List.length_eq_zero_iff.mp h
  have e2:ys=[]:=by rw [e1] at h; exact List.length_eq_zero_iff.mp h.symm
  subst e1 e2;have hsz:i1.toArray.size=i2.toArray.size:=by rw [n1,n2]
  have hz:i1.toArray.size=0:=n1;have k1:=SeqAt.RcAt.lists (A:=A) (s:=s) (e:=fun _=>true) p1.isList p2.isList hsz hu (fun j g1 g2=>absurd g1 (by rw [hz]; exact Nat.not_lt_zero _));have k2:=SeqAt.RcNeAt.lists (A:=A) (s:=s) (e:=fun _=>true) p1.isList p2.isList hsz hu (fun j g1 g2=>absurd g1 (by rw [hz]; exact Nat.not_lt_zero _));rw [hz] at k1 k2;exact ⟨k1,k2⟩
 ·have hsz:(i1.toArray.size != i2.toArray.size)=true:=by rw [n1,n2]; simpa using h
  have e:decide (xs=ys)=false:=decide_eq_false fun z=>h (by rw [z]);rw [e];exact ⟨SeqAt.RcAt.lists_lengths p1.isList p2.isList hsz hu,SeqAt.RcNeAt.lists_lengths p1.isList p2.isList hsz hu⟩
def qz (K:PySem.W.Frag) (neg:Bool):R2:=fun x y H Q=>match x,y with
 | .ref a,.ref b=>∃ xs ys:List V,aC K H a xs/\aC K H b ys/\((ys=[]/\Q (.bl (neg ^^ xs.isEmpty)) H)\/(xs=[]/\Q (.bl (neg ^^ ys.isEmpty)) H))
 | _,_=>False
theorem IS {xs ys:List V} (h:ys=[]):decide (xs=ys)=xs.isEmpty:=by subst h; cases xs <;> simp
theorem Il {xs ys:List V} (h:xs=[]):decide (xs=ys)=ys.isEmpty:=by subst h; cases ys <;> simp
theorem WQ {K:PySem.W.Frag} (hK:X.K=K) (hu:X.A.units < cLine):bg X (compareOp .Eq) (qz K false):=by
 subst hK;intro pins s σ H x y v u Q I rx ry h;unfold qz at h;split at h
 ·obtain ⟨xs,ys,ha,hb,q⟩:=h;cases rx; cases ry;simp only [Bool.false_bne] at q;rcases q with ⟨e,q⟩ | ⟨e,q⟩
  ·exact (wJ I ha hb (.inr e) hu).1 _ _ _ _ ⟨.bl _,H,I,rfl,by rw [IS e]; exact q⟩
  ·exact (wJ I ha hb (.inl e) hu).1 _ _ _ _ ⟨.bl _,H,I,rfl,by rw [Il e]; exact q⟩
 ·exact h.elim
theorem Wt {K:PySem.W.Frag} (hK:X.K=K) (hu:X.A.units < cLine):bg X (compareOp .NotEq) (qz K true):=by
 subst hK;intro pins s σ H x y v u Q I rx ry h;unfold qz at h;split at h
 ·obtain ⟨xs,ys,ha,hb,q⟩:=h;cases rx; cases ry;simp only [Bool.true_bne] at q;rcases q with ⟨e,q⟩ | ⟨e,q⟩
  ·exact (wJ I ha hb (.inr e) hu).2 _ _ _ _ ⟨.bl _,H,I,rfl,by rw [IS e]; exact q⟩
  ·exact (wJ I ha hb (.inl e) hu).2 _ _ _ _ ⟨.bl _,H,I,rfl,by rw [Il e]; exact q⟩
 ·exact h.elim
def A0:V->List V->Hp->VK->Prop:=fun x vs H Q=>match x,vs with
 | .ref l,[]=>∃ xs y,H l=some (.lst (xs++[y]))/\Q y (upd H l (.lst xs))
 | _,_=>False
theorem HK:cT X "list.pop" A0:=cT.imp (r:=GY) OP fun x vs H Q h=>by
 unfold A0 at h;split at h
 ·obtain ⟨xs,y,hl,q⟩:=h;refine ⟨_,xs++[y],y,rfl,rfl,hl,?_,?_⟩
  ·simp
  ·rw [List.dropLast_concat]; exact q
 ·exact h.elim
def UX:List V->Hp->VK->Prop:=fun xs H Q=>∃ p kvs,xs=[.ref p]/\H p=some (.dT kvs)/\∀ l (ks:List Addr),ks.length=kvs.length->(∀ (i:Nat) (a:Addr) (k:List Key) (v:V),ks[i]?=some a->kvs[i]?=some (k,v)->H a=some (.tup (k.map kV)))->H l=none ->
 Q (.ref l) (upd H l (.lst (ks.map V.ref)))
end
theorem Oh (lo:(d == sysModules)=false):PySem.W.KdlSrc prog w "dict" d d es.size (fun i v=>∃ e,es[i]?=some e/\v=e.key) (fun h=>jq h d es ep) where
 type:=fun _ hm=>hm.typeIs
 there:=fun _ hm=>let ⟨_,e,_⟩:=hm; ⟨Heap.lt_size e,Heap.lt_size e⟩
 keep:=fun _ _ hm hk=>hm.at' fun o e=>hk d (.inl rfl) o e
 notList:=by decide
 notTuple:=by decide
 hint:=fun _ _ _ _ hm hq=>PySem.W.kdl_hint_dict hm.typeIs hq
 iter:=fun _ _ hh hm=>⟨_,_,(fun _ _ hq=>JG lo hm hq),JY hh _ d (let ⟨_,e,_⟩:=hm; Nat.ne_of_lt (Heap.lt_size e)) es ep,⟨⟨_,Heap.get?_push_size _ rfl,rfl,rfl⟩,hm.at' fun o e=>Heap.get?_push_of_some _ e⟩⟩
theorem Kw {α β:Type} {F:α->β->Prop}:∀ {l₁:List α} {l₂:List β},Paired F l₁ l₂->∀ {i:Nat} {a:α} {b:β},l₁[i]?=some a->l₂[i]?=some b->F a b
 | _,_,.cons h _,0,_,_,e1,e2=>by cases e1; cases e2; exact h
 | _,_,.cons _ t,i+1,_,_,e1,e2=>Kw t e1 e2
section
variable {X:Cx}
theorem Ba:∀ {vs:List V} {us:List Value},vs.length=us.length->(∀ (i:Nat) (v:V) (u:Value),vs[i]?=some v->us[i]?=some u->RelV v u)->Vals vs us
 | [],[],_,_=>.nil
 | v::vs,u::us,e,h=>.cons (h 0 v u rfl rfl) (Ba (by simpa using e) fun i v u h1 h2=>h (i+1) v u h1 h2)
theorem O7 (hc:X.calm=true):cI X (.type "list") UX:=by
 intro pins s σ H xs us Q I r h;obtain ⟨p,kvs,rfl,hd,q⟩:=h;obtain ⟨u,rfl,rx⟩:=vals1 r;cases rx;obtain ⟨hz,hS,ys,hp,o,es,ep,ho,hex,iG,oq,LO⟩:=id (I.aB p _ hd);have hsz:es.size=ys.length:=by rw [<- Array.length_toList,oq,List.length_map]
 have i9:kvs.length=ys.length:=hp.length;refine PySem.W.kdl_call (Oh (prog:=X.prog) (w:=X.w) (ep:=ep) (es:=es) hS) (I.ok.hd hc) ⟨o,ho,hex,iG⟩ (by rw [hsz,<- i9]; exact hz) fun h' tk acc c hk hD gC=>?_;have hal:acc.toList.length=ys.length:=by rw [Array.length_toList,gC.1,hsz]
 have hv:Vals ((ys.map (·.2.1)).map V.ref) acc.toList:=by
  refine Ba (by simp [hal]) fun i v u h1 h2=>?_;obtain ⟨e,he,rfl⟩:=gC.2 i u (by rw [<- Array.getElem?_toList]; exact h2);rw [<- Array.getElem?_toList,oq,List.getElem?_map] at he;rw [List.map_map,List.getElem?_map] at h1;cases hy:ys[i]? with
  | none=>rw [hy] at h1; cases h1
  | some y =>
   rw [hy] at h1 he;cases h1; cases he;exact rfl
 refine ⟨.ref s.heap.objs.size,_,I.laid (t':=tk) hk (Nat.le_refl _) (show b9 X.prog X.w _ _ _ (.lst ((ys.map (·.2.1)).map V.ref)) from ⟨?_,_,c,hv,?_⟩),rfl,q _ (ys.map (·.2.1)) ?_ (fun i a k v h1 h2=>?_) (I.aB.fresh (Nat.le_refl _))⟩
 ·simp only [List.length_map]; rw [<- i9]; exact hz
 ·rw [Array.toArray_toList]; exact hD
 ·rw [List.length_map,i9]
 ·rw [List.getElem?_map] at h1;cases hy:ys[i]? with
  | none=>rw [hy] at h1; cases h1
  | some y =>
   rw [hy] at h1;cases h1;have z:=Kw hp h2 hy;exact z.2.1
end
theorem YH:typeLookup (.type "list_reverseiterator") "__len__" = pure none:=by rw [typeLookup_type,builtinLookup_eq_fast]; kernel_rfl
theorem U9:typeLookup (.type "list_reverseiterator") "__length_hint__" = pure (some (.builtin "list_reverseiterator.__length_hint__")):=by rw [typeLookup_type,builtinLookup_eq_fast]; kernel_rfl
section
variable {prog:Program} {w:World} {A:Around} {E:Value->Shared->Prop} {s:Shared} {I:Addr}
theorem ZL (hT:s.TypeIs (.ref I) "list_reverseiterator") (h:Q false s):wpAny (model prog w) A (Builtin.List.listLengthHint (.ref I)) Q E s:=by
 unfold Builtin.List.listLengthHint;refine wpAny_bind (wpAny_specialOf hT YH ?_);show wpAny _ A (specialOf (Value.ref I) (Str.ofString "__length_hint__") >>= _) _ _ _;refine wpAny_bind (wpAny_specialOf hT U9 ?_);generalize hid:("list_reverseiterator.__length_hint__" : String)=id0
 wp_delta
 rw [show splitId id0=some ("list_reverseiterator","__length_hint__") from by subst hid; decide +kernel];subst hid;refine wpAny_bind (wpAny_isInstance (T := "list_reverseiterator") (b:=true) hT (by rw [isSubtype_type]; kernel_rfl) ?_);refine wpAny_ite_split (fun fK=>absurd fK (by decide)) (fun _=>?_);refine wpAny_ite_split (fun _=>?_) (fun fK=>absurd (by decide +kernel) fK);refine wpAny_ite_split (fun fK=>absurd fK (by decide +kernel)) (fun _=>?_);exact wpAny_pure h
theorem QN (hh:A.handled=none) (hit:s.heap.IsRevIter I l ((items.size:Int) - 1)) (hl:s.heap.IsList l items) (dY:l≠I) (LX:S≠I) (hSl:S≠l) (hn:items.size<=sizeLine)
  (hS:s.heap.get? S=some { cls:=.type "list",data:=.seq #[] c₀ })
  (hR:∀ h' tk acc' c',(∀ b o,b≠S->b≠I->s.heap.get? b=some o->h'.get? b=some o)->h'.get? S=some { cls:=.type "list",dict:=none,data:=.seq acc' c',slots:=#[] }->ItemsOf (fun i v=>items[items.size - 1 - i]?=some v) acc' items.size->R (.ok (.ret res)) { s with heap:=h',toks:=tk }) :
  wpAny (model prog w) A.in1 (Builtin.List.listExtendWith (.ref S) (.ref I) res)
   (fun fin s'=>match fin with | .done f=>R (.ok f) s' | .again c'=>c'.quiet=true/\codeAny (model prog w) A c' R s') (fun e s'=>R (.error e) s') s:=by
 have W:=Walks.listRev (prog:=prog) (w:=w) (A:=A.in1) hh I l dY items;have qR:S ∉ [I,l]:=by simp only [List.mem_cons,List.not_mem_nil,or_false,not_or]; exact ⟨LX,hSl⟩
 have yi:0<=items.size/\s.heap.IsRevIter I l ((items.size:Int) - 1 - ((0:Nat):Int))/\s.heap.IsList l items:=⟨Nat.zero_le _,by simpa using hit,hl⟩;unfold Builtin.List.listExtendWith;refine wpAny_bind (wpAny_typeOf hit.typeIs ?_);have h1:Builtin.List.listSameRef (.ref S) (.ref I)=false:=by simp [Builtin.List.listSameRef,LX]
 simp only [h1,show (Value.type "list_reverseiterator" == Value.type "list")=false by decide,show (Value.type "list_reverseiterator" == Value.type "tuple")=false by decide,Bool.or_false,Bool.false_eq_true,if_false];refine wpAny_bind (W.self 0 _ _ _ yi ?_);refine wpAny_bind (wpAny_holding (ZL hit.typeIs ?_));refine wpAny_ite_split (fun h=>absurd h (by decide)) (fun _=>wpAny_pure ⟨plainId_quiet PySem.F.plain_extend_loop _,?_⟩);refine codeAny_extend_loopS W.toS hn S qR res items.size 0 _ #[] c₀ rfl (Nat.zero_le _) yi hS (ItemsOf.nil _) fun s' acc' c' hm hS' gC=>?_;rw [Moved.eq_with hm];refine hR s'.heap s'.toks acc' c' (fun b o hb hb' e=>hm.heap b o (fun hmem=>?_) e) hS' gC;rcases List.mem_cons.mp hmem with e' | hmem
 ·exact hb e'
 ·exact hb' (List.mem_singleton.mp hmem)
theorem To (hh:A.handled=none) (hit:s.heap.IsRevIter I l ((items.size:Int) - 1)) (hl:s.heap.IsList l items) (dY:l≠I) (hn:items.size<=sizeLine)
  (hQ:∀ h' tk acc' c',(∀ b o,b≠I->s.heap.get? b=some o->h'.get? b=some o)->h'.get? s.heap.objs.size=some { cls:=.type "list",dict:=none,data:=.seq acc' c',slots:=#[] }->ItemsOf (fun i v=>items[items.size - 1 - i]?=some v) acc' items.size ->
   Q (.ref s.heap.objs.size) { s with heap:=h',toks:=tk }):wpAny (model prog w) A (call (.type "list") [.ref I]) Q E s:=by
 have hIlt:I < s.heap.objs.size:=let ⟨_,e,_⟩:=hit; Heap.lt_size e
 have hllt:l < s.heap.objs.size:=let ⟨_,e,_⟩:=hl; Heap.lt_size e
 refine callType_codes (Q₁:=fun obj s₁=>obj=.ref s.heap.objs.size/\s₁={ s with heap:=s.heap.push { cls:=.type "list",data:=.seq #[] } }) PySem.F.called_list (PySem.F.typeCall_list_1 _) PySem.F.entry_list_init
  (code_list_new _ ⟨rfl,rfl⟩) fun obj s₁ h₁=>?_
 obtain ⟨rfl,rfl⟩:=h₁;have hS:(s.heap.push { cls:=.type "list",data:=.seq #[] }).get? s.heap.objs.size=some { cls:=.type "list",data:=.seq #[] }:=Heap.get?_push_size _ rfl;refine ⟨⟨_,hS,rfl⟩,PySem.F.args_list_init_2 _ _,?_⟩;show wpAny _ _ (do let old <- Builtin.List.listItems (.ref s.heap.objs.size); Builtin.List.listUpdate (.ref s.heap.objs.size) (fun _=>#[]); letGo old.toList.reverse; Builtin.List.listExtendWith (.ref s.heap.objs.size) (.ref I) .none) _ _ _;refine wpAny_bind ?_;unfold Builtin.List.listItems;refine wpAny_bind (wpAny_seqItems hS rfl (wpAny_pure ?_));show wpAny _ _ (updateSeq s.heap.objs.size (fun _=>#[]) >>= fun _=>letGo (#[]:Array Value).toList.reverse >>= fun _=>Builtin.List.listExtendWith (.ref s.heap.objs.size) (.ref I) .none) _ _ _;refine wpAny_bind (wpAny_updateSeq hS rfl ?_);have hS₂:=Heap.get?_update_self (Obj.mapSeq (fun _=>(#[]:Array Value))) hS rfl;have D7:∀ b o,s.heap.get? b=some o->((s.heap.push { cls:=.type "list",data:=.seq #[] }).update s.heap.objs.size (Obj.mapSeq (fun _=>(#[]:Array Value)))).get? b=some o :=
  fun b o e=>(Heap.get?_update_other _ _ (Nat.ne_of_gt (Heap.lt_size e))).trans (Heap.get?_push_of_some _ e)
 refine wpAny_bind (wpAny_letGo ?_);refine QN (A:=A.in1) hh (hit.at fun o e=>D7 _ o e) (hl.at fun o e=>D7 _ o e) dY (Nat.ne_of_gt hIlt) (Nat.ne_of_gt hllt) hn hS₂ fun h' tk acc' c' hk hS' gC=>?_;exact ⟨rfl,hQ h' tk acc' c' (fun b o hb e=>hk b o (Nat.ne_of_lt (Heap.lt_size e)) hb (D7 b o e)) hS' gC⟩
end
section
variable {X:Cx}
def yB (K:PySem.W.Frag) (te:TE):TE:=fun σ H Q=>te σ H fun x H1=>∃ p ys,x=.ref p/\aC K H1 p ys/\∀ l,H1 l=none->Q (.ref l) (upd H1 l (.lst ys.reverse))
theorem Xc (hc:X.calm=true) (hg:Gl X "list") (hm:X.mg "list" = none) (Eh:Gl X "reversed") (mW:X.mg "reversed" = none) (he:PE X e te) (hs:starEach [e] X.env=[(false,eval e X.env)]:=by rfl) :
  PE X (.Call (.Name "list" p) [.Call (.Name "reversed" q) [e] [] qos] [] pos) (yB X.K te):=by
 intro pins s σ H Q I h;refine wpAny_Call_Name_kw (nY (u:=.type "list") I hg hm (by kernel_rfl) ?_);refine PyProof.Rows.callWith_type1 ?_;show wpAny _ _ (spliced ((false,eval (.Call (.Name "reversed" q) [e] [] qos) X.env)::backTo pos (starEach [] X.env))) _ _ s;refine Calls.spliced_cons ?_;refine wpAny_Call_Name_kw (nY (u:=.type "reversed") I Eh mW (by kernel_rfl) ?_);refine PyProof.Rows.callWith_type1 ?_ (by rw [hs]; rfl) (by rfl);rw [hs];show wpAny _ _ (spliced ((false,eval e X.env)::backTo qos [])) _ _ s;refine Calls.spliced_cons (aD (he pins s σ H _ I h) fun u s1 ⟨x,H1,I1,rx,a,ys,ex,hl,q⟩=>Calls.spliced_nil ?_);subst ex;cases (show u=Value.ref a from rx);obtain ⟨ao,r',pl,hz⟩:=I1.list hl;have hlen:=r'.length;obtain ⟨oa,hoa,_⟩:=pl.isList;have halt:a < s1.heap.objs.size:=Heap.lt_size hoa;refine call_reversed_list pl.isList ?_;refine Calls.spliced_nil ?_;refine To (I1.ok.hd hc) (l:=a) (items:=ao.toArray) ⟨_,Heap.get?_push_size _ rfl,rfl,rfl⟩ (pl.isList.at fun o e=>Heap.get?_push_of_some _ e) (Nat.ne_of_lt halt) (by rw [List.size_toArray,<- hlen]; exact hz) fun h' tk acc c hk hD gC=>?_;have kp:∀ b o,s1.heap.get? b=some o->h'.get? b=some o:=fun b o e=>hk b o (Nat.ne_of_lt (Heap.lt_size e)) (Heap.get?_push_of_some _ e);have hsz:s1.heap.objs.size<=(s1.heap.push (revObj a ((ao.toArray.size:Int) - 1))).objs.size:=by rw [Heap.size_push]; exact Nat.le_succ _
 have hv:Vals ys.reverse acc.toList:=by
  have ha:acc.size=ao.length:=by rw [gC.1,List.size_toArray]
  refine Ba (by rw [List.length_reverse,hlen,<- ha]; exact Array.length_toList.symm) fun i v u h1 h2=>?_;have hu:=gC.2 i u (by rw [<- Array.getElem?_toList]; exact h2);have hi:i < ys.length:=by have:=(List.getElem?_eq_some_iff.mp h1).1; rwa [List.length_reverse] at this
  rw [List.getElem?_reverse hi] at h1;obtain ⟨w,hw,rw'⟩:=r'.get h1;rw [List.getElem?_toArray,List.size_toArray,<- hlen,hw] at hu;cases hu;exact rw'
 refine ⟨.ref _,_,I1.laid (t':=tk) kp hsz (show b9 X.prog X.w _ _ _ (.lst ys.reverse) from ⟨by rw [List.length_reverse]; exact hz,_,c,hv,by rw [Array.toArray_toList]; exact hD⟩),rfl,q _ (I1.aB.fresh hsz)⟩
theorem Dv.listRev {e:Expr} {te:TE} {p q pos qos:Pos} {K:PySem.W.Frag} (hK:X.K=K) (hc:X.calm=true) (hm:X.mg "list" = none) (mW:X.mg "reversed" = none) (he:QE X e te) (hg:Gl X "list" := by rfl) (Eh:Gl X "reversed" := by rfl) (hs:starEach [e] X.env=[(false,eval e X.env)]:=by rfl) :
  QE X (.Call (.Name "list" p) [.Call (.Name "reversed" q) [e] [] qos] [] pos) (yB K te):=hK ▸ ⟨Xc hc hg hm Eh mW he.h hs⟩
end
theorem ZU {K:PySem.W.Frag} {x:Str} {f c P:Addr} {oc occ:Value} {od odc:Option Addr} {fd:FuncData} {sl slc:Array (Option Value)} {vs:Array Value} (n:PySem.W.nsIn K mainGlobals x=some (some (.ref f))) (l:K.lookup f=some ⟨oc,od,.func fd,sl⟩) (hc:fd.code=.ref c)
  (lc:K.lookup c=some ⟨occ,odc,.fields vs,slc⟩) (hv:vs[11]?=some (.ref P)):PySem.W.tabIn K x=some (c,P):=by
 unfold PySem.W.tabIn;simp only [n,l,hc,lc,hv]
def cD (X:Cx) (scope:Scope) (cl:List (Str×Addr)) (N:List Str) (s:Shared) (H:Hp) (ex:List Addr) (C:Addr):Cx :=
 { X with N:=N,s₀:=s,H₀:=H,env:=compEnvC scope cl C X.env,outer:=X.stack,stack:=X.stack,ex:=ex,fn:=fun _=>false,pn:=[],xe:=fun _ _=>False }
structure jy (X:Cx) (scope:Scope) (cl:List (Str×Addr)) (caps:List Str) (ix:List Nat):Prop where
 nX:closureFor scope X.env=pure cl
 sub:∀ x c,cl.lookup x=some c->X.env.cells.lookup x=some c
 has:∀ y,((relabel scope X.env).names.lookup y=some .cell\/(relabel scope X.env).names.lookup y=some .free)->∃ c,cl.lookup y=some c
 len:ix.length=caps.length
 at':∀ (i j:Nat),ix[i]?=some j->∃ x,caps[i]?=some x/\X.N[j]?=some x/\X.env.scope.names.lookup x=some .cell/\(relabel scope X.env).names.lookup x=some .cell/\cl.lookup x=X.env.cells.lookup x
theorem jy.of (nX:closureFor scope X.env=pure cl) (sub:iL (fun e:Str×Addr=>X.env.cells.lookup e.1=some e.2) cl)
  (has:iL (fun e:Str×NameKind=>(e.2=.cell\/e.2=.free)->∃ c,cl.lookup e.1=some c) (relabel scope X.env).names) (len:ix.length=caps.length)
  (at':iL (fun e:Nat×Str=>X.N[e.1]?=some e.2/\X.env.scope.names.lookup e.2=some .cell/\(relabel scope X.env).names.lookup e.2=some .cell/\cl.lookup e.2=X.env.cells.lookup e.2) (ix.zip caps)):jy X scope cl caps ix where
 nX:=nX
 sub:=fun x c h=>iL.mem sub _ (PySem.mem_of_lookup h)
 has:=fun y hy=>by
  rcases hy with h | h
  ·exact iL.mem has _ (PySem.mem_of_lookup h) (.inl rfl)
  ·exact iL.mem has _ (PySem.mem_of_lookup h) (.inr rfl)
 len:=len
 at':=fun i j h=>by
  have hi:=(List.getElem?_eq_some_iff.mp h).1;have hi':i < caps.length:=len ▸ hi;have hm:(j,caps[i])∈ix.zip caps:=by
   refine List.mem_iff_getElem?.mpr ⟨i,?_⟩;rw [List.getElem?_zip_eq_some];exact ⟨h,List.getElem?_eq_getElem hi'⟩
  have z:=iL.mem at' _ hm;exact ⟨caps[i],List.getElem?_eq_getElem hi',z⟩
def mh (n:Nat) (ix:List Nat) (wi:TI) (g:TG) (tt:TT) (te:TE):TE:=fun σ H Q=>∃ vs,Cr ix σ vs/\wi σ H fun J H1=>∃ W:Nat->List V->Nat->Hp->Prop,(∃ m,W 0 [] m H1)/\∀ i ys m H,W i ys m H ->
 ys.length<=sizeLine/\((J.stop i H/\∀ l,H l=none->Q (.ref l) (upd H l (.lst ys))) \/
  (J.go i H/\ys.length < sizeLine/\∀ y H',J.kO i H y H'->∀ σ0:St,σ0.length=n->g y (σ0++vs.map some) H' fun σ1 H1=>(∃ σ2:St,σ1=σ2++vs.map some/\σ2.length=n) /\
   tt σ1 H1 fun c H2=>if c=true then te σ1 H2 fun z H3=>∃ m',m' < m/\W (i+1) (ys++[z]) m' H3 else ∃ m',m' < m/\W (i+1) ys m' H2))
section
variable {X:Cx}
theorem Wa (I:Inv X pins σ H s) (CC:jy X scope cl caps ix) (hv:Cr ix σ vs) (hf:∀ b∈fp,kP X pins H b) (b8:∀ b∈fp,b < s.heap.objs.size)
  (hk:scope.kind=.function) (hC:s.heap.objs.size<=C)
  (lz:s4.os=s.os) (hgen:s4.gens=s.gens) (old:∀ b o,s.heap.get? b=some o->s4.heap.get? b=some o) (gP:s4.heap.Ns C m):Inv (cD X scope cl (TN++caps) s H fp C) [] ((TN.map fun _=>none)++vs.map some) H s4:=by
 refine ⟨⟨I.ok.mod,hk,I.ok.glob,I.ok.blt,hC,fun x y c e1 e2=>I.ok.inj x y c (CC.sub x c e1) (CC.sub y c e2),fun y hy=>CC.has y hy,fun _ _ e=>(by cases e),I.ok.hd,I.ok.frames,.inl rfl,fun b hb=>⟨Nat.ne_of_lt (Nat.lt_of_lt_of_le (b8 b hb) hC),fun x c e=>(hf b hb).2.2.2.2.1 x c (CC.sub x c e)⟩,
  fun b o e=>I.bs b o e,Nat.le_trans I.ok.iq I.sz,fun b o e hb=>?_,fun b hb hm=>?_,I.stack,I.vC⟩,
  lz,by rw [hgen]; exact I.bare,Un.kept old,⟨m,gP,fun i y v e1 e2 _=>?_⟩,fun x c e=>?_,I.aB.fresh hC,fun x c e=>I.fY x c (CC.sub x c e),fun p hp=>absurd (show p∈([]:List (Addr×Obj)) from hp) (by simp),I.aB.kept old,?_⟩
 ·rcases (hf b hb).2.2.2.1 with z | z
  ·exact I.ok.mr b o e z
  ·exact absurd (Nat.lt_of_lt_of_le (Nat.lt_of_lt_of_le (Heap.lt_size e) I.ok.iq) z) (Nat.lt_irrefl _)
 ·rcases List.mem_cons.mp (I.vO b hm) with z | z
  ·exact (hf b hb).2.1 z
  ·exact (hf b hb).2.2.1 z
 ·have e1':(TN++caps)[i]?=some y:=e1;have e2':((TN.map fun _=>(none:Option V))++vs.map some)[i]?=some (some v):=e2;by_cases hi:i < TN.length
  ·rw [List.getElem?_append_left (by simpa using hi),List.getElem?_map] at e2';cases h:TN[i]? <;> rw [h] at e2' <;> simp at e2'
  ·rw [List.getElem?_append_right (by omega)] at e1';rw [List.getElem?_append_right (by simpa using Nat.not_lt.mp hi),List.length_map,List.getElem?_map] at e2';have ev:vs[i - TN.length]?=some v:=by
    cases h:vs[i - TN.length]? with
    | none=>rw [h] at e2'; cases e2'
    | some a=>rw [h] at e2'; cases e2'; rfl
   have hlt':i - TN.length < ix.length:=by
    rw [<- hv.1]; exact (List.getElem?_eq_some_iff.mp ev).1
   obtain ⟨x,c1,c2,c3,c4,c5⟩:=CC.at' _ _ (List.getElem?_eq_getElem hlt');rw [e1'] at c1; cases c1;have hσ:=hv.2 _ _ v (List.getElem?_eq_getElem hlt') ev;obtain ⟨m0,_,hl⟩:=I.loc;obtain ⟨u,ru,lk⟩:=hl _ y v c2 hσ (.inr (.inl c3));rcases lk with ⟨k1,_⟩ | ⟨_,c,k2,o,k3,k4⟩
   ·have:X.env.scope.names.lookup y=some .local:=k1;rw [c3] at this; cases this
   ·exact ⟨u,ru,.inr ⟨.inl c4,c,by show cl.lookup y=some c; rw [c5]; exact k2,o,old _ _ k3,k4⟩⟩
 ·obtain ⟨v,o,e1,e2⟩:=I.cell x c (CC.sub x c e);exact ⟨v,o,old _ _ e1,e2⟩
 ·show ((TN.map fun _=>(none:Option V))++vs.map some).length=(TN++caps).length;rw [List.length_append,List.length_append,List.length_map,List.length_map,hv.1,CC.len]
theorem FD {elt iter:Expr} {ifs:List Expr} {tg:Expr} {g:TG} {TN caps:List Str} {ix:List Nat} {cl:List (Str×Addr)} {pos:Pos} {scope:Scope} {wi:TI} {tt:TT} {te:TE} (hc:X.calm=true) (hi:PI X tg iter wi)
  (ht:∀ s H ex C,oY (cD X scope cl (TN++caps) s H ex C) ifs tt) (hV:∀ s H ex C,PG (cD X scope cl (TN++caps) s H ex C) tg g) (he:∀ s H ex C,PE (cD X scope cl (TN++caps) s H ex C) elt te) (CC:jy X scope cl caps ix)
  (hk:scope.kind=.function) (eQ:∀ y∈scope.names,y.2≠.cell)
  {pins:List (Addr×Obj)} {s:Shared} {σ:St} {H:Hp} {Q:VK} {RR:Value->Addr->Result->Shared->Prop} (I:Inv X pins σ H s) (h:mh TN.length ix wi g tt te σ H Q)
  (Dt:∀ (a C:Addr) (s6:Shared) (H6:Hp),Inv X pins σ H6 s6->(∃ m,s6.heap.Ns C m)->yC X pins H6 C->Q (.ref a) H6->RR (.ref a) C (.ok .next) s6) :
  wpAny (model X.prog X.w) X.A (eval iter X.env) (fun v s1=>wpAny (model X.prog X.w) X.A (pyIter v) (fun it s2=>wpAny (model X.prog X.w) X.A (newList []) (fun acc s3 =>
   wpAny (model X.prog X.w) X.A (newFunctionEnv scope X.env.globals cl [] X.env.qual none .none (some X.env)) (fun Mb s4 =>
    codeAny (model X.prog X.w) X.A (.compStart (.ListComp elt [⟨tg,iter,ifs,0⟩] scope pos) 0 it acc { Mb with scope:=relabel scope X.env }) (RR acc Mb.locals) s4) X.xe s3) X.xe s2) X.xe s1) X.xe s:=by
 obtain ⟨vs,hvs,h⟩:=h;refine aD (hi pins s σ H _ I h) fun v s1 h1=>aD h1 fun Ek s2 h2=>?_;obtain ⟨it,fp,tn,J,H2,rfl,I2,T,fO,f2,W,⟨m0,w0⟩,turn⟩:=h2;have b8:∀ b∈fp,b < s2.heap.objs.size:=fun b hb=>let ⟨o,e,_⟩:=T.obj _ _ fO b hb; Heap.lt_size e
 refine wpAny_newObj_type (wpAny_newFunctionEnv eQ (by intro y hy; simp at hy) (fun h1 hns1 hsb1=>?_) hk);dsimp only at hns1 hsb1 ⊢;generalize Ec:s2.heap.push { cls:=.type "list",dict:=none,data:=.seq ([]:List Value).toArray }=G at hns1 hsb1 ⊢;have hG:G.objs.size=s2.heap.objs.size+1:=by rw [<- Ec,Heap.size_push]
 have xO:s2.heap.objs.size≠G.objs.size:=by rw [hG]; exact Nat.ne_of_lt (Nat.lt_succ_self _)
 have oA:s2.heap.objs.size<=G.objs.size:=by rw [hG]; exact Nat.le_succ _
 have old:∀ b o,s2.heap.get? b=some o->h1.get? b=some o:=fun b o e=>by
  exact hsb1.extBut b o (Nat.ne_of_lt (Nat.lt_of_lt_of_le (Heap.lt_size e) oA)) (Heap.get?_push_of_some _ (Ec ▸ Heap.get?_push_of_some _ e))
 have accO:h1.get? s2.heap.objs.size=some { cls:=.type "list",dict:=none,data:=.seq ([]:List Value).toArray } :=
  hsb1.extBut _ _ xO (Heap.get?_push_of_some _ (Ec ▸ Heap.get?_push_size _ rfl))
 -- ib state at ib block's entry
 have main:∀ s4:Shared,s4={ s2 with heap:=h1,toks:=s2.toks+([]:List (Str×Value)).length } ->
   codeAny (model X.prog X.w) X.A (.compLoop (.ListComp elt [⟨tg,iter,ifs,0⟩] scope pos) 0 (.ref it) (.ref s2.heap.objs.size) (compEnvC scope cl G.objs.size X.env))
    (RR (.ref s2.heap.objs.size) G.objs.size) s4:=by
  rintro s4 rfl;have I4:Inv (cD X scope cl (TN++caps) s2 H2 fp G.objs.size) [] ((TN.map fun _=>none)++vs.map some) H2 { s2 with heap:=h1,toks:=s2.toks+([]:List (Str×Value)).length } :=
   Wa I2 CC hvs f2 b8 hk oA rfl rfl old hns1
  have ES:∀ {H':Hp} {pl:List (Addr×Obj)},(∀ b∈fp,H' b=none)->(∀ p∈pl,p.1 ∉ fp)->∀ b∈fp,kP (cD X scope cl (TN++caps) s2 H2 fp G.objs.size) pl H' b:=fun hn hp b hb =>
   ⟨hn b hb,Nat.ne_of_lt (Nat.lt_of_lt_of_le (b8 b hb) oA),I4.ok.lP b hb,.inl hb,fun x c e=>(f2 b hb).2.2.2.2.1 x c (CC.sub x c e),fun p hp' e=>hp p (by simpa [cD] using hp') (e ▸ hb)⟩
  have MF:s2.heap.objs.size ∉ fp:=fun z=>Nat.lt_irrefl _ (b8 _ z);refine Pq (fun n s'=>∃ (i:Nat) (ys:List V) (ao:List Value) (k:Nat) (σ':St) (H':Hp),(∃ σ0:St,σ'=σ0++vs.map some/\σ0.length=TN.length)/\Inv (cD X scope cl (TN++caps) s2 H2 fp G.objs.size) [] σ' H' s'/\tn i s'.heap/\(∀ b∈fp,H' b=none)/\H' s2.heap.objs.size=none/\Vals ys ao /\
   s'.heap.get? s2.heap.objs.size=some { cls:=.type "list",dict:=none,data:=.seq ao.toArray k }/\W i ys n H') (fun _ _ _=>trivial) ?_ m0
   ⟨0,[],[],0,_,H2,⟨_,rfl,by simp⟩,I4,T.keep _ _ _ fO (fun b _ o e=>old b o e),fun b hb=>(f2 b hb).1,I2.aB.fresh (Nat.le_refl _),.nil,accO,w0⟩
  rintro n s5 ⟨i,ys,ao,k,σ5,H5,⟨σ0,hq5,hσ⟩,I5,qT,xV,xT,rv,ea,w5⟩;subst hq5;have Ip:Inv (cD X scope cl (TN++caps) s2 H2 fp G.objs.size) [(s2.heap.objs.size,{ cls:=.type "list",dict:=none,data:=.seq ao.toArray k })] (σ0++vs.map some) H5 s5:=I5.rM fun p hp=>by
   have e:p=(s2.heap.objs.size,{ cls:=.type "list",dict:=none,data:=.seq ao.toArray k }):=by simpa using hp
   subst e;refine ⟨ea,xT,xO,fun z=>?_,fun v z=>by cases z⟩;exact I2.E5 (Nat.le_refl _) (by
    have hz:s2.heap.objs.size∈bW X.stack:=z;rcases List.mem_cons.mp (I2.vO _ hz) with q | q
    ·exact absurd I2.lt (by rw [<- q]; exact Nat.lt_irrefl _)
    ·exact q)
  have DD:∀ p∈[((s2.heap.objs.size,{ cls:=.type "list",dict:=none,data:=.seq ao.toArray k }):Addr×Obj)],p.1 ∉ fp:=fun p hp=>by
   have e:p=(s2.heap.objs.size,{ cls:=.type "list",dict:=none,data:=.seq ao.toArray k }):=by simpa using hp
   subst e; exact MF
  obtain ⟨hyl,alt⟩:=turn i ys n H5 w5;rcases alt with ⟨stop,qn⟩ | ⟨go,hys,step⟩
  ·refine aD (T.done (cD X scope cl (TN++caps) s2 H2 fp G.objs.size) rfl rfl rfl hc i _ s5 (σ0++vs.map some) H5 (fun _ _=>False) Ip (ES xV DD) qT stop) fun r s6 ⟨hr,I6⟩=>?_;subst hr;have ea6:=(I6.pin (s2.heap.objs.size,{ cls:=.type "list",dict:=none,data:=.seq ao.toArray k }) (List.mem_append_right _ (List.mem_singleton.mpr rfl))).1;obtain ⟨m,LR,_⟩:=I6.loc;have hC6:H5 G.objs.size=none:=I6.free;have lt2:∀ b o,s2.heap.get? b=some o->b≠s2.heap.objs.size:=fun b o e=>Nat.ne_of_lt (Heap.lt_size e);have Iout:Inv X pins σ (upd H5 s2.heap.objs.size (.lst ys)) s6:=by
    refine I2.Ka (s':=s6) (ch:=fp) I6.os ⟨fun b o e n hb hx=>?_,fun b o e n hb hx=>?_,fun b o e n hx=>?_,fun b o e hx=>?_,fun b xs e=>?_,fun b o u e=>?_,fun b ps e=>?_⟩ ?_ I6.bare fun b hb=>?_
    ·exact I6.base.keep b o e n hb hx
    ·exact I6.base.slot b o e n hb hx
    ·rw [ag (lt2 b o e)]; exact I6.base.free b o e n hx
    ·exact I6.base.there b o e hx
    ·rw [ag (gd e (I2.aB.fresh (Nat.le_refl _)))]; exact I6.base.gr b xs e
    ·rw [ag (gd e (I2.aB.fresh (Nat.le_refl _)))]; exact I6.base.gi b o u e
    ·obtain ⟨more,e1⟩:=I6.base.gu b ps e;exact ⟨more,by rw [ag (gd e (I2.aB.fresh (Nat.le_refl _)))]; exact e1⟩
    ·intro b u e;by_cases hb:b=s2.heap.objs.size
     ·subst hb;rw [ax] at e;cases e;exact ⟨hyl,ao,k,rv,ea6⟩
     ·rw [ag hb] at e;exact (I6.aB b u e).g8 (fun c v _ q=>q) (fun c q=>by rw [ag (gd q xT)]; exact q) fun c xs q=>by rw [ag (gd q xT)]; exact q
    ·obtain ⟨g1,g2,g3,g4,g5,g6⟩:=f2 b hb;exact ⟨g4,g2,g5,g6⟩
   refine Dt _ _ s6 _ Iout ⟨m,LR⟩ ⟨by rw [ag (Ne.symm xO)]; exact hC6,?_,?_,fun y c e z=>?_,fun p hp z=>?_⟩ (qn _ xT)
   ·exact Nat.ne_of_gt (Nat.lt_of_lt_of_le I2.lt oA)
   ·exact Nat.le_trans I2.sz oA
   ·obtain ⟨v',q⟩:=I2.cell y c e;exact absurd (Nat.lt_of_lt_of_le q.lt oA) (by rw [z]; exact Nat.lt_irrefl _)
   ·exact absurd (Nat.lt_of_lt_of_le (Heap.lt_size (I2.pin p hp).1) oA) (by rw [z]; exact Nat.lt_irrefl _)
  ·refine aD (T.item (cD X scope cl (TN++caps) s2 H2 fp G.objs.size) rfl rfl rfl hc i _ s5 (σ0++vs.map some) H5 (fun _ _=>False) Ip (ES xV DD) qT go) fun r s6 ⟨u,hr,h6⟩=>?_;subst hr;refine aD h6 fun _ s7 ⟨y,H7,I7,ry,y7,Er,fr7⟩=>?_;have I7':=I7.pinned (ES fr7 DD) (T.obj _ _ Er);refine aD (hV _ _ _ _ _ s7 (σ0++vs.map some) H7 y u _ I7' ry (step y H7 y7 σ0 hσ)) fun _ s8 ⟨σ8,H8,I8,Nh,q8⟩=>?_;refine aD (ht _ _ _ _ _ s8 σ8 H8 _ I8 q8) fun ok s9 ⟨H9,I9,q9⟩=>?_
   -- what is pinned stays
   have MD:∀ {s':Shared} {H':Hp},Inv (cD X scope cl (TN++caps) s2 H2 fp G.objs.size) ([(s2.heap.objs.size,{ cls:=.type "list",dict:=none,data:=.seq ao.toArray k })]++sY fp s7.heap) σ8 H' s' ->
     tn (i+1) s'.heap/\(∀ b∈fp,H' b=none)/\H' s2.heap.objs.size=none/\s'.heap.get? s2.heap.objs.size=some { cls:=.type "list",dict:=none,data:=.seq ao.toArray k }:=fun {s' H'} J'=>by
    refine ⟨T.keep _ _ _ Er fun b hb o e=>(J'.pin (b,o) (List.mem_append_right _ (List.mem_append_right _ (v8 hb e)))).1,fun b hb=>?_,(J'.pin (s2.heap.objs.size,{ cls:=.type "list",dict:=none,data:=.seq ao.toArray k }) (List.mem_append_right _ (List.mem_append_left _ (List.mem_singleton.mpr rfl)))).2.1,(J'.pin (s2.heap.objs.size,{ cls:=.type "list",dict:=none,data:=.seq ao.toArray k }) (List.mem_append_right _ (List.mem_append_left _ (List.mem_singleton.mpr rfl)))).1⟩;obtain ⟨o,e,_⟩:=T.obj _ _ Er b hb;exact (J'.pin (b,o) (List.mem_append_right _ (List.mem_append_right _ (v8 hb e)))).2.1
   cases ok with
   | false =>
    obtain ⟨m',hm,w'⟩:=q9;obtain ⟨k1,k2,k3,k4⟩:=MD I9;exact ⟨m',hm,i+1,ys,ao,k,σ8,H9,Nh,I9.rM (pins':=[]) (fun _ hp=>nomatch hp),k1,k2,k3,rv,k4,w'⟩
   | true =>
    refine aD (he _ _ _ _ _ s9 σ8 H9 _ I9 q9) fun zv s10 ⟨z,qH,MX,rz,lZ⟩=>?_;obtain ⟨m',hm,w'⟩:=lZ;obtain ⟨k1,k2,k3,k4⟩:=MD MX;have hl:=rv.length;refine call_meets F.slot_list_append ⟨_,k4,rfl⟩ F.entry_list_append (F.args_list_append_2 _ _) (PySem.list_append s2.heap.objs.size ao.toArray k zv (by rw [List.size_toArray]; omega)) ⟨k4,?_⟩;have q:=PySem.IsL.update k4 (·.push zv);have ip:ao.toArray.push zv=(ao++[zv]).toArray:=by simp
    rw [ip] at q;have I11:Inv (cD X scope cl (TN++caps) s2 H2 fp G.objs.size) [] σ8 qH s10:=MX.rM (pins':=[]) (fun _ hp=>nomatch hp);refine ⟨m',hm,i+1,ys++[z],ao++[zv],_,σ8,qH,Nh,I11.turned (t':=s10.toks) (it:=s2.heap.objs.size) (fun b o hb e=>(Heap.get?_update_other s10.heap _ (Ne.symm hb)).trans e) k3 xO (.inr (Nat.le_refl _)) (fun x c e z=>by obtain ⟨v',q⟩:=I2.cell x c (CC.sub x c e); exact absurd q.lt (by rw [z]; exact Nat.lt_irrefl _)) (fun p hp=>absurd (show p∈([]:List (Addr×Obj)) from hp) (by simp)),
     T.keep _ _ _ k1 fun b hb o e=>(Heap.get?_update_other s10.heap _ (fun z=>MF (by rw [z]; exact hb))).trans e,k2,k3,rv.append (.cons rz .nil),q,w'⟩
 exact codeAny_compStart_list (main _ rfl) (T.self _ 0 _ _ _ (T.keep _ _ _ fO fun b _ o e=>old b o e) (main _ rfl))
theorem XQ (hc:X.calm=true) (hi:PI X tg iter wi)
  (ht:∀ s H ex C,oY (cD X scope cl (TN++caps) s H ex C) ifs tt) (hV:∀ s H ex C,PG (cD X scope cl (TN++caps) s H ex C) tg g) (he:∀ s H ex C,PE (cD X scope cl (TN++caps) s H ex C) elt te) (CC:jy X scope cl caps ix)
  (hk:scope.kind=.function:=by rfl) (bZ:∀ y∈scope.names,y.2=.local->scope.names.lookup y.1=some .local:=by decide +kernel) (eQ:∀ y∈scope.names,y.2≠.cell:=by decide +kernel)
  (hs:∀ x,foldedSetIterable iter X.env x=pure x:=by intro _; rfl):PE X (.ListComp elt [⟨tg,iter,ifs,0⟩] scope pos) (mh TN.length ix wi g tt te):=by
 intro pins s σ H Q I h;rw [eval_ListComp];refine wpAny_comprehension_free (use:=none) (cl:=cl) rfl hs CC.nX hk bZ ?_;refine FD (RR:=fun acc C=>compPost (model X.prog X.w) X.A X.xe none (EP X pins σ Q) acc C) hc hi ht hV he CC hk eQ I h ?_;intro a C s6 H6 I6 hm o q;obtain ⟨m,hn⟩:=hm;exact ⟨m,hn,fun h' uL=>⟨.ref a,H6,o.go I6 uL,rfl,q⟩⟩
theorem UI {elt iter:Expr} {ifs:List Expr} {tg:Expr} {g:TG} {TN caps:List Str} {ix:List Nat} {cl:List (Str×Addr)} {y:Str} {i:Nat} {py pos spos:Pos} {scope:Scope} {wi:TI} {tt:TT} {te:TE} (hc:X.calm=true) (hN:X.N.Nodup) (u6:X.N[i]?=some y) (rk:X.env.scope.names.lookup y=some .local) (hi:PI X tg iter wi)
  (ht:∀ s H ex C,oY (cD X scope cl (TN++caps) s H ex C) ifs tt) (hV:∀ s H ex C,PG (cD X scope cl (TN++caps) s H ex C) tg g) (he:∀ s H ex C,PE (cD X scope cl (TN++caps) s H ex C) elt te) (CC:jy X scope cl caps ix)
  (vk:swapsWith (.ListComp elt [⟨tg,iter,ifs,0⟩] scope pos) (some (.Name y py)) spos.line X.env=pure true:=by rfl)
  (hk:scope.kind=.function:=by rfl) (bZ:∀ y∈scope.names,y.2=.local->scope.names.lookup y.1=some .local:=by decide +kernel) (eQ:∀ y∈scope.names,y.2≠.cell:=by decide +kernel)
  (hs:∀ x,foldedSetIterable iter X.env x=pure x:=by intro _; rfl):PS X (.Assign [.Name y py] (.ListComp elt [⟨tg,iter,ifs,0⟩] scope pos) spos) (jt (mh TN.length ix wi g tt te) (eV i)):=by
 intro pins s σ H D I h;rw [exec_Assign_Name_used _ _ _ _ vk];refine wpAny_bind (wpAny_standAt (wpAny_bind ?_));refine wpAny_bind (wpAny_mono (wpAny_comprehension_free (e:=.ListComp elt [⟨tg,iter,ifs,0⟩] scope pos) (use:=some (assign (.Name y py) X.env)) (cl:=cl) (Q:=fun _ s'=>SP X pins D .next s') rfl hs CC.nX hk bZ
  (FD (RR:=fun acc C=>compPost (model X.prog X.w) X.A X.xe (some (assign (.Name y py) X.env)) (fun _ s'=>SP X pins D .next s') acc C) hc hi ht hV he CC hk eQ I h ?_)) (fun _ s' hq=>wpAny_pure (wpAny_pure hq)) fun _ _ e=>e)
 intro a C s6 H6 I6 hm o q;obtain ⟨m,hn⟩:=hm;refine (show wpAny (model X.prog X.w) X.A (assign (.Name y py) X.env (.ref a)) _ X.xe s6 from ?_);refine wpAny_assign_Name (KP I6 hN u6 (.inl rk) (v:=.ref a) rfl (fun s' I' uL=>?_) (.inr rk));obtain ⟨b,uL,hb⟩:=uL;have nb:C≠b:=by
  rcases hb with z | z
  ·rw [z]; exact o.nl
  ·exact fun e=>o.nc y b z e.symm
 exact ⟨m,hn.sameBut uL nb,fun h' hs'=>⟨_,H6,o.go I' hs',q⟩⟩
end
namespace Dv
section
variable {X:Cx}
theorem yW {elt iter tg:Expr} {g:TG} {ifs:List Expr} {TN caps:List Str} {ix:List Nat} {cl:List (Str×Addr)} {pos:Pos} {scope:Scope} {wi:TI} {tt:TT} {te:TE} (hc:X.calm=true) (hi:QI X tg iter wi)
  (ht:∀ s H ex C,oV (cD X scope cl (TN++caps) s H ex C) ifs tt) (hV:∀ s H ex C,QG (cD X scope cl (TN++caps) s H ex C) tg g) (he:∀ s H ex C,QE (cD X scope cl (TN++caps) s H ex C) elt te) (CC:jy X scope cl caps ix)
  (hk:scope.kind=.function:=by rfl) (bZ:∀ y∈scope.names,y.2=.local->scope.names.lookup y.1=some .local:=by decide +kernel) (eQ:∀ y∈scope.names,y.2≠.cell:=by decide +kernel)
  (hs:∀ x,foldedSetIterable iter X.env x=pure x:=by intro _; rfl):QE X (.ListComp elt [⟨tg,iter,ifs,0⟩] scope pos) (mh TN.length ix wi g tt te):=⟨XQ hc hi.h (fun s H ex C=>(ht s H ex C).h) (fun s H ex C=>(hV s H ex C).h) (fun s H ex C=>(he s H ex C).h) CC hk bZ eQ hs⟩
theorem SQ (i:Nat) {elt iter tg:Expr} {g:TG} {ifs:List Expr} {TN caps:List Str} {ix:List Nat} {cl:List (Str×Addr)} {y:Str} {py pos spos:Pos} {scope:Scope} {wi:TI} {tt:TT} {te:TE} (hc:X.calm=true) (hN:X.N.Nodup) (hi:QI X tg iter wi)
  (ht:∀ s H ex C,oV (cD X scope cl (TN++caps) s H ex C) ifs tt) (hV:∀ s H ex C,QG (cD X scope cl (TN++caps) s H ex C) tg g) (he:∀ s H ex C,QE (cD X scope cl (TN++caps) s H ex C) elt te) (CC:jy X scope cl caps ix) (u6:X.N[i]?=some y:=by rfl) (rk:X.env.scope.names.lookup y=some .local:=by rfl)
  (vk:swapsWith (.ListComp elt [⟨tg,iter,ifs,0⟩] scope pos) (some (.Name y py)) spos.line X.env=pure true:=by rfl)
  (hk:scope.kind=.function:=by rfl) (bZ:∀ y∈scope.names,y.2=.local->scope.names.lookup y.1=some .local:=by decide +kernel) (eQ:∀ y∈scope.names,y.2≠.cell:=by decide +kernel)
  (hs:∀ x,foldedSetIterable iter X.env x=pure x:=by intro _; rfl):QS X (.Assign [.Name y py] (.ListComp elt [⟨tg,iter,ifs,0⟩] scope pos) spos) (jt (mh TN.length ix wi g tt te) (eV i)):=⟨UI hc hN u6 rk hi.h (fun s H ex C=>(ht s H ex C).h) (fun s H ex C=>(hV s H ex C).h) (fun s H ex C=>(he s H ex C).h) CC vk hk bZ eQ hs⟩
end
end Dv
section
variable {X:Cx}
end
theorem zm (h:σ.length=1):∃ a,σ=[a]:=by
 match σ,h with
 | [a],_=>exact ⟨a,rfl⟩
theorem fE:∀ {fs:List (Str×V)},fs.lookup f=some u->(ay f v fs).length=fs.length
 | (g,x)::r,h=>by
  rw [show ay f v ((g,x)::r)=(if g=f then (g,v)::r else (g,x)::ay f v r) from rfl];by_cases e:g=f
  ·rw [if_pos e]; rfl
  ·rw [if_neg e];have hb:(f == g)=false:=beq_eq_false_iff_ne.mpr (Ne.symm e);have h':r.lookup f=some u:=by simpa [List.lookup,hb] using h
   rw [List.length_cons,fE h']; rfl
def CO (r:V->List V->Hp->VK->Prop) (to:TE):TE:=fun σ H Q=>to σ H fun x H1=>match x with
 | .ref l=>(match H1 l with
  | some (.lst _)=>r (.ref l) [] H1 Q
  | _=>False)
 | _=>False
section
variable {X:Cx} {name:Str} {id:String} {r:V->List V->Hp->VK->Prop} {o:Expr} {to:TE} {apos bu:Pos}
theorem UG (slot:Slot "list" name id) (cw:typeOf (.builtin id)=pure (.type "method_descriptor")) (hm:cT X id r) (ho:PE X o to)
  (gk:attributeBase o name X.env (eval o X.env)=eval o X.env:=by rfl) (gn:(apos.endLine == bu.line)=true:=by rfl):PE X (.Call (.Attribute o name apos) [] [] bu) (CO r to):=by
 intro pins s σ H Q I h;refine wpAny_Call_method0_late gk gn (aD (ho pins s σ H _ I h) fun v s1 ⟨x,H1,I1,r1,q1⟩=>?_);dsimp only at q1;split at q1
 ·rename_i l;split at q1
  ·rename_i zs el;obtain ⟨h1,h2⟩:=yD (T := "list") I1 r1 (.inl ⟨rfl,zs,aC.of el⟩);exact ⟨"list",id,PySem.F.plainAttrs_list,slot,cw,h1,h2,Calls.callWith_builtin rfl (PySem.evalArgs_none (hm pins s1 σ H1 (.ref l) [] v [] Q I1 r1 .nil q1))⟩
  ·exact q1.elim
 ·exact q1.elim
theorem Dv.Ge (slot:Slot "list" name id) (cw:typeOf (.builtin id)=pure (.type "method_descriptor")) (hm:cT X id r) (ho:QE X o to)
  (gk:attributeBase o name X.env (eval o X.env)=eval o X.env:=by rfl) (gn:(apos.endLine == bu.line)=true:=by rfl):QE X (.Call (.Attribute o name apos) [] [] bu) (CO r to):=⟨UG slot cw hm ho.h gk gn⟩
end
theorem ah.fi (s:ah H H1) (hl:H l=none):ah H (L2.upd H1 l o):=fun b u e=>by
 rw [ag (fun z=>by rw [z,hl] at e; cases e)]; exact s b u e
section
variable {X:Cx}
def Dd:List V->Hp->VK->Prop:=fun xs H Q=>match xs with
 | [.bl b]=>Q (.int (if b then 1 else 0)) H
 | _=>False
theorem wY:cI X (.type "int") Dd:=by
 intro pins s σ H xs us Q I r h;unfold Dd at h;split at h
 ·rename_i b;obtain ⟨u,rfl,rx⟩:=vals1 r;cases rx;exact call_int_bool ⟨.int (if b then 1 else 0),H,I.tok _,⟨_,rfl⟩,h⟩
 ·exact h.elim
end
def zi (K:PySem.W.Frag):R2:=fun x y H Q=>match y with
 | .ref p=>∃ xs,(aC K H p xs\/bJ K H p xs)/\cN x=true/\xs.all cN=true/\Q (.bl (!gT x xs)) H
 | _=>False
theorem vv {X:Cx} {K:PySem.W.Frag} (h:X.K=K):bg X (compareOp .NotIn) (zi K):=h ▸ RE.imp fun x y H Q z=>by
 unfold zi at z;split at z
 ·obtain ⟨xs,z1,z2,z3,z4⟩:=z;exact ⟨_,xs,rfl,z1,z2,z3,z4⟩
 ·exact z.elim
structure FT (K:PySem.W.Frag) (mg:Str->Option Value) (x y:Str) (st:Stmt) (ps:List Str) where
 f:Addr
 d:FuncData
 F:jk K x y st f d
 m:mg x=some (.ref f)
 b:Binds K d ps []
structure MT (K:PySem.W.Frag) (C:Addr) (x y:Str) (st:Stmt) (ps:List Str) where
 f:Addr
 d:FuncData
 F:jk K x y st f d
 h:Meth K C x f
 b:Binds K d ps []
def FA (K:PySem.W.Frag) (x y:Str) (st:Stmt):Prop:=∃ (f:Addr) (oc:Value) (od:Option Addr) (kV dc pm:Value) (an:Option Addr) (cd ct:Value) (sl:Array (Option Value)),
 PySem.W.nsIn K mainGlobals x=some (some (.ref f))/\K.lookup f=some ⟨oc,od,.func (PySem.W.fnOf x y (eZ st) (aV st) (aA st) .none kV dc pm an cd ct),sl⟩/\PySem.W.codeIn K cd y=true/\PySem.W.keepIn K (.ref f)=true
def MA (K:PySem.W.Frag) (C:Addr) (x y:Str) (st:Stmt):Prop:=∃ (f:Addr) (oc:Value) (od:Option Addr) (kV dc pm:Value) (an:Option Addr) (cd ct:Value) (sl:Array (Option Value)),
 PySem.W.findIn K (.ref C) x=some (some (.ref f))/\K.lookup f=some ⟨oc,od,.func (PySem.W.fnOf x y (eZ st) (aV st) (aA st) .none kV dc pm an cd ct),sl⟩/\PySem.W.codeIn K cd y=true/\PySem.W.keepIn K (.ref f)=true/\PySem.W.isFn K (.ref f)=true
section
variable {K:PySem.W.Frag} {mg:Str->Option Value} {h:Heap} {C:Addr} {x y:Str} {st:Stmt} {ps:List Str}
theorem FA.ft (X:K.In h) (G:h.Ns mainGlobals mg) (ps:List Str) (hb:∀ (kV dc pm:Value) (an:Option Addr) (cd ct:Value) (us:List Value),us.length=ps.length->bindArgs (PySem.W.fnOf x y (eZ st) (aV st) (aA st) .none kV dc pm an cd ct) ⟨us,[]⟩=pure (ps.zip us)) (a:FA K x y st):Nonempty (FT K mg x y st ps):=by
 obtain ⟨f,oc,od,kV,dc,pm,an,cd,ct,sl,n,l,c,k⟩:=a;have F:=CY (st:=st) l c k;exact ⟨⟨f,_,F,PySem.W.mg_of X G n,F.binds hb⟩⟩
theorem MA.ft (ps:List Str) (hb:∀ (kV dc pm:Value) (an:Option Addr) (cd ct:Value) (us:List Value),us.length=ps.length->bindArgs (PySem.W.fnOf x y (eZ st) (aV st) (aA st) .none kV dc pm an cd ct) ⟨us,[]⟩=pure (ps.zip us)) (a:MA K C x y st):Nonempty (MT K C x y st ps):=by
 obtain ⟨f,oc,od,kV,dc,pm,an,cd,ct,sl,n,l,c,k,t⟩:=a;have F:=CY (st:=st) l c k;exact ⟨⟨f,_,F,⟨n,t,k⟩,F.binds hb⟩⟩
end
section
variable {K:PySem.W.Frag} {mg:Str->Option Value} {h:Heap} {C:Addr} {x y:Str} {st:Stmt} {ps:List Str}
theorem FA.mk {f:Addr} {oc:Value} {od:Option Addr} {kV dc pm:Value} {an:Option Addr} {cd ct:Value} {sl:Array (Option Value)} (n:PySem.W.nsIn K mainGlobals x=some (some (.ref f))) (l:K.lookup f=some ⟨oc,od,.func (PySem.W.fnOf x y (eZ st) (aV st) (aA st) .none kV dc pm an cd ct),sl⟩) (c:PySem.W.codeIn K cd y=true) (k:PySem.W.keepIn K (.ref f)=true):FA K x y st:=⟨_,_,_,_,_,_,_,_,_,_,n,l,c,k⟩
theorem MA.mk {f:Addr} {oc:Value} {od:Option Addr} {kV dc pm:Value} {an:Option Addr} {cd ct:Value} {sl:Array (Option Value)} (n:PySem.W.findIn K (.ref C) x=some (some (.ref f))) (l:K.lookup f=some ⟨oc,od,.func (PySem.W.fnOf x y (eZ st) (aV st) (aA st) .none kV dc pm an cd ct),sl⟩) (c:PySem.W.codeIn K cd y=true) (k:PySem.W.keepIn K (.ref f)=true) (t:PySem.W.isFn K (.ref f)=true):MA K C x y st:=⟨_,_,_,_,_,_,_,_,_,_,n,l,c,k,t⟩
theorem FA.gt (X:K.In h) (G:h.Ns mainGlobals mg) (hb:∀ (kV dc pm:Value) (an:Option Addr) (cd ct:Value) (us:List Value),us.length=ps.length->bindArgs (PySem.W.fnOf x y (eZ st) (aV st) (aA st) .none kV dc pm an cd ct) ⟨us,[]⟩=pure (ps.zip us)) (a:FA K x y st):Nonempty (FT K mg x y st ps):=FA.ft X G ps hb a
theorem MA.gt (hb:∀ (kV dc pm:Value) (an:Option Addr) (cd ct:Value) (us:List Value),us.length=ps.length->bindArgs (PySem.W.fnOf x y (eZ st) (aV st) (aA st) .none kV dc pm an cd ct) ⟨us,[]⟩=pure (ps.zip us)) (a:MA K C x y st):Nonempty (MT K C x y st ps):=MA.ft ps hb a
theorem SM {M:MT K C "__init__" y st ps} (a:PySem.W.makesIn K C=true) (b:PySem.W.keepIn K (.ref C)=true):Mk K C M.f:=⟨a,M.h.at_,M.h.fn,b⟩
theorem jn {dt:Addr} {kV doc pm aw ct:Value} {an:Option Addr} {o:Obj} {n:Nat} {ds:List Value} (j:Nat) (ld:K.lookup dt=some o) (hd:o.data=.seq ds.toArray n)
  (h:∀ (dt:Addr) (kV doc pm:Value) (an:Option Addr) (aw ct:Value) (us:List Value),(us++ds.drop j).length=ps.length ->
   ∃ k,bindArgs (PySem.W.fnOf x y (eZ st) (aV st) (aA st) (.ref dt) kV doc pm an aw ct) ⟨us,[]⟩=seqItems? (.ref dt) >>= k/\k (some ds.toArray)=pure (ps.zip (us++ds.drop j))) :
  Binds K (PySem.W.fnOf x y (eZ st) (aV st) (aA st) (.ref dt) kV doc pm an aw ct) ps (ds.drop j):=by
 intro s us X hl;obtain ⟨k,h1,h2⟩:=h dt kV doc pm an aw ct us hl;exact BindsTo.of_defaults rfl (X _ _ ld) hd h1 h2
end
section
variable {X:Cx} {tg:Expr}
end
section
variable {X:Cx}
def Ah:List V->Hp->VK->Prop:=fun xs H Q=>match xs with
 | [.int a]=>a.natAbs.log2 < 1920/\Q (.str (Str.ofString (toString a))) H
 | _=>False
theorem W5:cI X (.type "str") Ah:=by
 intro pins s σ H xs us Q I r h;unfold Ah at h;split at h
 ·rename_i a;obtain ⟨hl,h⟩:=h;obtain ⟨u,rfl,rx⟩:=vals1 r;obtain ⟨t,rfl⟩:=rx;exact PySem.P.str_of_int hl ⟨.str (Str.ofString (toString a)),H,I.tok _,⟨_,rfl⟩,h⟩
 ·exact h.elim
end
section
variable {X:Cx}
def zZ:V->List V->Hp->VK->Prop:=fun x vs H Q=>match x,vs with
 | .ref l,[.int 0]=>∃ y xs,H l=some (.lst (y::xs))/\Q y (upd H l (.lst xs))
 | _,_=>False
theorem VT:cT X "list.pop" zZ:=cT.imp (r:=Km) XO fun x vs H Q h=>by
 unfold zZ at h;split at h
 ·obtain ⟨y,xs,hl,q⟩:=h;exact ⟨_,y::xs,0,0,y,rfl,rfl,hl,by decide,by decide,by simp [seqIndex?],rfl,q⟩
 ·exact h.elim
end
section
variable {X:Cx}
theorem xi (r1:Vals xs i1) (r2:Vals ys i2) (f1:xs.all cN=true) (f2:ys.all cN=true) (he:∀ i (h1:i < xs.length) (h2:i < ys.length),f6 xs[i] ys[i]=true) (j:Nat) (g1:j < i1.toArray.size) (g2:j < i2.toArray.size):SeqAt.EqAt A s i1.toArray[j] i2.toArray[j] true:=by
 have j1:j < xs.length:=by rw [r1.length]; simpa using g1
 have j2:j < ys.length:=by rw [r2.length]; simpa using g2
 obtain ⟨u1,e1,ru1⟩:=r1.get (List.getElem?_eq_getElem j1);obtain ⟨u2,e2,ru2⟩:=r2.get (List.getElem?_eq_getElem j2);have w1:i1.toArray[j]=u1:=by
  have:=(List.getElem?_eq_some_iff.mp e1).2
  simpa using this
 have w2:i2.toArray[j]=u2:=by
  have:=(List.getElem?_eq_some_iff.mp e2).2
  simpa using this
 rw [w1,w2];have:=JR (A:=A) (s:=s) ru1 ru2 (List.all_eq_true.mp f1 _ (List.getElem_mem j1)) (List.all_eq_true.mp f2 _ (List.getElem_mem j2));rw [he j j1 j2] at this;exact this
theorem all_true (n:Nat):(List.range n).all (fun _=>true)=true:=by rw [List.all_eq_true]; exact fun _ _=>rfl
def gq (K:PySem.W.Frag) (neg:Bool):R2:=fun x y H Q=>match x,y with
 | .ref a,.ref b=>∃ xs ys:List V,(aC K H a xs/\aC K H b ys\/bJ K H a xs/\bJ K H b ys)/\xs.length=ys.length/\xs.all cN=true/\ys.all cN=true/\(∀ i (h1:i < xs.length) (h2:i < ys.length),f6 xs[i] ys[i]=true)/\Q (.bl (!neg)) H
 | _,_=>False
theorem vA {K:PySem.W.Frag} (hK:X.K=K) (hu:X.A.units < cLine):bg X (compareOp .Eq) (gq K false):=by
 subst hK;intro pins s σ H x y v u Q I rx ry h;unfold gq at h;split at h
 ·obtain ⟨xs,ys,fK,hl,f1,f2,he,q⟩:=h;cases rx; cases ry;rcases fK with ⟨ha,hb⟩ | ⟨ha,hb⟩
  ·obtain ⟨i1,r1,p1,_⟩:=I.list ha;obtain ⟨i2,r2,p2,_⟩:=I.list hb;have hsz:i1.toArray.size=i2.toArray.size:=by rw [List.size_toArray,List.size_toArray,<- r1.length,<- r2.length,hl]
   have k:=SeqAt.RcAt.lists (A:=X.A) (s:=s) (e:=fun _=>true) p1.isList p2.isList hsz hu (fun j g1 g2=>xi r1 r2 f1 f2 he j g1 g2);rw [all_true] at k;exact k _ _ _ _ ⟨.bl _,H,I,rfl,q⟩
  ·obtain ⟨i1,r1,p1,_⟩:=I.tuple ha;obtain ⟨i2,r2,p2,_⟩:=I.tuple hb;have hsz:i1.toArray.size=i2.toArray.size:=by rw [List.size_toArray,List.size_toArray,<- r1.length,<- r2.length,hl]
   have k:=SeqAt.RcAt.tuples (A:=X.A) (s:=s) (e:=fun _=>true) p1 p2 hu (fun j g1 g2=>xi r1 r2 f1 f2 he j g1 g2);rw [all_true,hsz,beq_self_eq_true,Bool.and_self] at k;exact k _ _ _ _ ⟨.bl _,H,I,rfl,q⟩
 ·exact h.elim
theorem Kt {K:PySem.W.Frag} (hK:X.K=K) (hu:X.A.units < cLine):bg X (compareOp .NotEq) (gq K true):=by
 subst hK;intro pins s σ H x y v u Q I rx ry h;unfold gq at h;split at h
 ·obtain ⟨xs,ys,fK,hl,f1,f2,he,q⟩:=h;cases rx; cases ry;rcases fK with ⟨ha,hb⟩ | ⟨ha,hb⟩
  ·obtain ⟨i1,r1,p1,_⟩:=I.list ha;obtain ⟨i2,r2,p2,_⟩:=I.list hb;have hsz:i1.toArray.size=i2.toArray.size:=by rw [List.size_toArray,List.size_toArray,<- r1.length,<- r2.length,hl]
   have k:=SeqAt.RcNeAt.lists (A:=X.A) (s:=s) (e:=fun _=>true) p1.isList p2.isList hsz hu (fun j g1 g2=>xi r1 r2 f1 f2 he j g1 g2);rw [all_true] at k;exact k _ _ _ _ ⟨.bl _,H,I,rfl,q⟩
  ·obtain ⟨i1,r1,p1,_⟩:=I.tuple ha;obtain ⟨i2,r2,p2,_⟩:=I.tuple hb;have hsz:i1.toArray.size=i2.toArray.size:=by rw [List.size_toArray,List.size_toArray,<- r1.length,<- r2.length,hl]
   have k:=SeqAt.RcNeAt.tuples (A:=X.A) (s:=s) (e:=fun _=>true) p1 p2 hu (fun j g1 g2=>xi r1 r2 f1 f2 he j g1 g2);rw [all_true,hsz,beq_self_eq_true,Bool.and_self] at k;exact k _ _ _ _ ⟨.bl _,H,I,rfl,q⟩
 ·exact h.elim
theorem S6 (h:cN v=true):f6 v v=true:=by
 cases v <;> first | rfl | (cases h; done) | simp [f6]
theorem gq.same {K:PySem.W.Frag} {neg:Bool} {a b:Addr} {xs:List V} {H:Hp} {Q:VK} (h:aC K H a xs/\aC K H b xs\/bJ K H a xs/\bJ K H b xs) (f:xs.all cN=true) (q:Q (.bl (!neg)) H):gq K neg (.ref a) (.ref b) H Q :=
 ⟨xs,xs,h,rfl,f,f,fun i h1 _=>S6 (List.all_eq_true.mp f _ (List.getElem_mem h1)),q⟩
end
def nZ {α:Type} (us ws:List α):List α:=if ws.length=1 then us++ws else []
section
variable {K:PySem.W.Frag} {x qual nm:Str} {st:Stmt} {f:Addr} {fd:FuncData} {ps:List Str} {ds:List Value}
theorem Og {α:Type}:nZ [a,b,c] [d]=[a,b,c,d]:=rfl
theorem SX (r:Vals vs us) (q:Vals zs ws):Vals (nZ vs zs) (nZ us ws):=by
 unfold nZ;rw [q.length];split
 ·exact r.append q
 ·exact .nil
theorem Za (F:jL K x qual st f fd ds) (hp:ps.length=4) (h:∀ (dt:Addr) (kV doc pm:Value) (an:Option Addr) (aw ct a b c d:Value),
   ∃ k,bindArgs (PySem.W.fnOf x qual (eZ st) (aV st) (aA st) (.ref dt) kV doc pm an aw ct) ⟨[a,b,c],[(nm,d)]⟩=seqItems? (.ref dt) >>= k/\k (some ds.toArray)=pure (ps.zip [a,b,c,d])):wR K fd ps [nm] nZ nZ where
 to:=by
  obtain ⟨oc,od,dt,kV,doc,pm,an,aw,ct,dW,o,n,rfl,lk,dj,ldt,qY⟩:=F.ex;intro s us ws X hl;unfold nZ at hl ⊢;split at hl
  ·rename_i h1;rw [if_pos h1];rw [List.length_append,h1,hp] at hl;obtain ⟨d,rfl⟩:=List.length_eq_one_iff.mp h1;have h3:us.length=3:=by omega
   obtain ⟨a,b,c,rfl⟩:∃ a b c,us=[a,b,c]:=by
    match us,h3 with
    | [a,b,c],_=>exact ⟨a,b,c,rfl⟩
   obtain ⟨k,h1,h2⟩:=h dt kV doc pm an aw ct a b c d;exact BindsTo.of_defaults rfl (X _ _ ldt) qY h1 h2
  ·rw [hp] at hl; cases hl
 rel:=SX
end
section
variable {X:Cx}
theorem Dv.SN
  (F:az X.prog X.w X.K X.mg X.base CX k f fd ps sp) (hr:bH k X.A) (hm:X.mg x=some (.ref f)) (hk:PySem.W.keepIn X.K (.ref f)=true) (hb:wR X.K fd ps [nm] g gV) (hx:Passes CX X E)
  (ha:QA X (e::es) t) (DM:QE X e2 te) (hg:Gl X x:=by rfl) (bV:(x == ("__debug__" : Str))=false:=by decide) (he:starEach (e::es) X.env=(false,eval e X.env)::starEach es X.env:=by rfl)
  (bj:((backTo pos (starEach (e::es) X.env)).any (·.1) || (backToKw pos (keywordEach [⟨some nm,e2,DS⟩] X.env)).any (·.1.isNone))=false:=by rfl) :
  QE X (.Call (.Name x p) (e::es) [⟨some nm,e2,DS⟩] pos) (Cj sp gV E t (fD te fR)) :=
 ⟨Ye F hr hg hm hk hb hx ha.h (Tu DM.h OE) rfl rfl bV he bj⟩
end
def ug (J:It) (n:Nat) (vs:List V) (g:TG) (tt:TT) (te:TE) (Q:VK) (H1:Hp):Prop:=∃ W:Nat->List V->Nat->Hp->Prop,(∃ m,W 0 [] m H1)/\∀ i ys m H,W i ys m H ->
 ys.length<=sizeLine/\((J.stop i H/\∀ l,H l=none->Q (.ref l) (upd H l (.lst ys))) \/
  (J.go i H/\ys.length < sizeLine/\∀ y H',J.kO i H y H'->∀ σ0:St,σ0.length=n->g y (σ0++vs.map some) H' fun σ1 H1=>(∃ σ2:St,σ1=σ2++vs.map some/\σ2.length=n) /\
   tt σ1 H1 fun c H2=>if c=true then te σ1 H2 fun z H3=>∃ m',m' < m/\W (i+1) (ys++[z]) m' H3 else ∃ m',m' < m/\W (i+1) ys m' H2))
theorem B2:mh n ix wi g tt te σ H Q=∃ vs,Cr ix σ vs/\wi σ H fun J H1=>ug J n vs g tt te Q H1:=rfl
theorem UY {K:PySem.W.Frag} {l:Addr} {xs:List V} {te:TE} {H:Hp} {Q:VK} {vs:List V} (f:V->V) (hs:aC K H l xs) (hz:xs.length<=1000) (he:∀ x∈xs,∀ R:VK,R (f x) H->te (some x::vs.map some) H R)
  (q:∀ l',H l'=none->Q (.ref l') (upd H l' (.lst (xs.map f)))):ug (iY K l) 1 vs (eV 0) g7 te Q H:=by
 have hsz:xs.length<=sizeLine:=fits hz;refine ⟨fun i zs k H1=>H1=H/\zs=(xs.take i).map f/\i<=xs.length/\k=xs.length - i,⟨_,rfl,rfl,Nat.zero_le _,rfl⟩,?_⟩;rintro i zs k H1 ⟨rfl,rfl,hi,rfl⟩;have hlen:((xs.take i).map f).length=i:=by rw [List.length_map,List.length_take]; omega
 refine ⟨by omega,?_⟩;by_cases h:i < xs.length
 ·have hx:xs[i]?=some xs[i]:=List.getElem?_eq_getElem h;refine .inr ⟨⟨xs,xs[i],hs,hx⟩,by omega,?_⟩;rintro y H' ⟨rfl,hy⟩ σ0 hσ0;obtain ⟨a,rfl⟩:=zm hσ0;have jb:=hy xs hs;refine ⟨⟨[some y],rfl,rfl⟩,?_⟩;show g7 _ _ _;unfold g7;dsimp only;rw [if_pos rfl];exact he y (List.mem_of_getElem? jb) _ ⟨xs.length - (i+1),by omega,rfl,by rw [List.take_add_one,jb,List.map_append]; rfl,h,rfl⟩
 ·have e:i=xs.length:=by omega
  subst e;refine .inl ⟨⟨xs,hs,Nat.le_refl _⟩,fun l' hl'=>?_⟩;have:=q l' hl';rw [List.take_of_length_le (Nat.le_refl _)];exact this
theorem HL {X:Cx} {K:PySem.W.Frag} (h:X.K=K):gS X (KG K):=h ▸ IG
theorem Wl {K:PySem.W.Frag} {C:Addr} {y:Str} {st:Stmt} {ps:List Str} {fld:Str} {M:MT K C "__init__" y st ps} (q:vZ K C=true) (sa:PySem.W.findIn K (.ref C) "__setattr__" = some (some (.builtin "object.__setattr__"))) (na:PySem.W.findIn K (.ref C) fld=some none) (ob:PySem.W.mroIn K C (.type "object")=some true)
  (be:PySem.W.mroIn K C (.type "BaseException")=some true) (self:PySem.W.mroIn K C (.ref C)=some true) (kp:PySem.W.keepIn K (.ref C)=true):jH K C M.f fld:=⟨q,M.h.at_,eq_of_beq M.h.fn,sa,na,ob,be,self,kp⟩
end L2
open PySem PySem.Spec PyProof.Rows
namespace L2
section
variable {X:Cx}
def xr (n b:Bool):Bool:=match n with | false=>b | true=>!b
theorem BV (n b:Bool):(n ^^ b)=xr n b:=by cases n <;> cases b <;> rfl
def qg (neg:Bool):R2:=fun x y H Q=>match x,y with
 | .int i,.int j=>Q (.bl (xr neg (decide (i=j)))) H
 | .str i,.str j=>Q (.bl (xr neg (decide (i=j)))) H
 | .bl i,.bl j=>Q (.bl (xr neg (decide (i=j)))) H
 | _,_=>xC x y=true/\Q (.bl (xr neg (decide (x=y)))) H
theorem JN (neg:Bool):pQ neg=qg neg:=by
 funext x y H Q; unfold pQ qg; simp only [BV] <;> rfl
theorem cP:bg X (compareOp .Eq) (qg false):=JN false ▸ Vo
theorem lK:bg X (compareOp .NotEq) (qg true):=JN true ▸ UH
def rO (neg:Bool):R2:=fun x y H Q=>match x,y with
 | .ref a,.ref b=>∃ ts us:List Str,H a=some (.lst (ts.map V.str))/\H b=some (.lst (us.map V.str))/\Q (.bl (xr neg (decide (ts=us)))) H
 | _,_=>False
theorem HD (neg:Bool):qf neg=rO neg:=by
 funext x y H Q; unfold qf rO; simp only [BV] <;> rfl
theorem Vl (hu:X.A.units < cLine):bg X (compareOp .Eq) (rO false):=HD false ▸ RI hu
theorem C6 (hu:X.A.units < cLine):bg X (compareOp .NotEq) (rO true):=HD true ▸ Sy hu
def uq (K:PySem.W.Frag) (neg:Bool):R2:=fun x y H Q=>match x,y with
 | .ref a,.ref b=>∃ xs ys:List V,aC K H a xs/\aC K H b ys/\((ys=[]/\Q (.bl (xr neg xs.isEmpty)) H)\/(xs=[]/\Q (.bl (xr neg ys.isEmpty)) H))
 | _,_=>False
theorem Ic {K:PySem.W.Frag} (neg:Bool):qz K neg=uq K neg:=by
 funext x y H Q; unfold qz uq; simp only [BV] <;> rfl
theorem GO {K:PySem.W.Frag} (hK:X.K=K) (hu:X.A.units < cLine):bg X (compareOp .Eq) (uq K false):=Ic (K:=K) false ▸ WQ hK hu
theorem HN {K:PySem.W.Frag} (hK:X.K=K) (hu:X.A.units < cLine):bg X (compareOp .NotEq) (uq K true):=Ic (K:=K) true ▸ Wt hK hu
end
end L2
namespace L2
open PySem PySem.Spec PyProof.Rows
theorem TZ:oN J tt te Q H ↔ ug J 1 [] (eV 0) tt te Q H:=by
 constructor
 ·rintro ⟨W,w0,h⟩;refine ⟨W,w0,fun i ys m H hw=>⟨(h i ys m H hw).1,(h i ys m H hw).2.imp_right fun z=>⟨z.1,z.2.1,fun y H' hy σ0 hσ=>?_⟩⟩⟩;obtain ⟨a,rfl⟩:=zm hσ;exact ⟨⟨[some y],rfl,rfl⟩,z.2.2 y H' hy⟩
 ·rintro ⟨W,w0,h⟩;exact ⟨W,w0,fun i ys m H hw=>⟨(h i ys m H hw).1,(h i ys m H hw).2.imp_right fun z=>⟨z.1,z.2.1,fun y H' hy=>(z.2.2 y H' hy [none] rfl).2⟩⟩⟩
theorem K6 (h:wk wi tt te σ H Q):mh 1 [] wi (eV 0) tt te σ H Q:=by
 rw [FJ] at h;rw [B2];have e:(fun (J:It) H1=>oN J tt te Q H1)=fun J H1=>ug J 1 [] (eV 0) tt te Q H1:=by funext J H1; exact propext TZ
 rw [e] at h;exact ⟨[],⟨rfl,by simp⟩,h⟩
section
variable {X:Cx}
theorem Dv.JM (hc:X.calm=true) (hi:QI X tg iter wi)
  (ht:∀ s H ex C,oV (cD X scope cl ([x]++[]) s H ex C) ifs tt) (hV:∀ s H ex C,QG (cD X scope cl ([x]++[]) s H ex C) tg (eV 0)) (he:∀ s H ex C,QE (cD X scope cl ([x]++[]) s H ex C) elt te) (CC:jy X scope cl [] [])
  (hk:scope.kind=.function:=by rfl) (bZ:∀ y∈scope.names,y.2=.local->scope.names.lookup y.1=some .local:=by decide +kernel) (eQ:∀ y∈scope.names,y.2≠.cell:=by decide +kernel)
  (hs:∀ x,foldedSetIterable iter X.env x=pure x:=by intro _; rfl):QE X (.ListComp elt [⟨tg,iter,ifs,0⟩] scope pos) (wk wi tt te) :=
 ⟨fun pins s σ H Q I h=>(Dv.yW hc hi ht hV he CC hk bZ eQ hs).h pins s σ H Q I (K6 h)⟩
theorem Dv.Bm (i:Nat) (hc:X.calm=true) (hN:X.N.Nodup) (hi:QI X tg iter wi)
  (ht:∀ s H ex C,oV (cD X scope cl ([x]++[]) s H ex C) ifs tt) (hV:∀ s H ex C,QG (cD X scope cl ([x]++[]) s H ex C) tg (eV 0)) (he:∀ s H ex C,QE (cD X scope cl ([x]++[]) s H ex C) elt te) (CC:jy X scope cl [] []) (u6:X.N[i]?=some y:=by rfl) (rk:X.env.scope.names.lookup y=some .local:=by rfl)
  (vk:swapsWith (.ListComp elt [⟨tg,iter,ifs,0⟩] scope pos) (some (.Name y py)) spos.line X.env=pure true:=by rfl)
  (hk:scope.kind=.function:=by rfl) (bZ:∀ y∈scope.names,y.2=.local->scope.names.lookup y.1=some .local:=by decide +kernel) (eQ:∀ y∈scope.names,y.2≠.cell:=by decide +kernel)
  (hs:∀ x,foldedSetIterable iter X.env x=pure x:=by intro _; rfl):QS X (.Assign [.Name y py] (.ListComp elt [⟨tg,iter,ifs,0⟩] scope pos) spos) (jt (wk wi tt te) (eV i)) :=
 ⟨fun pins s σ H D I h=>(Dv.SQ i hc hN hi ht hV he CC u6 rk vk hk bZ eQ hs).h pins s σ H D I (K6 h)⟩
end
end L2
namespace L2
theorem Lp {α:Type} {C:List α->Prop} (h:C []):∀ us:List α,us.length=0->C us
 | [],_=>h
theorem nG {α:Type} {C:List α->Prop} {n:Nat} (h:∀ a us,us.length=n->C (a::us)):∀ us:List α,us.length=n+1->C us
 | a::us,e=>h a us (Nat.succ.inj e)
theorem Iw {α:Type} {C:List α->Prop} (h:∀ a,C [a]):∀ us:List α,us.length=1->C us:=nG fun a=>Lp (C:=fun us=>C (a::us)) (h a)
theorem JP {α:Type} {C:List α->Prop} (h:∀ a b,C [a,b]):∀ us:List α,us.length=2->C us:=nG fun a=>Iw (C:=fun us=>C (a::us)) (h a)
theorem su {α:Type} {C:List α->Prop} (h:∀ a b c,C [a,b,c]):∀ us:List α,us.length=3->C us:=nG fun a=>JP (C:=fun us=>C (a::us)) (h a)
theorem qA {α:Type} {C:List α->Prop} (h:∀ a b c d,C [a,b,c,d]):∀ us:List α,us.length=4->C us:=nG fun a=>su (C:=fun us=>C (a::us)) (h a)
theorem wu {α:Type} {C:List α->Prop} (h:∀ a b c d e,C [a,b,c,d,e]):∀ us:List α,us.length=5->C us:=nG fun a=>qA (C:=fun us=>C (a::us)) (h a)
theorem BR {α:Type} {C:List α->Prop} (h:∀ a b c d e f,C [a,b,c,d,e,f]):∀ us:List α,us.length=6->C us:=nG fun a=>wu (C:=fun us=>C (a::us)) (h a)
theorem OF {α:Type} {C:List α->Prop} (h:∀ a b c d e f g,C [a,b,c,d,e,f,g]):∀ us:List α,us.length=7->C us:=nG fun a=>BR (C:=fun us=>C (a::us)) (h a)
end L2
namespace L2
open PySem PySem.Spec PyProof.Rows
section
open PySem.AutoSeq1 (wpAny_loadPart')
open PySem.MeetsSeq PySem.SeqAt
theorem Qv {β:Type} (f:Nat->β->Sem (ForInStep β)) (I:List Nat->β->Shared->Prop) (Q:β->Shared->Prop)
  (turn:∀ x rest b s,I (x::rest) b s->wpAny M A (f x b) (fun r s'=>match r with | .yield b'=>I rest b' s' | .done b'=>Q b' s') E s)
  (fin:∀ b s,I [] b s->Q b s) (r:Std.Legacy.Range) (b:β) (h:I (List.range' r.start r.size r.step) b s):wpAny M A (forIn r b f) Q E s:=by
 rw [Std.Legacy.Range.forIn_eq_forIn_range'];exact wpAny_forIn_list f I Q turn fin _ b h
theorem V4 (l:Addr) (items:Array Value) (n:Nat) (dd:Option Addr) (sl:Array (Option Value)) (x:Value) (e:Value->Bool) (j:Nat) (hj:j < items.size)
  (hit:e items[j]=true) (jX:∀ m (hm:m < items.size),m < j->e items[m]=false) :
  Meets (Builtin.«tuple.index» ⟨[.ref l,x],[]⟩)
   (fun A R s=>s.heap.get? l=some { cls:=.type "tuple",dict:=dd,data:=.seq items n,slots:=sl }/\(∀ y,y∈items->EqAt A.in1 s y x (e y))/\R (.ok (.ret (.int j s.toks))) { s with toks:=s.toks+1 }) :=
 .of_wp fun prog w A R s h=>by
  obtain ⟨hp,g,d,tk,os⟩:=s; obtain ⟨hl,he,h⟩:=h
  wp_walk using wpAny_loadPart' hl,Qv _ (fun rest b s'=>b.1=none/\s'=⟨hp,g,d,tk,os⟩/\∃ i,i<=j/\rest=List.range' i (items.size - i)) _
  case turn =>
   rintro i rest b s' ⟨hb,rfl,i',hi,hr⟩;obtain ⟨k,hk⟩:∃ k,items.size - i'=k+1:=⟨items.size - i' - 1,by omega⟩;rw [hk,List.range'_succ] at hr;cases hr;have b8:i < items.size:=by omega
   rw [show items[i]?=some items[i] from by simp [b8]];refine wpAny_bind (he _ (Array.getElem_mem b8) prog w _ _ ?_);by_cases hij:i=j
   ·subst hij;rw [hit]
    wp_walk
    exact ⟨_,rfl,h⟩
   ·rw [jX i b8 (by omega)]
    wp_walk
    exact ⟨rfl,rfl,i+1,by omega,by congr 1; omega⟩
  case fin =>
   rintro ⟨b1,b2⟩ s' ⟨hb,rfl,i,hi,hr⟩;have:items.size - i=0:=by simpa using congrArg List.length hr.symm
   omega
  case h =>
   exact ⟨rfl,rfl,0,Nat.zero_le _,by simp [Std.Legacy.Range.size]⟩
theorem wL:∀ {ns:List Int} {us:List Value},Vals (ns.map V.int) us->IntsAre us ns
 | [],_,.nil=>.nil
 | _::_,_,.cons r t=>by
  obtain ⟨k,rfl⟩:=r;exact .cons _ _ (wL t)
theorem II:∀ {ns:List Int} {us:List Value},IntsAre us ns->∃ xs:List (Int×Tok),us=xs.map (fun p=>Value.int p.1 p.2)/\ns=xs.map (·.1)
 | _,_,.nil=>⟨[],rfl,rfl⟩
 | _,_,.cons n t h=>by
  obtain ⟨xs,e1,e2⟩:=II h;exact ⟨(n,t)::xs,by rw [e1]; rfl,by rw [e2]; rfl⟩
end
section
variable {X:Cx}
def zk (K:PySem.W.Frag):V->List V->Hp->VK->Prop:=fun x vs H Q=>match x,vs with
 | .ref l,[.int k]=>∃ ns:List Int,aC K H l (ns.map V.int)/\k∈ns/\Q (.int (ns.idxOf k:Nat)) H
 | _,_=>False
def CB (K:PySem.W.Frag):V->List V->Hp->VK->Prop:=fun x vs H Q=>match x,vs with
 | .ref l,[.int k]=>∃ ns:List Int,bJ K H l (ns.map V.int)/\k∈ns/\Q (.int (ns.idxOf k:Nat)) H
 | _,_=>False
theorem As {K:PySem.W.Frag} (hK:X.K=K):cT X "list.index" (zk K):=by
 subst hK;intro pins s σ H x vs v us Q I rx rv h;unfold zk at h;split at h
 ·rename_i l k;obtain ⟨ns,hl,hk,q⟩:=h;cases rx;obtain ⟨u,rfl,ru⟩:=vals1 rv;obtain ⟨t,rfl⟩:=ru;obtain ⟨ao,r',⟨⟨cls,dd,data,sl⟩,n,ho,hc,hd,hs⟩,hz⟩:=I.list hl;simp only at hc hd hs;subst hc hd hs;have hi:=wL r';have hlen:=hi.length;have hj:ns.idxOf k < ns.length:=List.idxOf_lt_length_iff.mpr hk;rw [List.length_map] at hz;have hsl:sizeLine < 2 ^ 62:=by decide
  refine call_meets PySem.F.slot_list_index ⟨_,ho,rfl⟩ PySem.F.entry_list_index (PySem.F.args_list_index_2 _ _)
   (PySem.SeqAt.list_indexAt l ao.toArray n none sl (.int k t) (isInt k) (ns.idxOf k) (by simpa [hlen] using hj) (by omega) ?_ ?_) ⟨ho,fun y hy=>(eq_isInt k t hi y (by simpa using hy)).at _ _,⟨.int _,H,I.kept (t':=s.toks+1) fun _ _ e=>e,⟨_,rfl⟩,q⟩⟩
  ·show isInt k ao[ns.idxOf k]=true;rw [isInt_at k hi _ (by omega) hj]
   simpa using List.getElem_idxOf hj
  ·intro j hjs b8;show isInt k ao[j]=false;rw [isInt_at k hi j (by simpa using hjs) (by omega)];exact ne_of_lt_idxOf b8 _
 ·exact h.elim
theorem NS {K:PySem.W.Frag} (hK:X.K=K):cT X "tuple.index" (CB K):=by
 subst hK;intro pins s σ H x vs v us Q I rx rv h;unfold CB at h;split at h
 ·rename_i l k;obtain ⟨ns,hl,hk,q⟩:=h;cases rx;obtain ⟨u,rfl,ru⟩:=vals1 rv;obtain ⟨t,rfl⟩:=ru;obtain ⟨ao,r',⟨⟨cls,dd,data,sl⟩,ho,hc,n,hs⟩,hz⟩:=I.tuple hl;simp only at hc hs;subst hc hs;have hi:=wL r';have hlen:=hi.length;have hj:ns.idxOf k < ns.length:=List.idxOf_lt_length_iff.mpr hk;refine call_meets PySem.F.slot_tuple_index ⟨_,ho,rfl⟩ PySem.F.entry_tuple_index (PySem.F.args_tuple_index_2 _ _)
   (V4 l ao.toArray n dd sl (.int k t) (isInt k) (ns.idxOf k) (by simpa [hlen] using hj) ?_ ?_) ⟨ho,fun y hy=>(eq_isInt k t hi y (by simpa using hy)).at _ _,⟨.int _,H,I.kept (t':=s.toks+1) fun _ _ e=>e,⟨_,rfl⟩,q⟩⟩
  ·show isInt k ao[ns.idxOf k]=true;rw [isInt_at k hi _ (by omega) hj]
   simpa using List.getElem_idxOf hj
  ·intro j hjs b8;show isInt k ao[j]=false;rw [isInt_at k hi j (by simpa using hjs) (by omega)];exact ne_of_lt_idxOf b8 _
 ·exact h.elim
def CU (K:PySem.W.Frag):List V->Hp->VK->Prop:=fun xs H Q=>match xs with
 | [.ref p]=>∃ (ns:List Int) (m:Int),aC K H p (ns.map V.int)/\m∈ns/\(∀ k∈ns,m<=k)/\Q (.int m) H
 | _=>False
theorem E4 {K:PySem.W.Frag} (hK:X.K=K) (hc:X.calm=true):cI X (.builtin "min") (CU K):=by
 subst hK;intro pins s σ H xs us Q I r h;unfold CU at h;split at h
 ·obtain ⟨ns,m,hl,hm,hle,q⟩:=h;obtain ⟨u,rfl,rx⟩:=vals1 r;cases rx;obtain ⟨ao,r',pl,hz⟩:=I.list hl;obtain ⟨xs,e1,e2⟩:=II (wL r');have he:ao.toArray=intItems xs.toArray:=by rw [e1]; simp [intItems]
  rw [he] at pl;have hx:0 < xs.length:=by
   rw [e2] at hm;cases xs with
   | nil=>cases hm
   | cons _ _=>exact Nat.succ_pos _
  refine min_intList (I.ok.hd hc) pl.isList (by simpa using hx) fun v h' tk hv hk=>?_;obtain ⟨t,rfl⟩:=intItems_at hv;obtain ⟨n9,oy⟩:=PySem.argBest_lt (numAt xs.toArray) (xs.toArray.size - 1);refine ⟨.int m,H,I.kept (t':=tk) hk,⟨t,?_⟩,q⟩;have hn:∀ i (h:i < xs.length),numAt xs.toArray i=xs[i].1:=fun i h=>by simp [numAt,h]
  have hsz:xs.toArray.size=xs.length:=by simp
  rw [hsz] at n9 oy ⊢;generalize argBest _ (xs.length - 1)=a at n9 oy ⊢;have ha:a < xs.length:=by omega
  have h1:m<=numAt xs.toArray a:=hle _ (by rw [e2,hn a ha]; exact List.mem_map_of_mem (List.getElem_mem ha));rw [e2] at hm;obtain ⟨p,hp,hpm⟩:=List.mem_map.mp hm;obtain ⟨i,hi,rfl⟩:=List.getElem_of_mem hp;have h2:=oy i (by omega);rw [hn i hi,hpm] at h2;rw [show numAt xs.toArray a=m by omega]
 ·exact h.elim
end
end L2
namespace HT
open PySem PySem.Spec PyProof.Rows
section
variable {prog:Program} {w:World} {A:Around} {E:Value->Shared->Prop} {s:Shared}
theorem WB {t sl:Addr} {items:Array Value} {vl vu:Value} {lo hi:Option Int} {Q:Value->Shared->Prop} (ht:IsTup s.heap t items) (hs:s.heap.IsSliceOf sl vl vu .none) (pl:IsPart vl lo) (pu:IsPart vu hi)
  (hw:bh items.size 0 lo=0/\bh items.size items.size hi=items.size) (h:Q (.ref t) s):wpAny (model prog w) A (getItem (.ref t) (.ref sl)) Q E s:=by
 obtain ⟨os,lz,yn,uW⟩:=id hs;have DV:s.TypeIs (.ref sl) "slice" := ⟨os,lz,yn⟩;obtain ⟨⟨cls,dd,data,slo⟩,ho,hc,n,hd⟩:=id ht;simp only at hc hd;subst hc hd;unfold getItem
 try with_reducible refine wpAny_holding ?_
 first | refine wpAny_bind (wpAny_pure ?_) | skip
 refine wpAny_bind (wpAny_sequenceKey ht.typeIs (by decide) ?_);refine wpAny_bind (wpAny_callSpecial?_slot (name:=Str.ofString "__getitem__") ht.typeIs PyProof.Rows.slot_tuple_getitem
  (wpAny_call_entry PyProof.Rows.slot_tuple_getitem ht.typeIs entry_tuple_getitem ?_ (args_tuple_getitem _ _)))
 show wpAny _ _ (Builtin.Tuple.tupleItemsOf (.ref t) >>= _) _ _ s;refine wpAny_bind (tupleItemsOf_ ht ?_);refine wpAny_bind (wpAny_typeOf DV ?_);rw [if_pos (by decide)];refine wpAny_bind (FG hs pl pu ?_);show wpAny _ _ (if (((bh items.size 0 lo:Nat):Int) == 0 && (1:Int) == 1 && (bh items.size items.size hi - bh items.size 0 lo) == items.size)=true then _ else _) _ _ s;rw [if_pos (by rw [hw.1,hw.2]; simp)];obtain ⟨hp,g,d,tk,uU⟩:=s
 wp_walk using AutoSeq1.wpAny_loadPart' ho
 exact ⟨_,rfl,wpAny_pure h⟩
theorem SV {t b:Addr} {ws:List Value} {Q:Value->Shared->Prop} (ht:IsTup s.heap t #[]) (hb:IsTup s.heap b ws.toArray) (h:Q (.ref b) s):wpAny (model prog w) A (binaryOp .Add (.ref t) (.ref b)) Q E s:=by
 obtain ⟨⟨cls,dd,data,sl⟩,ho,hc,n,hd⟩:=id ht;obtain ⟨⟨cls2,xZ,data2,yq⟩,og,jc,n2,hd2⟩:=id hb;simp only at hc hd jc hd2;subst hc hd jc hd2;exact concat_meets ⟨_,ho,rfl⟩ ⟨_,og,rfl⟩ noFill_tuple_add seq_tuple_add PySem.F.slot_tuple_add PySem.F.entry_tuple_add (PySem.F.args_tuple_add_2 _ _)
  (tuple_addW0 t b #[] ws.toArray n n2 dd xZ sl yq rfl) ⟨ho,og,h⟩
end
end HT
namespace L2
open PySem PySem.Spec PyProof.Rows
section
variable {X:Cx}
def wb (K:PySem.W.Frag):R2:=fun x y H Q=>match x,y with
 | .ref a,.ref b=>∃ xs ys,bJ K H a xs/\bJ K H b ys/\xs.length+ys.length<=sizeLine/\((xs=[]/\Q (.ref b) H)\/(xs≠[]/\ys≠[]/\∀ p,H p=none->Q (.ref p) (upd H p (.tup (xs++ys)))))
 | _,_=>False
theorem PU {K:PySem.W.Frag} (hK:X.K=K):bg X (binaryOp .Add) (wb K):=by
 subst hK;intro pins s σ H x y v u Q I rx ry h;unfold wb at h;split at h
 ·obtain ⟨xs,ys,ha,hb,hz,⟨rfl,q⟩ | ⟨n1,n2,q⟩⟩:=h
  ·cases rx; cases ry;obtain ⟨ao,r1,p1,_⟩:=I.tuple ha;obtain ⟨jZ,r2,p2,_⟩:=I.tuple hb;cases r1;exact HT.SV p1 p2 ⟨.ref _,H,I,rfl,q⟩
  ·exact Sf pins s σ H _ _ v u Q I rx ry ⟨_,_,xs,ys,rfl,rfl,ha,hb,n1,hz,fun z=>absurd z n2,fun _=>q⟩
 ·exact h.elim
def AN (K:PySem.W.Frag):R2:=fun x y H Q=>match x,y with
 | .ref a,.ref b=>∃ xs,bJ K H a xs/\bJ K H b []/\Q (.bl xs.isEmpty) H
 | _,_=>False
theorem Q6 {K:PySem.W.Frag} (hK:X.K=K) (hu:X.A.units < cLine):bg X (compareOp .Eq) (AN K):=by
 subst hK;intro pins s σ H x y v u Q I rx ry h;unfold AN at h;split at h
 ·obtain ⟨xs,ha,hb,q⟩:=h;cases rx; cases ry;obtain ⟨ao,r1,p1,_⟩:=I.tuple ha;obtain ⟨jZ,r2,p2,_⟩:=I.tuple hb;cases r2;refine PySem.SeqAt.eq_tupleAt (e:=fun _=>true) p1 p2 hu (fun j _ h2=>absurd h2 (Nat.not_lt_zero _)) ⟨.bl xs.isEmpty,H,I,?_,q⟩;cases r1 <;> rfl
 ·exact h.elim
def yO (K:PySem.W.Frag):V->Option Int->Option Int->Hp->VK->Prop:=fun x lo hi H Q=>match x with
 | .ref a=>∃ xs,bJ K H a xs/\(HT.bh xs.length 0 lo=0/\HT.bh xs.length xs.length hi=xs.length->Q (.ref a) H)/\(∀ p,H p=none->Q (.ref p) (upd H p (.tup (fH xs lo hi))))
 | _=>False
theorem Su {K:PySem.W.Frag} (hK:X.K=K):gS X (yO K):=by
 subst hK;intro pins s σ H x v vl vu lo hi sl Q I rx hs pl pu h;unfold yO at h;split at h
 ·obtain ⟨xs,hx,q1,q2⟩:=h;by_cases hw:HT.bh xs.length 0 lo=0/\HT.bh xs.length xs.length hi=xs.length
  ·cases rx;obtain ⟨ao,r,ht,hz⟩:=I.tuple hx;have hlen:ao.toArray.size=xs.length:=by rw [List.size_toArray]; exact r.length.symm
   refine ⟨"tuple",_,PyProof.Rows.slot_tuple_getitem.lookup,ht.typeIs,?_⟩;exact HT.WB ht hs pl pu (by rw [hlen]; exact hw) ⟨.ref _,H,I,rfl,q1 hw⟩
  ·exact IG pins s σ H _ v vl vu lo hi sl Q I rx hs pl pu ⟨_,xs,rfl,hx,hw,q2⟩
 ·exact h.elim
def Bo (r:V->List V->Hp->VK->Prop) (to:TE) (t:TA):TE:=fun σ H Q=>to σ H fun x H1=>match x with
 | .ref l=>(match H1 l with
  | some (.tup _)=>t σ H1 fun xs H2=>r (.ref l) xs H2 Q
  | _=>False)
 | _=>False
section
variable {o e:Expr} {es:List Expr} {name:Str} {id:String} {r:V->List V->Hp->VK->Prop} {to:TE} {t:TA} {apos bu:Pos}
theorem YU (slot:Slot "tuple" name id) (cw:typeOf (.builtin id)=pure (.type "method_descriptor")) (hm:cT X id r) (ho:PE X o to) (ha:PA X (e::es) t)
  (hs:(e::es).all noStar=true:=by rfl) (aP:decide ((e::es).length+([]:List Keyword).length+(if ([]:List Keyword).isEmpty then 0 else 1) < 30)=true:=by rfl)
  (gk:attributeBase o name X.env (eval o X.env)=eval o X.env:=by rfl) (gn:(apos.endLine == bu.line)=true:=by rfl) :
  PE X (.Call (.Attribute o name apos) (e::es) [] bu) (Bo r to t):=by
 have hs':=hs;rw [List.all_cons,Bool.and_eq_true] at hs';have aO:starEach (e::es) X.env=(false,eval e X.env)::starEach es X.env:=fc hs'.1;have uO:(backTo bu (starEach es X.env)).any (·.1)=false:=gW hs'.2;have uJ:((backTo bu (starEach (e::es) X.env)).all (fun x=>!x.1) && (backToKw bu (keywordEach [] X.env)).all (fun x=>x.1.isSome)
   && decide ((e::es).length+([]:List Keyword).length+(if ([]:List Keyword).isEmpty then 0 else 1) < 30))=true:=by
  rw [w6 hs,aP];rfl
 intro pins s σ H Q I h;refine wpAny_Call_method_late gk uJ gn rfl (aD (ho pins s σ H _ I h) fun v s1 ⟨x,H1,I1,r1,q1⟩=>?_);dsimp only at q1;split at q1
 ·rename_i l;split at q1
  ·rename_i zs el;cases (show v=Value.ref l from r1);obtain ⟨_,ao,_,ob,eo,c,n,d,dn⟩:=(show b9 X.prog X.w H1 s1.heap l (.tup zs) from I1.aB l _ el);refine ⟨"tuple",id,PySem.F.plainAttrs_tuple,slot,cw,⟨ob,eo,c⟩,fun a z=>(by cases z; exact ⟨ob,eo,dn⟩),?_⟩;have hA:=ha bu pins s1 σ H1 _ I1 q1;rw [aO] at hA ⊢;refine Calls.callWith_builtin (by show (false || (backTo bu (starEach es X.env)).any (·.1))=false; rw [uO] <;> rfl) (Calls.evalArgs_plain ?_);exact aD hA fun us s2 ⟨vs,H2,I2,r2,q2⟩=>hm pins s2 σ H2 (.ref l) vs _ us Q I2 rfl r2 q2
  ·exact q1.elim
 ·exact q1.elim
theorem Dv.OC (slot:Slot "tuple" name id) (cw:typeOf (.builtin id)=pure (.type "method_descriptor")) (hm:cT X id r) (ho:QE X o to) (ha:QA X (e::es) t)
  (hs:(e::es).all noStar=true:=by rfl) (aP:decide ((e::es).length+([]:List Keyword).length+(if ([]:List Keyword).isEmpty then 0 else 1) < 30)=true:=by rfl)
  (gk:attributeBase o name X.env (eval o X.env)=eval o X.env:=by rfl) (gn:(apos.endLine == bu.line)=true:=by rfl):QE X (.Call (.Attribute o name apos) (e::es) [] bu) (Bo r to t):=⟨YU slot cw hm ho.h ha.h hs aP gk gn⟩
end
theorem Iz:bootBuiltins "min" = some (.builtin "min"):=by kernel_rfl
end
theorem bH.m {j k:Nat} {A:Around} (r:bH k A) (h:j<=k:=by decide):bH j A:=r.mono h
theorem fI {C d x:Addr} {f:Str} {fs gs:List (Str×V)} {v:V} {H:Hp} {Q:V->Prop} (h:H x=some (.ins C d fs)) (s:cZ fs gs) (e:List.lookup f gs=some v) (q:Q v):FI C f (.ref x) H Q:=⟨x,_,_,_,rfl,h,(s f).trans e,q⟩
theorem mI {C d x:Addr} {f:Str} {fs gs:List (Str×V)} {H:Hp} {q:Prop} (h:H x=some (.ins C d fs)) (s:cZ fs gs) (r:q) (e:List.lookup f gs=none:=by rfl):MI C f (.ref x) H q:=⟨x,_,_,rfl,h,(s f).trans e,r⟩
@[elab_as_elim] theorem c8 {H:Hp} {p:Addr} {o:HO} {C:Hp->Prop} (h:H p=none) (k:∀ H1,ah H H1->H1 p=some o->C H1):C (upd H p o):=k _ (ah.upd h) ax
end L2
set_option maxHeartbeats 0
namespace L2.bO
open PySem PySem.Spec PyProof.Rows
local macro_rules | `(tactic| walk_at "s")=>`(tactic| exact ⟨rfl,rfl,rfl,by decide +kernel,rfl,by decide +kernel,by decide +kernel⟩)
abbrev e_ (N:List Str) (s:Stmt):Prop:=aE N N (aA s)
abbrev _root_.L2.FT.k {K:PySem.W.Frag} {mg:Str->Option Value} {a b:Str} {st:Stmt} {ps:List Str} (t:FT K mg a b st ps) (P:Program) (w:World) (base:Heap) (n:Nat) (q:Sp):Prop:=az P w K mg base aJ n t.f t.d ps q
abbrev _root_.L2.MT.k {K:PySem.W.Frag} {C:Addr} {a b:Str} {st:Stmt} {ps:List Str} (t:MT K C a b st ps) (P:Program) (w:World) (mg:Str->Option Value) (base:Heap) (n:Nat) (q:Sp):Prop:=az P w K mg base aJ n t.f t.d ps q
def top (i:Nat):Stmt:=PySem.Challenge.pw_leadnames_k33_leads_are_read.main.body.getD i (.Pass ⟨0,0,0,0⟩)
abbrev Ko:=top 2
abbrev FV:=top 3
abbrev Kj:=top 4
abbrev C3:=top 5
abbrev Gx:=top 26
abbrev FQ:=top 27
abbrev J7:=top 28
abbrev F8:=top 29
abbrev Fh:=top 30
abbrev Jh:=top 31
abbrev Hd:=top 32
abbrev Ia:=top 33
abbrev JV:=top 34
abbrev GB:=top 35
abbrev y8:=top 36
abbrev yY:=top 50
abbrev Bs:=top 51
abbrev Bw:=top 52
abbrev zU:=top 53
abbrev tI:=top 54
abbrev tM:=top 55
abbrev Bz:=top 61
abbrev Cs:=top 62
abbrev zC:=top 63
abbrev B4:=top 64
abbrev Js:=top 65
abbrev zq:=top 66
abbrev AY:=top 67
abbrev Cu:=top 68
abbrev BA:=top 69
abbrev zp:=top 70
abbrev zw:=top 71
abbrev Dj:=top 72
abbrev qc:=top 73
abbrev pW:=top 74
abbrev Be:=top 75
abbrev yI:=top 76
abbrev Cp:=top 78
abbrev B5:=top 79
abbrev LF:=top 81
abbrev Jq:=top 82
abbrev AH:=top 83
abbrev B6:=top 84
abbrev Ca:=top 85
abbrev BG:=top 86
abbrev y4:=top 87
abbrev Br:=top 88
abbrev B8:=top 89
abbrev BF:=top 90
abbrev Dl:=top 91
abbrev zH:=top 92
abbrev AO:=top 93
abbrev BB:=top 94
abbrev zW:=top 95
abbrev Ct:=top 96
abbrev AR:=top 97
abbrev Bj:=top 98
abbrev AK:=top 99
abbrev Bf:=top 100
abbrev zP:=top 101
theorem Xb:e_ ["house","folder"] Ko:=by walk_at "s"
theorem Dq:aE ["house","folder","base"] ["house","folder"] (aA FV):=by walk_at "s"
theorem HE:aE ["house","folder","stack"] ["house","folder"] (aA Kj):=by walk_at "s"
theorem nI:aE ["house","asker","folder","root","here","stack","place"] ["house","asker","folder"] (aA C3):=by walk_at "s"
theorem Vy:e_ ["number"] Gx:=by walk_at "s"
theorem Y6:e_ ["text"] FQ:=by walk_at "s"
theorem NK:e_ ["text"] J7:=by walk_at "s"
theorem Y2:e_ ["text"] F8:=by walk_at "s"
theorem PM:e_ ["text"] Fh:=by walk_at "s"
theorem IL:aE ["path","parts"] ["path"] (aA Jh):=by walk_at "s"
theorem Vs:e_ ["text"] Hd:=by walk_at "s"
theorem Wx:e_ ["text"] Ia:=by walk_at "s"
theorem Qm:e_ ["text"] JV:=by walk_at "s"
theorem Po:e_ ["text"] GB:=by walk_at "s"
theorem Uq:e_ ["path"] y8:=by walk_at "s"
theorem qB:aE ["house","asker","folder","root","names","stack","place"] ["house","asker","folder"] (aA yY):=by walk_at "s"
theorem Iq:aE ["leads","first"] ["leads"] (aA Bs):=by walk_at "s"
theorem HP:aE ["house","asker","from_root","parts","last","ended"] ["house","asker","from_root","parts","last"] (aA Bw):=by walk_at "s"
theorem Hg:aE ["house","asker","path","last","read"] ["house","asker","path","last"] (aA zU):=by walk_at "s"
theorem SY:e_ ["house","asker","path","last"] tI:=by walk_at "s"
theorem O3:e_ ["house","asker","path","last"] tM:=by walk_at "s"
theorem JO:aE ["path","parts"] ["path"] (aA Bz):=by walk_at "s"
theorem Au:aE ["house","asker","path","asked","ended"] ["house","asker","path"] (aA Cs):=by walk_at "s"
theorem Uo:e_ ["house","seat"] zC:=by walk_at "s"
theorem NI:e_ ["told"] B4:=by walk_at "s"
theorem YX:e_ ["house","number"] Js:=by walk_at "s"
theorem Of:e_ ["house","asker","path"] zq:=by walk_at "s"
theorem Jf:aE ["house","asker","path","number"] ["house","asker","path"] (aA AY):=by walk_at "s"
theorem OQ:e_ ["house","asker","number","right","reason"] Cu:=by walk_at "s"
theorem RN:e_ ["house","asker","folder"] BA:=by walk_at "s"
theorem Tp:e_ ["house","seat"] zp:=by walk_at "s"
theorem F5:aE ["house","asker","path","seat"] ["house","asker","path"] (aA zw):=by walk_at "s"
theorem Qy:e_ ["house","seat","number"] Dj:=by walk_at "s"
theorem Fw:aE ["house","asker","path","mine","rest","seat"] ["house","asker","path","mine","rest"] (aA qc):=by walk_at "s"
theorem Gg:aE ["house","asker","path","text","mine","rest","seat"] ["house","asker","path","text","mine","rest"] (aA pW):=by walk_at "s"
theorem FH:aE ["house","asker","path","lead","seat"] ["house","asker","path","lead"] (aA Be):=by walk_at "s"
theorem Jt:aE ["house","asker","path","mine","rest","number"] ["house","asker","path","mine","rest"] (aA yI):=by walk_at "s"
theorem R5:e_ ["house","asker","path"] Cp:=by walk_at "s"
theorem Jj:aE ["house","asker","path","folder"] ["house","asker","path"] (aA B5):=by walk_at "s"
theorem Yu:e_ ["_law_script","_law_k"] LF:=by walk_at "s"
theorem xk:aE ["_law_state","_law_base","_law_found","_law_number"] ["_law_state","_law_base"] (aA Jq):=by walk_at "s"
theorem O9:e_ ["_law_state"] AH:=by walk_at "s"
theorem oO:aE ["_law_state","_law_most","_law_parts_here","_law_k","_law_name","_law_text"] ["_law_state","_law_most"] (aA B6):=by walk_at "s"
theorem SE:e_ ["_law_state"] Ca:=by walk_at "s"
theorem Pb:e_ ["_law_house_here","_law_asker","_law_kind","_law_path_here","_law_state"] BG:=by walk_at "s"
theorem Qw:e_ ["_law_house_here","_law_asker","_law_kind","_law_path_here","_law_state"] y4:=by walk_at "s"
theorem IF:aE ["_law_house_here","_law_folder","_law_tree"] ["_law_house_here","_law_folder"] (aA Br):=by walk_at "s"
theorem xp:aE ["_law_house_here","_law_folder","_law_found","_law_turn","_law_tree"] ["_law_house_here","_law_folder"] (aA B8):=by walk_at "s"
theorem rL:aE ["_law_house_here","_law_asker","_law_folder","_law_stack_here","_law_place"] ["_law_house_here","_law_asker","_law_folder"] (aA BF):=by walk_at "s"
theorem rE:aE ["_law_house_here","_law_asker","_law_folder","_law_name","_law_names","_law_one"] ["_law_house_here","_law_asker","_law_folder","_law_name"] (aA Dl):=by walk_at "s"
theorem Ig:aE ["_law_path_here","_law_parts_here"] ["_law_path_here"] (aA zH):=by walk_at "s"
theorem Vr:e_ ["_law_house_here","_law_asker","_law_path_here","_law_here"] AO:=by walk_at "s"
theorem Kq:aE ["_law_house_here","_law_asker","_law_here","_law_stack_here"] ["_law_house_here","_law_asker","_law_here"] (aA BB):=by walk_at "s"
theorem Cm:aE ["_law_chain","_law_number","_law_ring_here","_law_at"] ["_law_chain","_law_number"] (aA zW):=by walk_at "s"
theorem Qa:e_ ["_law_house_here","_law_asker","_law_here","_law_part"] Ct:=by walk_at "s"
theorem eW:aE ["_law_house_here","_law_asker","_law_path_here","_law_final","_law_asked","_law_here","_law_tokens","_law_name","_law_thing","_law_step","_law_many","_law_part","_law_chain","_law_number"] ["_law_house_here","_law_asker","_law_path_here","_law_final"] (aA AR):=by walk_at "s"
theorem Jk:aE ["_law_told","_law_due","_law_kinds"] ["_law_told","_law_due"] (aA Bj):=by walk_at "s"
theorem wG:aE ["_law_house_here","_law_asker","_law_path_here","_law_final","_law_due","_law_asked","_law_way_here"] ["_law_house_here","_law_asker","_law_path_here","_law_final"] (aA AK):=by walk_at "s"
theorem JB:aE ["_law_cell","_law_house_here"] ["_law_cell"] (aA Bf):=by walk_at "s"
theorem lX:aE ["_law_script","_law_house_here","_law_kinds","_law_cell","_law_state","_law_asker","_law_path_here"] ["_law_script"] (aA zP):=by walk_at "s"
abbrev Ff:=inClass (top 15) 0
theorem SS:e_ ["self","told"] Ff:=by walk_at "s"
abbrev KS:=inClass (top 16) 0
theorem WI:e_ ["self","reason"] KS:=by walk_at "s"
abbrev Lz:=inClass (top 41) 0
theorem Tf:e_ ["self","number","kind","owner","mine","rest","text"] Lz:=by walk_at "s"
abbrev ID:=inClass (top 41) 1
theorem OR:e_ ["self","asker"] ID:=by walk_at "s"
abbrev FO:=inClass (top 42) 0
theorem Xa:e_ ["self"] FO:=by walk_at "s"
abbrev Kx:=inClass (top 42) 1
theorem Hj:aE ["self","kind","owner","mine","rest","text","number"] ["self","kind","owner","mine","rest","text"] (aA Kx):=by walk_at "s"
abbrev HB:=inClass (top 42) 2
theorem Xk:e_ ["self","owner","mine","rest"] HB:=by walk_at "s"
abbrev Gm:=inClass (top 42) 3
theorem Zj:e_ ["self","owner","text","mine","rest"] Gm:=by walk_at "s"
abbrev Fn:=inClass (top 42) 4
theorem Vn:e_ ["self","owner","path"] Fn:=by walk_at "s"
abbrev Ks:=inClass (top 42) 6
theorem NW:e_ ["self","number"] Ks:=by walk_at "s"
abbrev IV:=inClass (top 42) 7
theorem Wj:e_ ["self","folder","name"] IV:=by walk_at "s"
abbrev HQ:=inClass (top 42) 10
theorem Sk:e_ ["self","number"] HQ:=by walk_at "s"
abbrev Ln:=inClass (top 42) 11
theorem G9:aE ["self","number","mine","rest","thing"] ["self","number","mine","rest"] (aA Ln):=by walk_at "s"
abbrev HW:=inClass (top 42) 13
theorem wx:aE ["self","folder","name","number","thing","former","known"] ["self","folder","name","number"] (aA HW):=by walk_at "s"
abbrev E2:=inClass (top 42) 14
theorem Fj:aE ["self","folder","name","number"] ["self","folder","name"] (aA E2):=by walk_at "s"
abbrev Gy:=inClass (top 46) 0
theorem TU:e_ ["self","number","way"] Gy:=by walk_at "s"
abbrev G5:=inClass (top 47) 0
theorem R3:e_ ["self","step","reason"] G5:=by walk_at "s"
abbrev zX:=inClass (top 48) 0
theorem Ra:e_ ["self","leads"] zX:=by walk_at "s"
abbrev zJ:=inClass (top 49) 0
theorem Xf:e_ ["self","house","asker","last"] zJ:=by walk_at "s"
abbrev yG:=inClass (top 49) 1
theorem JQ:aE ["self","from_root","parts","start"] ["self","from_root","parts"] (aA yG):=by walk_at "s"
abbrev z8:=inClass (top 49) 2
theorem Gu:aE ["self","part"] ["self"] (aA z8):=by walk_at "s"
abbrev AD:=inClass (top 49) 3
theorem P5:e_ ["self","reason"] AD:=by walk_at "s"
abbrev Ap:=inClass (top 49) 4
theorem ZG:e_ ["self","part"] Ap:=by walk_at "s"
abbrev Bg:=inClass (top 49) 5
theorem Ku:aE ["self","stack"] ["self"] (aA Bg):=by walk_at "s"
abbrev C7:=inClass (top 49) 6
theorem z9:aE ["self","name","number","kind"] ["self","name"] (aA C7):=by walk_at "s"
abbrev CQ:=inClass (top 49) 7
theorem Qq:e_ ["self","number"] CQ:=by walk_at "s"
abbrev Ag:=inClass (top 49) 8
theorem Kl:aE ["self","number","read"] ["self","number"] (aA Ag):=by walk_at "s"
abbrev zr:=inClass (top 49) 9
theorem sy:aE ["self","names","folder"] ["self"] (aA zr):=by walk_at "s"
abbrev La:=inClass (top 58) 0
theorem Zg:e_ ["self","owner"] La:=by walk_at "s"
abbrev Gp:=inClass (top 58) 1
theorem Zc:e_ ["self","name"] Gp:=by walk_at "s"
abbrev FP:=inClass (top 58) 3
theorem YC:e_ ["self"] FP:=by walk_at "s"
abbrev Lj:=inClass (top 58) 4
theorem Oa:e_ ["self","asker"] Lj:=by walk_at "s"
abbrev Gi:=inClass (top 58) 5
theorem Yi:e_ ["self","asker"] Gi:=by walk_at "s"
abbrev FN:=inClass (top 58) 6
theorem XZ:e_ ["self","number"] FN:=by walk_at "s"
abbrev HZ:=inClass (top 58) 7
theorem XC:e_ ["self","number"] HZ:=by walk_at "s"
abbrev E1:=inClass (top 58) 10
theorem Td:e_ ["self","number","name"] E1:=by walk_at "s"
abbrev GX:=inClass (top 58) 12
theorem XR:e_ ["self","number"] GX:=by walk_at "s"
abbrev KW:=inClass (top 58) 13
theorem Um:e_ ["self","number"] KW:=by walk_at "s"
abbrev Gn:=inClass (top 58) 15
theorem Zm:e_ ["self","tree"] Gn:=by walk_at "s"
abbrev GV:=inClass (top 58) 16
theorem Zq:e_ ["self","tree"] GV:=by walk_at "s"
abbrev Hr:=inClass (top 58) 17
theorem VP:e_ ["self","asker","number","right"] Hr:=by walk_at "s"
abbrev Lf:=inClass (top 58) 23
theorem OY:e_ ["self","asker"] Lf:=by walk_at "s"
abbrev Hk:=inClass (top 58) 24
theorem WT:e_ ["self","tree"] Hk:=by walk_at "s"
abbrev IW:=inClass (top 58) 25
theorem Uy:e_ ["self","number"] IW:=by walk_at "s"
abbrev Jw:=inClass (top 58) 26
theorem R6:e_ ["self","name"] Jw:=by walk_at "s"
abbrev KU:=inClass (top 58) 27
theorem N1:e_ ["self","asker","folder"] KU:=by walk_at "s"
abbrev Jl:=inClass (top 58) 28
theorem UL:e_ ["self","asker","folder"] Jl:=by walk_at "s"
abbrev JT:=inClass (top 58) 29
theorem Lk:aE ["self","tree","owner","root"] ["self","tree","owner"] (aA JT):=by walk_at "s"
abbrev Kk:=inClass (top 60) 0
theorem Yd:e_ ["self","folder","name"] Kk:=by walk_at "s"
set_option genInjectivity false in
set_option genSizeOf false in
structure Tx (K:PySem.W.Frag) (mg:Str->Option Value) where
 fV:FT K mg "top_of" "top_of" Ko ["house","folder"]
 pV:FT K mg "base_of" "base_of" FV ["house","folder"]
 dZ:FT K mg "stack_of" "stack_of" Kj ["house","folder"]
 pP:FT K mg "is_seen" "is_seen" C3 ["house","asker","folder"]
 ky:FT K mg "is_whole" "is_whole" Gx ["number"]
 iA:FT K mg "is_name" "is_name" FQ ["text"]
 pN:FT K mg "is_rights" "is_rights" J7 ["text"]
 qq:FT K mg "is_text" "is_text" F8 ["text"]
 pY:FT K mg "is_part" "is_part" Fh ["text"]
 cH:FT K mg "parts_of" "parts_of" Jh ["path"]
 il:FT K mg "check_name" "check_name" Hd ["text"]
 eg:FT K mg "check_rights" "check_rights" Ia ["text"]
 pb:FT K mg "check_one_right" "check_one_right" JV ["text"]
 pG:FT K mg "check_text" "check_text" GB ["text"]
 pK:FT K mg "check_lead" "check_lead" y8 ["path"]
 qD:FT K mg "names_to" "names_to" yY ["house","asker","folder"]
 pj:FT K mg "from_least" "from_least" Bs ["leads"]
 kN:FT K mg "walk_parts" "walk_parts" Bw ["house","asker","from_root","parts","last"]
 kg:FT K mg "walk_path" "walk_path" zU ["house","asker","path","last"]
 {Ew:Addr}
 {xF:FuncData}
 ki:jL K "walk" "walk" tI Ew xF [.bool true]
 uj:mg "walk" = some (.ref Ew)
 Cf:Binds K xF ["house","asker","path","last"] []
 rq:Binds K xF ["house","asker","path","last"] [.bool true]
 {ET:Addr}
 {xU:FuncData}
 sX:jL K "asked_of" "asked_of" tM ET xU [.bool true]
 Jd:mg "asked_of" = some (.ref ET)
 vE:Binds K xU ["house","asker","path","last"] []
 IT:Binds K xU ["house","asker","path","last"] [.bool true]
 pd:FT K mg "check_seat" "check_seat" Bz ["path"]
 oT:FT K mg "seat_of" "seat_of" Cs ["house","asker","path"]
 qj:FT K mg "thing_at" "thing_at" zC ["house","seat"]
 kb:FT K mg "number_found" "number_found" B4 ["told"]
 pO:FT K mg "is_folder" "is_folder" Js ["house","number"]
 kQ:FT K mg "find_any" "find_any" zq ["house","asker","path"]
 kh:FT K mg "find_folder" "find_folder" AY ["house","asker","path"]
 qw:FT K mg "check_may" "check_may" Cu ["house","asker","number","right","reason"]
 pq:FT K mg "check_kept" "check_kept" BA ["house","asker","folder"]
 pH:FT K mg "check_free" "check_free" zp ["house","seat"]
 iw:FT K mg "free_seat_of" "free_seat_of" zw ["house","asker","path"]
 iB:FT K mg "seat_thing" "seat_thing" Dj ["house","seat","number"]
 {DY:Addr}
 {uV:FuncData}
 {MC:Tok}
 {EG:Tok}
 xj:jL K "make_folder" "make_folder" qc DY uV [.str "lgw" MC,.str "" EG]
 Sq:mg "make_folder" = some (.ref DY)
 yy:Binds K uV ["house","asker","path","mine","rest"] []
 K2:Binds K uV ["house","asker","path","mine","rest"] [.str "" EG]
 Gb:Binds K uV ["house","asker","path","mine","rest"] [.str "lgw" MC,.str "" EG]
 {DP:Addr}
 {u3:FuncData}
 {Ms:Tok}
 {EW:Tok}
 wq:jL K "make_file" "make_file" pW DP u3 [.str "lgw" Ms,.str "" EW]
 RU:mg "make_file" = some (.ref DP)
 B7:Binds K u3 ["house","asker","path","text","mine","rest"] []
 FK:Binds K u3 ["house","asker","path","text","mine","rest"] [.str "" EW]
 KR:Binds K u3 ["house","asker","path","text","mine","rest"] [.str "lgw" Ms,.str "" EW]
 qp:FT K mg "make_lead" "make_lead" Be ["house","asker","path","lead"]
 qa:FT K mg "set_rights" "set_rights" yI ["house","asker","path","mine","rest"]
 qd:FT K mg "stand" "stand" Cp ["house","asker","path"]
 oP:FT K mg "set_root" "set_root" B5 ["house","asker","path"]
 qe:FT K mg "_law_cell_at" "_law_cell_at" LF ["_law_script","_law_k"]
 bY:FT K mg "_law_digit" "_law_digit" Jq ["_law_state","_law_base"]
 oS:FT K mg "_law_word" "_law_word" AH ["_law_state"]
 iC:FT K mg "_law_path" "_law_path" B6 ["_law_state","_law_most"]
 gf:FT K mg "_law_rights" "_law_rights" Ca ["_law_state"]
 oZ:FT K mg "_law_deed" "_law_deed" BG ["_law_house_here","_law_asker","_law_kind","_law_path_here","_law_state"]
 qE:FT K mg "_law_done" "_law_done" y4 ["_law_house_here","_law_asker","_law_kind","_law_path_here","_law_state"]
 ei:FT K mg "_law_top" "_law_top" Br ["_law_house_here","_law_folder"]
 f9:FT K mg "_law_stack" "_law_stack" B8 ["_law_house_here","_law_folder"]
 pR:FT K mg "_law_seen" "_law_seen" BF ["_law_house_here","_law_asker","_law_folder"]
 qC:FT K mg "_law_way" "_law_way" Dl ["_law_house_here","_law_asker","_law_folder","_law_name"]
 kz:FT K mg "_law_parts" "_law_parts" zH ["_law_path_here"]
 j9:FT K mg "_law_start" "_law_start" AO ["_law_house_here","_law_asker","_law_path_here","_law_here"]
 px:FT K mg "_law_up" "_law_up" BB ["_law_house_here","_law_asker","_law_here"]
 qy:FT K mg "_law_ring" "_law_ring" zW ["_law_chain","_law_number"]
 qt:FT K mg "_law_to" "_law_to" Ct ["_law_house_here","_law_asker","_law_here","_law_part"]
 oR:FT K mg "_law_walked" "_law_walked" AR ["_law_house_here","_law_asker","_law_path_here","_law_final"]
 kS:FT K mg "_law_alike" "_law_alike" Bj ["_law_told","_law_due"]
 qm:FT K mg "_law_question" "_law_question" AK ["_law_house_here","_law_asker","_law_path_here","_law_final"]
 pT:FT K mg "_law_house" "_law_house" Bf ["_law_cell"]
 {vg:Addr}
 {xI:FuncData}
 vJ:jk K "law" "law" zP vg xI
 XD:mg "law" = some (.ref vg)
 GW:Binds K xI ["_law_script"] []
 {Es:Addr}
 UT:mg "DOTS" = some (.ref Es)
 Aj:∀ H:Hp,bJ K H Es [.str ".",.str ".."]
 {t_FILE:Tok}
 Dp:mg "FILE" = some (.str "file" t_FILE)
 {t_FIRST_TREE:Tok}
 Qx:mg "FIRST_TREE" = some (.str "main" t_FIRST_TREE)
 {t_FOLDER:Tok}
 sv:mg "FOLDER" = some (.str "folder" t_FOLDER)
 {dU:Addr}
 Gj:mg "Failed" = some (.ref dU)
 {dO:Addr}
 Dm:mg "Found" = some (.ref dO)
 {aH:Addr}
 YI:mg "House" = some (.ref aH)
 {t_LEAD:Tok}
 Zr:mg "LEAD" = some (.str "lead" t_LEAD)
 {t_LETTERS:Tok}
 Xd:mg "LETTERS" = some (.str "abcdefghijklmnopqrstuvwxyz" t_LETTERS)
 {vi:Addr}
 RF:mg "LeadError" = some (.ref vi)
 {t_MOST_IN_LEAD:Tok}
 VS:mg "MOST_IN_LEAD" = some (.int 120 t_MOST_IN_LEAD)
 {t_MOST_IN_NAME:Tok}
 Zi:mg "MOST_IN_NAME" = some (.int 8 t_MOST_IN_NAME)
 {t_MOST_IN_PATH:Tok}
 VB:mg "MOST_IN_PATH" = some (.int 2000 t_MOST_IN_PATH)
 {t_MOST_IN_TEXT:Tok}
 NB:mg "MOST_IN_TEXT" = some (.int 60 t_MOST_IN_TEXT)
 {t_MOST_LEADS:Tok}
 OB:mg "MOST_LEADS" = some (.int 40 t_MOST_LEADS)
 {rh:Addr}
 Qp:mg "NoAsker" = some (.ref rh)
 {m3:Addr}
 tN:mg "NoDeed" = some (.ref m3)
 {uT:Addr}
 Yy:mg "NoRights" = some (.ref uT)
 {qS:Addr}
 Ph:mg "NoThing" = some (.ref qS)
 {mO:Addr}
 XY:mg "NoWay" = some (.ref mO)
 {D5:Addr}
 T4:mg "RIGHTS" = some (.ref D5)
 zT:∀ H:Hp,bJ K H D5 [.str "",.str "l",.str "g",.str "w",.str "lg",.str "lw",.str "gw",.str "lgw"]
 {dS:Addr}
 G0:mg "Ring" = some (.ref dS)
 {Ei:Addr}
 Wu:mg "SINGLE_RIGHTS" = some (.ref Ei)
 An:∀ H:Hp,bJ K H Ei [.str "l",.str "g",.str "w"]
 {lC:Addr}
 RL:mg "Seat" = some (.ref lC)
 {aS:Addr}
 Xj:mg "Thing" = some (.ref aS)
 {aN:Addr}
 UZ:mg "Things" = some (.ref aN)
 {uP:Addr}
 WA:mg "Told" = some (.ref uP)
 {bB:Addr}
 VR:mg "Walk" = some (.ref bB)
 GI:mg "all" = none
 g_bool:mg "bool" = none
 ui:mg "int" = none
 fQ:mg "isinstance" = none
 jg:mg "len" = none
 m4:mg "list" = none
 CI:mg "min" = none
 W2:mg "range" = none
 By:mg "reversed" = none
 Yj:mg "sorted" = none
 my:mg "str" = none
 sH:MT K mO "__init__" "NoWay.__init__" Ff ["self","told"]
 kR:MT K m3 "__init__" "NoDeed.__init__" KS ["self","reason"]
 tX:MT K aS "__init__" "Thing.__init__" Lz ["self","number","kind","owner","mine","rest","text"]
 sr:MT K aS "rights_for" "Thing.rights_for" ID ["self","asker"]
 tJ:MT K aN "__init__" "Things.__init__" FO ["self"]
 kG:MT K aN "add_thing" "Things.add_thing" Kx ["self","kind","owner","mine","rest","text"]
 nQ:MT K aN "add_folder" "Things.add_folder" HB ["self","owner","mine","rest"]
 ur:MT K aN "add_file" "Things.add_file" Gm ["self","owner","text","mine","rest"]
 rQ:MT K aN "add_lead" "Things.add_lead" Fn ["self","owner","path"]
 dN:MT K aN "at" "Things.at" Ks ["self","number"]
 nE:MT K aN "child" "Things.child" IV ["self","folder","name"]
 ue:MT K aN "place_of" "Things.place_of" HQ ["self","number"]
 rN:MT K aN "put_rights" "Things.put_rights" Ln ["self","number","mine","rest"]
 rK:MT K aN "put_name" "Things.put_name" HW ["self","folder","name","number"]
 uu:MT K aN "drop_name" "Things.drop_name" E2 ["self","folder","name"]
 tT:MT K dO "__init__" "Found.__init__" Gy ["self","number","way"]
 r9:MT K dU "__init__" "Failed.__init__" G5 ["self","step","reason"]
 sJ:MT K dS "__init__" "Ring.__init__" zX ["self","leads"]
 uB:MT K bB "__init__" "Walk.__init__" zJ ["self","house","asker","last"]
 tE:MT K bB "begin" "Walk.begin" yG ["self","from_root","parts"]
 tW:MT K bB "go_on" "Walk.go_on" z8 ["self"]
 hJ:MT K bB "fail" "Walk.fail" AD ["self","reason"]
 uy:MT K bB "take_step" "Walk.take_step" Ap ["self","part"]
 tq:MT K bB "go_up" "Walk.go_up" Bg ["self"]
 uz:MT K bB "go_by" "Walk.go_by" C7 ["self","name"]
 sP:MT K bB "meet_lead" "Walk.meet_lead" CQ ["self","number"]
 tP:MT K bB "read_lead" "Walk.read_lead" Ag ["self","number"]
 tR:MT K bB "true_path" "Walk.true_path" zr ["self"]
 tK:MT K aH "__init__" "House.__init__" La ["self","owner"]
 ny:MT K aH "enroll" "House.enroll" Gp ["self","name"]
 j6:MT K aH "trees" "House.trees" FP ["self"]
 fj:MT K aH "root_of" "House.root_of" Lj ["self","asker"]
 nk:MT K aH "standing_of" "House.standing_of" Gi ["self","asker"]
 f7:MT K aH "kind_of" "House.kind_of" FN ["self","number"]
 sS:MT K aH "owner_of" "House.owner_of" HZ ["self","number"]
 j5:MT K aH "child" "House.child" E1 ["self","number","name"]
 ku:MT K aH "text_of" "House.text_of" GX ["self","number"]
 gj:MT K aH "place_of" "House.place_of" KW ["self","number"]
 nN:MT K aH "tree_root" "House.tree_root" Gn ["self","tree"]
 nH:MT K aH "covered_by" "House.covered_by" GV ["self","tree"]
 kf:MT K aH "may" "House.may" Hr ["self","asker","number","right"]
 eL:MT K aH "check_asker" "House.check_asker" Lf ["self","asker"]
 uA:MT K aH "check_tree" "House.check_tree" Hk ["self","tree"]
 tQ:MT K aH "check_thing" "House.check_thing" IW ["self","number"]
 nT:MT K aH "add_asker" "House.add_asker" Jw ["self","name"]
 kD:MT K aH "put_root" "House.put_root" KU ["self","asker","folder"]
 iQ:MT K aH "put_standing" "House.put_standing" Jl ["self","asker","folder"]
 uo:MT K aH "add_tree" "House.add_tree" JT ["self","tree","owner"]
 sA:MT K lC "__init__" "Seat.__init__" Kk ["self","folder","name"]
 kC:cX K dU
 Vx:Mk K dU r9.f
 jK:cX K dO
 ZO:Mk K dO tT.f
 aI:cX K aH
 Sz:Mk K aH tK.f
 mz:cX K dS
 So:Mk K dS sJ.f
 nW:cX K lC
 TV:Mk K lC sA.f
 dF:cX K aS
 Zs:Mk K aS tX.f
 cB:cX K aN
 Yx:Mk K aN tJ.f
 aL:cX K bB
 P1:Mk K bB uB.f
 Jp:bM K dU "reason"
 He:bM K dU "step"
 Cy:bM K dO "number"
 IJ:bM K dO "way"
 v9:bM K aH "changes"
 CZ:bM K aH "first_root"
 xh:bM K aH "folder_under"
 O6:bM K aH "holds"
 Vh:bM K aH "holds_given"
 zB:bM K aH "root_over"
 sE:bM K aH "roots"
 CJ:bM K aH "standings"
 gx:bM K aH "things"
 rG:bM K aH "tree_roots"
 zK:bM K dS "leads"
 wm:bM K lC "folder"
 Ds:bM K lC "name"
 Bn:bM K aS "kind"
 CM:bM K aS "mine"
 y6:bM K aS "names"
 WZ:bM K aS "number"
 y9:bM K aS "owner"
 vq:bM K aS "places"
 B1:bM K aS "rest"
 Ht:bM K aS "text"
 vD:bM K aN "changes"
 tS:bM K aN "made"
 y3:bM K bB "asked"
 ux:bM K bB "asker"
 fG:bM K bB "here"
 fq:bM K bB "house"
 Fo:bM K bB "last"
 B9:bM K bB "leads_read"
 m5:bM K bB "left"
 Jo:bM K bB "looked_up"
 vT:bM K bB "place"
 pk:bM K bB "reading"
 tF:bM K bB "root"
 Ay:bM K bB "step"
 lS:bM K bB "told"
 pB:jH K m3 kR.f "reason"
 sQ:PySem.W.typeIn K (.ref m3)=some (.type "type")
 HY:jH K mO sH.f "told"
 S5:PySem.W.typeIn K (.ref mO)=some (.type "type")
 Zb:PySem.W.excIn K rh [.type "ValueError",.type "Exception",.type "BaseException",.type "object"] "ValueError.__new__" = true
 Oy:PySem.W.excIn K uT [.type "ValueError",.type "Exception",.type "BaseException",.type "object"] "ValueError.__new__" = true
 Wk:PySem.W.excIn K qS [.type "ValueError",.type "Exception",.type "BaseException",.type "object"] "ValueError.__new__" = true
 RP:PySem.W.instIn K (.ref vi) (.type "tuple")=some false
 Qb:PySem.W.mroIn K vi (.type "BaseException")=some true
 q1:PySem.W.findIn K (.ref dO) "__class__" = some (some (.builtin "object.__class__"))
 q2:PySem.W.specialIn K (.builtin "object.__class__") "__get__" = some (some (.builtin "getset_descriptor.__get__"))
 q3:PySem.W.takesIn K (.builtin "object.__class__")=some true
 q4:PySem.W.mroIn K dO (.type "object")=some true
 q5:PySem.W.kitOne K (.ref dO) (.ref dO)=some true
 q6:PySem.W.findIn K (.ref dU) "__class__" = some (some (.builtin "object.__class__"))
 q7:PySem.W.mroIn K dU (.type "object")=some true
 q8:PySem.W.kitOne K (.ref dU) (.ref dO)=some false
 q9:PySem.W.kitOne K (.ref dO) (.ref dU)=some false
 lZ:PySem.W.kitOne K (.ref dO) (.ref dS)=some false
 O4:PySem.W.kitOne K (.ref dO) (.ref uP)=some true
 Zt:PySem.W.kitOne K (.ref dU) (.ref dU)=some true
 Oo:PySem.W.kitOne K (.ref dU) (.ref dS)=some false
 Sr:PySem.W.kitOne K (.ref dU) (.ref uP)=some true
 sC:PySem.W.findIn K (.ref dS) "__class__" = some (some (.builtin "object.__class__"))
 uD:PySem.W.mroIn K dS (.type "object")=some true
 Ij:PySem.W.kitOne K (.ref dS) (.ref dO)=some false
 Pd:PySem.W.kitOne K (.ref dS) (.ref dU)=some false
 Xh:PySem.W.kitOne K (.ref dS) (.ref dS)=some true
 XN:PySem.W.kitOne K (.ref dS) (.ref uP)=some true
 NT:PySem.W.subIn K (.ref mO) (.ref vi)=some true
 Uc:PySem.W.subIn K (.ref m3) (.ref vi)=some true
def o7:List Nat:=List.range' 97 26
def isNm (l:List Nat):Bool:=decide (1<=l.length) && decide (l.length<=8) && l.all (o7.contains ·)
def fF:V->Bool
 | .str z=>isNm z.cps.toList
 | _=>false
def Ie:V->Prop
 | .str z=>z.length<=1000
 | _=>True
theorem stI {t:TS} {D:Ends} {H:Hp} {σ:L2.St} (τ:L2.St) (h:t D τ H) (e:σ=τ:=by rfl):t D σ H:=e ▸ h
inductive X1 {α0:Type} (R:α0->Prop):Prop | mk:∀ x0,R x0->X1 R
inductive X2 {α0 α1:Type} (R:α0->α1->Prop):Prop | mk:∀ x0 x1,R x0 x1->X2 R
inductive X3 {α0 α1 α2:Type} (R:α0->α1->α2->Prop):Prop | mk:∀ x0 x1 x2,R x0 x1 x2->X3 R
inductive X4 {α0 α1 α2 α3:Type} (R:α0->α1->α2->α3->Prop):Prop | mk:∀ x0 x1 x2 x3,R x0 x1 x2 x3->X4 R
inductive X5 {α0 α1 α2 α3 α4:Type} (R:α0->α1->α2->α3->α4->Prop):Prop | mk:∀ x0 x1 x2 x3 x4,R x0 x1 x2 x3 x4->X5 R
inductive X6 {α0 α1 α2 α3 α4 α5:Type} (R:α0->α1->α2->α3->α4->α5->Prop):Prop | mk:∀ x0 x1 x2 x3 x4 x5,R x0 x1 x2 x3 x4 x5->X6 R
inductive X7 {α0 α1 α2 α3 α4 α5 α6:Type} (R:α0->α1->α2->α3->α4->α5->α6->Prop):Prop | mk:∀ x0 x1 x2 x3 x4 x5 x6,R x0 x1 x2 x3 x4 x5 x6->X7 R
inductive X8 {α0 α1 α2 α3 α4 α5 α6 α7:Type} (R:α0->α1->α2->α3->α4->α5->α6->α7->Prop):Prop | mk:∀ x0 x1 x2 x3 x4 x5 x6 x7,R x0 x1 x2 x3 x4 x5 x6 x7->X8 R
inductive X9 {α0 α1 α2 α3 α4 α5 α6 α7 α8:Type} (R:α0->α1->α2->α3->α4->α5->α6->α7->α8->Prop):Prop | mk:∀ x0 x1 x2 x3 x4 x5 x6 x7 x8,R x0 x1 x2 x3 x4 x5 x6 x7 x8->X9 R
inductive Hv {α0 α1 α2 α3 α4 α5 α6 α7 α8 α9:Type} (R:α0->α1->α2->α3->α4->α5->α6->α7->α8->α9->Prop):Prop | mk:∀ x0 x1 x2 x3 x4 x5 x6 x7 x8 x9,R x0 x1 x2 x3 x4 x5 x6 x7 x8 x9->Hv R
inductive KC {α0 α1 α2 α3 α4 α5 α6 α7 α8 α9 α10:Type} (R:α0->α1->α2->α3->α4->α5->α6->α7->α8->α9->α10->Prop):Prop | mk:∀ x0 x1 x2 x3 x4 x5 x6 x7 x8 x9 x10,R x0 x1 x2 x3 x4 x5 x6 x7 x8 x9 x10->KC R
inductive A2 (p0 p1:Prop):Prop | mk:p0->p1->A2 p0 p1
inductive A3 (p0 p1 p2:Prop):Prop | mk:p0->p1->p2->A3 p0 p1 p2
inductive A4 (p0 p1 p2 p3:Prop):Prop | mk:p0->p1->p2->p3->A4 p0 p1 p2 p3
inductive A5 (p0 p1 p2 p3 p4:Prop):Prop | mk:p0->p1->p2->p3->p4->A5 p0 p1 p2 p3 p4
inductive A6 (p0 p1 p2 p3 p4 p5:Prop):Prop | mk:p0->p1->p2->p3->p4->p5->A6 p0 p1 p2 p3 p4 p5
inductive A7 (p0 p1 p2 p3 p4 p5 p6:Prop):Prop | mk:p0->p1->p2->p3->p4->p5->p6->A7 p0 p1 p2 p3 p4 p5 p6
inductive A8 (p0 p1 p2 p3 p4 p5 p6 p7:Prop):Prop | mk:p0->p1->p2->p3->p4->p5->p6->p7->A8 p0 p1 p2 p3 p4 p5 p6 p7
inductive A9 (p0 p1 p2 p3 p4 p5 p6 p7 p8:Prop):Prop | mk:p0->p1->p2->p3->p4->p5->p6->p7->p8->A9 p0 p1 p2 p3 p4 p5 p6 p7 p8
inductive xA (p0 p1 p2 p3 p4 p5 p6 p7 p8 p9:Prop):Prop | mk:p0->p1->p2->p3->p4->p5->p6->p7->p8->p9->xA p0 p1 p2 p3 p4 p5 p6 p7 p8 p9
inductive KY (p0 p1 p2 p3 p4 p5 p6 p7 p8 p9 p10 p11:Prop):Prop | mk:p0->p1->p2->p3->p4->p5->p6->p7->p8->p9->p10->p11->KY p0 p1 p2 p3 p4 p5 p6 p7 p8 p9 p10 p11
inductive C0 (p0 p1 p2 p3 p4 p5 p6 p7 p8 p9 p10 p11 p12:Prop):Prop | mk:p0->p1->p2->p3->p4->p5->p6->p7->p8->p9->p10->p11->p12->C0 p0 p1 p2 p3 p4 p5 p6 p7 p8 p9 p10 p11 p12
inductive Lr (p0 p1 p2 p3 p4 p5 p6 p7 p8 p9 p10 p11 p12 p13:Prop):Prop | mk:p0->p1->p2->p3->p4->p5->p6->p7->p8->p9->p10->p11->p12->p13->Lr p0 p1 p2 p3 p4 p5 p6 p7 p8 p9 p10 p11 p12 p13
def a1 (f:V->Hp->VK->XK->Prop):Sp:=fun vs H Q E=>match vs with
 | [x1]=>f x1 H Q E
 | _=>False
theorem a1.o (h:a1 f vs H Q E):∃ x1,vs=[x1]/\f x1 H Q E:=by
 unfold a1 at h;split at h
 ·exact ⟨_,rfl,h⟩
 ·exact h.elim
def a2 (f:V->V->Hp->VK->XK->Prop):Sp:=fun vs H Q E=>match vs with
 | [x1,x2]=>f x1 x2 H Q E
 | _=>False
theorem a2.o (h:a2 f vs H Q E):∃ x1 x2,vs=[x1,x2]/\f x1 x2 H Q E:=by
 unfold a2 at h;split at h
 ·exact ⟨_,_,rfl,h⟩
 ·exact h.elim
def a3 (f:V->V->V->Hp->VK->XK->Prop):Sp:=fun vs H Q E=>match vs with
 | [x1,x2,x3]=>f x1 x2 x3 H Q E
 | _=>False
theorem a3.o (h:a3 f vs H Q E):∃ x1 x2 x3,vs=[x1,x2,x3]/\f x1 x2 x3 H Q E:=by
 unfold a3 at h;split at h
 ·exact ⟨_,_,_,rfl,h⟩
 ·exact h.elim
def a4 (f:V->V->V->V->Hp->VK->XK->Prop):Sp:=fun vs H Q E=>match vs with
 | [x1,x2,x3,x4]=>f x1 x2 x3 x4 H Q E
 | _=>False
theorem a4.o (h:a4 f vs H Q E):∃ x1 x2 x3 x4,vs=[x1,x2,x3,x4]/\f x1 x2 x3 x4 H Q E:=by
 unfold a4 at h;split at h
 ·exact ⟨_,_,_,_,rfl,h⟩
 ·exact h.elim
def a5 (f:V->V->V->V->V->Hp->VK->XK->Prop):Sp:=fun vs H Q E=>match vs with
 | [x1,x2,x3,x4,x5]=>f x1 x2 x3 x4 x5 H Q E
 | _=>False
theorem a5.o (h:a5 f vs H Q E):∃ x1 x2 x3 x4 x5,vs=[x1,x2,x3,x4,x5]/\f x1 x2 x3 x4 x5 H Q E:=by
 unfold a5 at h;split at h
 ·exact ⟨_,_,_,_,_,rfl,h⟩
 ·exact h.elim
def a6 (f:V->V->V->V->V->V->Hp->VK->XK->Prop):Sp:=fun vs H Q E=>match vs with
 | [x1,x2,x3,x4,x5,x6]=>f x1 x2 x3 x4 x5 x6 H Q E
 | _=>False
theorem a6.o (h:a6 f vs H Q E):∃ x1 x2 x3 x4 x5 x6,vs=[x1,x2,x3,x4,x5,x6]/\f x1 x2 x3 x4 x5 x6 H Q E:=by
 unfold a6 at h;split at h
 ·exact ⟨_,_,_,_,_,_,rfl,h⟩
 ·exact h.elim
def a7 (f:V->V->V->V->V->V->V->Hp->VK->XK->Prop):Sp:=fun vs H Q E=>match vs with
 | [x1,x2,x3,x4,x5,x6,x7]=>f x1 x2 x3 x4 x5 x6 x7 H Q E
 | _=>False
theorem a7.o (h:a7 f vs H Q E):∃ x1 x2 x3 x4 x5 x6 x7,vs=[x1,x2,x3,x4,x5,x6,x7]/\f x1 x2 x3 x4 x5 x6 x7 H Q E:=by
 unfold a7 at h;split at h
 ·exact ⟨_,_,_,_,_,_,_,rfl,h⟩
 ·exact h.elim
def vR (v:V) (k:Addr->Prop):Prop:=match v with
 | .ref x=>k x
 | _=>False
theorem vR.o (h:vR v k):∃ x,v=.ref x/\k x:=by
 unfold vR at h;split at h
 ·exact ⟨_,rfl,h⟩
 ·exact h.elim
def vS (v:V) (k:Str->Prop):Prop:=match v with
 | .str x=>k x
 | _=>False
theorem vS.o (h:vS v k):∃ x,v=.str x/\k x:=by
 unfold vS at h;split at h
 ·exact ⟨_,rfl,h⟩
 ·exact h.elim
def vI (v:V) (k:Int->Prop):Prop:=match v with
 | .int x=>k x
 | _=>False
theorem vI.o (h:vI v k):∃ x,v=.int x/\k x:=by
 unfold vI at h;split at h
 ·exact ⟨_,rfl,h⟩
 ·exact h.elim
def vB (v:V) (k:Bool->Prop):Prop:=match v with
 | .bl x=>k x
 | _=>False
theorem vB.o (h:vB v k):∃ x,v=.bl x/\k x:=by
 unfold vB at h;split at h
 ·exact ⟨_,rfl,h⟩
 ·exact h.elim
def FU (f:Int->Hp->VK->XK->Prop):Sp:=a1 fun q1 H Q E=>vI q1 fun x1=>f x1 H Q E
@[elab_as_elim] theorem Ja {f:Int->Hp->VK->XK->Prop} {vs:List V} {H:Hp} {Q:VK} {E:XK} {G:List V->Prop} (h:FU f vs H Q E) (k:∀ x1,f x1 H Q E->G [.int x1]):G vs:=by
 obtain ⟨_,rfl,h⟩:=a1.o h;obtain ⟨x1,rfl,h⟩:=vI.o h;exact k x1 h
def iU (f:Addr->Hp->VK->XK->Prop):Sp:=a1 fun q1 H Q E=>vR q1 fun x1=>f x1 H Q E
@[elab_as_elim] theorem eD {f:Addr->Hp->VK->XK->Prop} {vs:List V} {H:Hp} {Q:VK} {E:XK} {G:List V->Prop} (h:iU f vs H Q E) (k:∀ x1,f x1 H Q E->G [.ref x1]):G vs:=by
 obtain ⟨_,rfl,h⟩:=a1.o h;obtain ⟨x1,rfl,h⟩:=vR.o h;exact k x1 h
def K0 (f:Addr->Bool->Addr->Hp->VK->XK->Prop):Sp:=a3 fun q1 q2 q3 H Q E=>vR q1 fun x1=>vB q2 fun x2=>vR q3 fun x3=>f x1 x2 x3 H Q E
@[elab_as_elim] theorem GQ {f:Addr->Bool->Addr->Hp->VK->XK->Prop} {vs:List V} {H:Hp} {Q:VK} {E:XK} {G:List V->Prop} (h:K0 f vs H Q E) (k:∀ x1 x2 x3,f x1 x2 x3 H Q E->G [.ref x1,.bl x2,.ref x3]):G vs:=by
 obtain ⟨_,_,_,rfl,h⟩:=a3.o h;obtain ⟨x1,rfl,h⟩:=vR.o h;obtain ⟨x2,rfl,h⟩:=vB.o h;obtain ⟨x3,rfl,h⟩:=vR.o h;exact k x1 x2 x3 h
def iy (f:Addr->Int->Hp->VK->XK->Prop):Sp:=a2 fun q1 q2 H Q E=>vR q1 fun x1=>vI q2 fun x2=>f x1 x2 H Q E
@[elab_as_elim] theorem cv {f:Addr->Int->Hp->VK->XK->Prop} {vs:List V} {H:Hp} {Q:VK} {E:XK} {G:List V->Prop} (h:iy f vs H Q E) (k:∀ x1 x2,f x1 x2 H Q E->G [.ref x1,.int x2]):G vs:=by
 obtain ⟨_,_,rfl,h⟩:=a2.o h;obtain ⟨x1,rfl,h⟩:=vR.o h;obtain ⟨x2,rfl,h⟩:=vI.o h;exact k x1 x2 h
def vM (f:Addr->Int->Str->Hp->VK->XK->Prop):Sp:=a3 fun q1 q2 q3 H Q E=>vR q1 fun x1=>vI q2 fun x2=>vS q3 fun x3=>f x1 x2 x3 H Q E
@[elab_as_elim] theorem pI {f:Addr->Int->Str->Hp->VK->XK->Prop} {vs:List V} {H:Hp} {Q:VK} {E:XK} {G:List V->Prop} (h:vM f vs H Q E) (k:∀ x1 x2 x3,f x1 x2 x3 H Q E->G [.ref x1,.int x2,.str x3]):G vs:=by
 obtain ⟨_,_,_,rfl,h⟩:=a3.o h;obtain ⟨x1,rfl,h⟩:=vR.o h;obtain ⟨x2,rfl,h⟩:=vI.o h;obtain ⟨x3,rfl,h⟩:=vS.o h;exact k x1 x2 x3 h
def FE (f:Addr->Int->Str->Int->Hp->VK->XK->Prop):Sp:=a4 fun q1 q2 q3 q4 H Q E=>vR q1 fun x1=>vI q2 fun x2=>vS q3 fun x3=>vI q4 fun x4=>f x1 x2 x3 x4 H Q E
@[elab_as_elim] theorem Hn {f:Addr->Int->Str->Int->Hp->VK->XK->Prop} {vs:List V} {H:Hp} {Q:VK} {E:XK} {G:List V->Prop} (h:FE f vs H Q E) (k:∀ x1 x2 x3 x4,f x1 x2 x3 x4 H Q E->G [.ref x1,.int x2,.str x3,.int x4]):G vs:=by
 obtain ⟨_,_,_,_,rfl,h⟩:=a4.o h;obtain ⟨x1,rfl,h⟩:=vR.o h;obtain ⟨x2,rfl,h⟩:=vI.o h;obtain ⟨x3,rfl,h⟩:=vS.o h;obtain ⟨x4,rfl,h⟩:=vI.o h;exact k x1 x2 x3 x4 h
def K1 (f:Addr->Int->Str->Str->Hp->VK->XK->Prop):Sp:=a4 fun q1 q2 q3 q4 H Q E=>vR q1 fun x1=>vI q2 fun x2=>vS q3 fun x3=>vS q4 fun x4=>f x1 x2 x3 x4 H Q E
@[elab_as_elim] theorem HI {f:Addr->Int->Str->Str->Hp->VK->XK->Prop} {vs:List V} {H:Hp} {Q:VK} {E:XK} {G:List V->Prop} (h:K1 f vs H Q E) (k:∀ x1 x2 x3 x4,f x1 x2 x3 x4 H Q E->G [.ref x1,.int x2,.str x3,.str x4]):G vs:=by
 obtain ⟨_,_,_,_,rfl,h⟩:=a4.o h;obtain ⟨x1,rfl,h⟩:=vR.o h;obtain ⟨x2,rfl,h⟩:=vI.o h;obtain ⟨x3,rfl,h⟩:=vS.o h;obtain ⟨x4,rfl,h⟩:=vS.o h;exact k x1 x2 x3 x4 h
def sG (f:Addr->Addr->Hp->VK->XK->Prop):Sp:=a2 fun q1 q2 H Q E=>vR q1 fun x1=>vR q2 fun x2=>f x1 x2 H Q E
@[elab_as_elim] theorem lT {f:Addr->Addr->Hp->VK->XK->Prop} {vs:List V} {H:Hp} {Q:VK} {E:XK} {G:List V->Prop} (h:sG f vs H Q E) (k:∀ x1 x2,f x1 x2 H Q E->G [.ref x1,.ref x2]):G vs:=by
 obtain ⟨_,_,rfl,h⟩:=a2.o h;obtain ⟨x1,rfl,h⟩:=vR.o h;obtain ⟨x2,rfl,h⟩:=vR.o h;exact k x1 x2 h
def EZ (f:Addr->Addr->Int->Hp->VK->XK->Prop):Sp:=a3 fun q1 q2 q3 H Q E=>vR q1 fun x1=>vR q2 fun x2=>vI q3 fun x3=>f x1 x2 x3 H Q E
@[elab_as_elim] theorem JK {f:Addr->Addr->Int->Hp->VK->XK->Prop} {vs:List V} {H:Hp} {Q:VK} {E:XK} {G:List V->Prop} (h:EZ f vs H Q E) (k:∀ x1 x2 x3,f x1 x2 x3 H Q E->G [.ref x1,.ref x2,.int x3]):G vs:=by
 obtain ⟨_,_,_,rfl,h⟩:=a3.o h;obtain ⟨x1,rfl,h⟩:=vR.o h;obtain ⟨x2,rfl,h⟩:=vR.o h;obtain ⟨x3,rfl,h⟩:=vI.o h;exact k x1 x2 x3 h
def J0 (f:Addr->Addr->Str->Bool->Hp->VK->XK->Prop):Sp:=a4 fun q1 q2 q3 q4 H Q E=>vR q1 fun x1=>vR q2 fun x2=>vS q3 fun x3=>vB q4 fun x4=>f x1 x2 x3 x4 H Q E
@[elab_as_elim] theorem F6 {f:Addr->Addr->Str->Bool->Hp->VK->XK->Prop} {vs:List V} {H:Hp} {Q:VK} {E:XK} {G:List V->Prop} (h:J0 f vs H Q E) (k:∀ x1 x2 x3 x4,f x1 x2 x3 x4 H Q E->G [.ref x1,.ref x2,.str x3,.bl x4]):G vs:=by
 obtain ⟨_,_,_,_,rfl,h⟩:=a4.o h;obtain ⟨x1,rfl,h⟩:=vR.o h;obtain ⟨x2,rfl,h⟩:=vR.o h;obtain ⟨x3,rfl,h⟩:=vS.o h;obtain ⟨x4,rfl,h⟩:=vB.o h;exact k x1 x2 x3 x4 h
def gY (f:Addr->Str->Hp->VK->XK->Prop):Sp:=a2 fun q1 q2 H Q E=>vR q1 fun x1=>vS q2 fun x2=>f x1 x2 H Q E
@[elab_as_elim] theorem dz {f:Addr->Str->Hp->VK->XK->Prop} {vs:List V} {H:Hp} {Q:VK} {E:XK} {G:List V->Prop} (h:gY f vs H Q E) (k:∀ x1 x2,f x1 x2 H Q E->G [.ref x1,.str x2]):G vs:=by
 obtain ⟨_,_,rfl,h⟩:=a2.o h;obtain ⟨x1,rfl,h⟩:=vR.o h;obtain ⟨x2,rfl,h⟩:=vS.o h;exact k x1 x2 h
def Gh (f:Addr->Str->Bool->Addr->Bool->Hp->VK->XK->Prop):Sp:=a5 fun q1 q2 q3 q4 q5 H Q E=>vR q1 fun x1=>vS q2 fun x2=>vB q3 fun x3=>vR q4 fun x4=>vB q5 fun x5=>f x1 x2 x3 x4 x5 H Q E
@[elab_as_elim] theorem Jm {f:Addr->Str->Bool->Addr->Bool->Hp->VK->XK->Prop} {vs:List V} {H:Hp} {Q:VK} {E:XK} {G:List V->Prop} (h:Gh f vs H Q E) (k:∀ x1 x2 x3 x4 x5,f x1 x2 x3 x4 x5 H Q E->G [.ref x1,.str x2,.bl x3,.ref x4,.bl x5]):G vs:=by
 obtain ⟨_,_,_,_,_,rfl,h⟩:=a5.o h;obtain ⟨x1,rfl,h⟩:=vR.o h;obtain ⟨x2,rfl,h⟩:=vS.o h;obtain ⟨x3,rfl,h⟩:=vB.o h;obtain ⟨x4,rfl,h⟩:=vR.o h;obtain ⟨x5,rfl,h⟩:=vB.o h;exact k x1 x2 x3 x4 x5 h
def kY (f:Addr->Str->Int->Hp->VK->XK->Prop):Sp:=a3 fun q1 q2 q3 H Q E=>vR q1 fun x1=>vS q2 fun x2=>vI q3 fun x3=>f x1 x2 x3 H Q E
@[elab_as_elim] theorem fA {f:Addr->Str->Int->Hp->VK->XK->Prop} {vs:List V} {H:Hp} {Q:VK} {E:XK} {G:List V->Prop} (h:kY f vs H Q E) (k:∀ x1 x2 x3,f x1 x2 x3 H Q E->G [.ref x1,.str x2,.int x3]):G vs:=by
 obtain ⟨_,_,_,rfl,h⟩:=a3.o h;obtain ⟨x1,rfl,h⟩:=vR.o h;obtain ⟨x2,rfl,h⟩:=vS.o h;obtain ⟨x3,rfl,h⟩:=vI.o h;exact k x1 x2 x3 h
def FF (f:Addr->Str->Int->Str->Hp->VK->XK->Prop):Sp:=a4 fun q1 q2 q3 q4 H Q E=>vR q1 fun x1=>vS q2 fun x2=>vI q3 fun x3=>vS q4 fun x4=>f x1 x2 x3 x4 H Q E
@[elab_as_elim] theorem JE {f:Addr->Str->Int->Str->Hp->VK->XK->Prop} {vs:List V} {H:Hp} {Q:VK} {E:XK} {G:List V->Prop} (h:FF f vs H Q E) (k:∀ x1 x2 x3 x4,f x1 x2 x3 x4 H Q E->G [.ref x1,.str x2,.int x3,.str x4]):G vs:=by
 obtain ⟨_,_,_,_,rfl,h⟩:=a4.o h;obtain ⟨x1,rfl,h⟩:=vR.o h;obtain ⟨x2,rfl,h⟩:=vS.o h;obtain ⟨x3,rfl,h⟩:=vI.o h;obtain ⟨x4,rfl,h⟩:=vS.o h;exact k x1 x2 x3 x4 h
def HA (f:Addr->Str->Int->Str->Str->Hp->VK->XK->Prop):Sp:=a5 fun q1 q2 q3 q4 q5 H Q E=>vR q1 fun x1=>vS q2 fun x2=>vI q3 fun x3=>vS q4 fun x4=>vS q5 fun x5=>f x1 x2 x3 x4 x5 H Q E
@[elab_as_elim] theorem Jc {f:Addr->Str->Int->Str->Str->Hp->VK->XK->Prop} {vs:List V} {H:Hp} {Q:VK} {E:XK} {G:List V->Prop} (h:HA f vs H Q E) (k:∀ x1 x2 x3 x4 x5,f x1 x2 x3 x4 x5 H Q E->G [.ref x1,.str x2,.int x3,.str x4,.str x5]):G vs:=by
 obtain ⟨_,_,_,_,_,rfl,h⟩:=a5.o h;obtain ⟨x1,rfl,h⟩:=vR.o h;obtain ⟨x2,rfl,h⟩:=vS.o h;obtain ⟨x3,rfl,h⟩:=vI.o h;obtain ⟨x4,rfl,h⟩:=vS.o h;obtain ⟨x5,rfl,h⟩:=vS.o h;exact k x1 x2 x3 x4 x5 h
def HV (f:Addr->Str->Int->V->Hp->VK->XK->Prop):Sp:=a4 fun q1 q2 q3 x4 H Q E=>vR q1 fun x1=>vS q2 fun x2=>vI q3 fun x3=>f x1 x2 x3 x4 H Q E
@[elab_as_elim] theorem Hf {f:Addr->Str->Int->V->Hp->VK->XK->Prop} {vs:List V} {H:Hp} {Q:VK} {E:XK} {G:List V->Prop} (h:HV f vs H Q E) (k:∀ x1 x2 x3 x4,f x1 x2 x3 x4 H Q E->G [.ref x1,.str x2,.int x3,x4]):G vs:=by
 obtain ⟨_,_,_,x4,rfl,h⟩:=a4.o h;obtain ⟨x1,rfl,h⟩:=vR.o h;obtain ⟨x2,rfl,h⟩:=vS.o h;obtain ⟨x3,rfl,h⟩:=vI.o h;exact k x1 x2 x3 x4 h
def lI (f:Addr->Str->Str->Hp->VK->XK->Prop):Sp:=a3 fun q1 q2 q3 H Q E=>vR q1 fun x1=>vS q2 fun x2=>vS q3 fun x3=>f x1 x2 x3 H Q E
@[elab_as_elim] theorem gy {f:Addr->Str->Str->Hp->VK->XK->Prop} {vs:List V} {H:Hp} {Q:VK} {E:XK} {G:List V->Prop} (h:lI f vs H Q E) (k:∀ x1 x2 x3,f x1 x2 x3 H Q E->G [.ref x1,.str x2,.str x3]):G vs:=by
 obtain ⟨_,_,_,rfl,h⟩:=a3.o h;obtain ⟨x1,rfl,h⟩:=vR.o h;obtain ⟨x2,rfl,h⟩:=vS.o h;obtain ⟨x3,rfl,h⟩:=vS.o h;exact k x1 x2 x3 h
def qr (f:Addr->Str->Str->Bool->Hp->VK->XK->Prop):Sp:=a4 fun q1 q2 q3 q4 H Q E=>vR q1 fun x1=>vS q2 fun x2=>vS q3 fun x3=>vB q4 fun x4=>f x1 x2 x3 x4 H Q E
@[elab_as_elim] theorem jh {f:Addr->Str->Str->Bool->Hp->VK->XK->Prop} {vs:List V} {H:Hp} {Q:VK} {E:XK} {G:List V->Prop} (h:qr f vs H Q E) (k:∀ x1 x2 x3 x4,f x1 x2 x3 x4 H Q E->G [.ref x1,.str x2,.str x3,.bl x4]):G vs:=by
 obtain ⟨_,_,_,_,rfl,h⟩:=a4.o h;obtain ⟨x1,rfl,h⟩:=vR.o h;obtain ⟨x2,rfl,h⟩:=vS.o h;obtain ⟨x3,rfl,h⟩:=vS.o h;obtain ⟨x4,rfl,h⟩:=vB.o h;exact k x1 x2 x3 x4 h
def Fl (f:Addr->Str->Str->Int->Hp->VK->XK->Prop):Sp:=a4 fun q1 q2 q3 q4 H Q E=>vR q1 fun x1=>vS q2 fun x2=>vS q3 fun x3=>vI q4 fun x4=>f x1 x2 x3 x4 H Q E
@[elab_as_elim] theorem Ha {f:Addr->Str->Str->Int->Hp->VK->XK->Prop} {vs:List V} {H:Hp} {Q:VK} {E:XK} {G:List V->Prop} (h:Fl f vs H Q E) (k:∀ x1 x2 x3 x4,f x1 x2 x3 x4 H Q E->G [.ref x1,.str x2,.str x3,.int x4]):G vs:=by
 obtain ⟨_,_,_,_,rfl,h⟩:=a4.o h;obtain ⟨x1,rfl,h⟩:=vR.o h;obtain ⟨x2,rfl,h⟩:=vS.o h;obtain ⟨x3,rfl,h⟩:=vS.o h;obtain ⟨x4,rfl,h⟩:=vI.o h;exact k x1 x2 x3 x4 h
def GR (f:Addr->Str->Str->Str->Hp->VK->XK->Prop):Sp:=a4 fun q1 q2 q3 q4 H Q E=>vR q1 fun x1=>vS q2 fun x2=>vS q3 fun x3=>vS q4 fun x4=>f x1 x2 x3 x4 H Q E
@[elab_as_elim] theorem G6 {f:Addr->Str->Str->Str->Hp->VK->XK->Prop} {vs:List V} {H:Hp} {Q:VK} {E:XK} {G:List V->Prop} (h:GR f vs H Q E) (k:∀ x1 x2 x3 x4,f x1 x2 x3 x4 H Q E->G [.ref x1,.str x2,.str x3,.str x4]):G vs:=by
 obtain ⟨_,_,_,_,rfl,h⟩:=a4.o h;obtain ⟨x1,rfl,h⟩:=vR.o h;obtain ⟨x2,rfl,h⟩:=vS.o h;obtain ⟨x3,rfl,h⟩:=vS.o h;obtain ⟨x4,rfl,h⟩:=vS.o h;exact k x1 x2 x3 x4 h
def zD (f:Addr->Str->Str->Str->Addr->Hp->VK->XK->Prop):Sp:=a5 fun q1 q2 q3 q4 q5 H Q E=>vR q1 fun x1=>vS q2 fun x2=>vS q3 fun x3=>vS q4 fun x4=>vR q5 fun x5=>f x1 x2 x3 x4 x5 H Q E
@[elab_as_elim] theorem xm {f:Addr->Str->Str->Str->Addr->Hp->VK->XK->Prop} {vs:List V} {H:Hp} {Q:VK} {E:XK} {G:List V->Prop} (h:zD f vs H Q E) (k:∀ x1 x2 x3 x4 x5,f x1 x2 x3 x4 x5 H Q E->G [.ref x1,.str x2,.str x3,.str x4,.ref x5]):G vs:=by
 obtain ⟨_,_,_,_,_,rfl,h⟩:=a5.o h;obtain ⟨x1,rfl,h⟩:=vR.o h;obtain ⟨x2,rfl,h⟩:=vS.o h;obtain ⟨x3,rfl,h⟩:=vS.o h;obtain ⟨x4,rfl,h⟩:=vS.o h;obtain ⟨x5,rfl,h⟩:=vR.o h;exact k x1 x2 x3 x4 x5 h
def zl (f:Addr->Str->Str->Str->Str->Hp->VK->XK->Prop):Sp:=a5 fun q1 q2 q3 q4 q5 H Q E=>vR q1 fun x1=>vS q2 fun x2=>vS q3 fun x3=>vS q4 fun x4=>vS q5 fun x5=>f x1 x2 x3 x4 x5 H Q E
@[elab_as_elim] theorem xx {f:Addr->Str->Str->Str->Str->Hp->VK->XK->Prop} {vs:List V} {H:Hp} {Q:VK} {E:XK} {G:List V->Prop} (h:zl f vs H Q E) (k:∀ x1 x2 x3 x4 x5,f x1 x2 x3 x4 x5 H Q E->G [.ref x1,.str x2,.str x3,.str x4,.str x5]):G vs:=by
 obtain ⟨_,_,_,_,_,rfl,h⟩:=a5.o h;obtain ⟨x1,rfl,h⟩:=vR.o h;obtain ⟨x2,rfl,h⟩:=vS.o h;obtain ⟨x3,rfl,h⟩:=vS.o h;obtain ⟨x4,rfl,h⟩:=vS.o h;obtain ⟨x5,rfl,h⟩:=vS.o h;exact k x1 x2 x3 x4 x5 h
def G8 (f:Addr->Str->Str->Str->Str->Str->Hp->VK->XK->Prop):Sp:=a6 fun q1 q2 q3 q4 q5 q6 H Q E=>vR q1 fun x1=>vS q2 fun x2=>vS q3 fun x3=>vS q4 fun x4=>vS q5 fun x5=>vS q6 fun x6=>f x1 x2 x3 x4 x5 x6 H Q E
@[elab_as_elim] theorem JJ {f:Addr->Str->Str->Str->Str->Str->Hp->VK->XK->Prop} {vs:List V} {H:Hp} {Q:VK} {E:XK} {G:List V->Prop} (h:G8 f vs H Q E) (k:∀ x1 x2 x3 x4 x5 x6,f x1 x2 x3 x4 x5 x6 H Q E->G [.ref x1,.str x2,.str x3,.str x4,.str x5,.str x6]):G vs:=by
 obtain ⟨_,_,_,_,_,_,rfl,h⟩:=a6.o h;obtain ⟨x1,rfl,h⟩:=vR.o h;obtain ⟨x2,rfl,h⟩:=vS.o h;obtain ⟨x3,rfl,h⟩:=vS.o h;obtain ⟨x4,rfl,h⟩:=vS.o h;obtain ⟨x5,rfl,h⟩:=vS.o h;obtain ⟨x6,rfl,h⟩:=vS.o h;exact k x1 x2 x3 x4 x5 x6 h
def C5 (f:Addr->V->Hp->VK->XK->Prop):Sp:=a2 fun q1 x2 H Q E=>vR q1 fun x1=>f x1 x2 H Q E
@[elab_as_elim] theorem vF {f:Addr->V->Hp->VK->XK->Prop} {vs:List V} {H:Hp} {Q:VK} {E:XK} {G:List V->Prop} (h:C5 f vs H Q E) (k:∀ x1 x2,f x1 x2 H Q E->G [.ref x1,x2]):G vs:=by
 obtain ⟨_,x2,rfl,h⟩:=a2.o h;obtain ⟨x1,rfl,h⟩:=vR.o h;exact k x1 x2 h
def zF (f:Addr->V->V->Hp->VK->XK->Prop):Sp:=a3 fun q1 x2 x3 H Q E=>vR q1 fun x1=>f x1 x2 x3 H Q E
@[elab_as_elim] theorem lG {f:Addr->V->V->Hp->VK->XK->Prop} {vs:List V} {H:Hp} {Q:VK} {E:XK} {G:List V->Prop} (h:zF f vs H Q E) (k:∀ x1 x2 x3,f x1 x2 x3 H Q E->G [.ref x1,x2,x3]):G vs:=by
 obtain ⟨_,x2,x3,rfl,h⟩:=a3.o h;obtain ⟨x1,rfl,h⟩:=vR.o h;exact k x1 x2 x3 h
def Af (f:Addr->V->V->V->Hp->VK->XK->Prop):Sp:=a4 fun q1 x2 x3 x4 H Q E=>vR q1 fun x1=>f x1 x2 x3 x4 H Q E
@[elab_as_elim] theorem wD {f:Addr->V->V->V->Hp->VK->XK->Prop} {vs:List V} {H:Hp} {Q:VK} {E:XK} {G:List V->Prop} (h:Af f vs H Q E) (k:∀ x1 x2 x3 x4,f x1 x2 x3 x4 H Q E->G [.ref x1,x2,x3,x4]):G vs:=by
 obtain ⟨_,x2,x3,x4,rfl,h⟩:=a4.o h;obtain ⟨x1,rfl,h⟩:=vR.o h;exact k x1 x2 x3 x4 h
def Gs (f:Addr->V->V->V->V->Hp->VK->XK->Prop):Sp:=a5 fun q1 x2 x3 x4 x5 H Q E=>vR q1 fun x1=>f x1 x2 x3 x4 x5 H Q E
@[elab_as_elim] theorem JH {f:Addr->V->V->V->V->Hp->VK->XK->Prop} {vs:List V} {H:Hp} {Q:VK} {E:XK} {G:List V->Prop} (h:Gs f vs H Q E) (k:∀ x1 x2 x3 x4 x5,f x1 x2 x3 x4 x5 H Q E->G [.ref x1,x2,x3,x4,x5]):G vs:=by
 obtain ⟨_,x2,x3,x4,x5,rfl,h⟩:=a5.o h;obtain ⟨x1,rfl,h⟩:=vR.o h;exact k x1 x2 x3 x4 x5 h
def Jn (f:Addr->V->V->V->V->V->Hp->VK->XK->Prop):Sp:=a6 fun q1 x2 x3 x4 x5 x6 H Q E=>vR q1 fun x1=>f x1 x2 x3 x4 x5 x6 H Q E
@[elab_as_elim] theorem Jx {f:Addr->V->V->V->V->V->Hp->VK->XK->Prop} {vs:List V} {H:Hp} {Q:VK} {E:XK} {G:List V->Prop} (h:Jn f vs H Q E) (k:∀ x1 x2 x3 x4 x5 x6,f x1 x2 x3 x4 x5 x6 H Q E->G [.ref x1,x2,x3,x4,x5,x6]):G vs:=by
 obtain ⟨_,x2,x3,x4,x5,x6,rfl,h⟩:=a6.o h;obtain ⟨x1,rfl,h⟩:=vR.o h;exact k x1 x2 x3 x4 x5 x6 h
def Jg (f:Addr->V->V->V->V->V->V->Hp->VK->XK->Prop):Sp:=a7 fun q1 x2 x3 x4 x5 x6 x7 H Q E=>vR q1 fun x1=>f x1 x2 x3 x4 x5 x6 x7 H Q E
@[elab_as_elim] theorem E7 {f:Addr->V->V->V->V->V->V->Hp->VK->XK->Prop} {vs:List V} {H:Hp} {Q:VK} {E:XK} {G:List V->Prop} (h:Jg f vs H Q E) (k:∀ x1 x2 x3 x4 x5 x6 x7,f x1 x2 x3 x4 x5 x6 x7 H Q E->G [.ref x1,x2,x3,x4,x5,x6,x7]):G vs:=by
 obtain ⟨_,x2,x3,x4,x5,x6,x7,rfl,h⟩:=a7.o h;obtain ⟨x1,rfl,h⟩:=vR.o h;exact k x1 x2 x3 x4 x5 x6 x7 h
def jD (f:Str->Hp->VK->XK->Prop):Sp:=a1 fun q1 H Q E=>vS q1 fun x1=>f x1 H Q E
@[elab_as_elim] theorem eU {f:Str->Hp->VK->XK->Prop} {vs:List V} {H:Hp} {Q:VK} {E:XK} {G:List V->Prop} (h:jD f vs H Q E) (k:∀ x1,f x1 H Q E->G [.str x1]):G vs:=by
 obtain ⟨_,rfl,h⟩:=a1.o h;obtain ⟨x1,rfl,h⟩:=vS.o h;exact k x1 h
def rR (f:V->Hp->VK->XK->Prop):Sp:=a1 fun x1 H Q E=>f x1 H Q E
@[elab_as_elim] theorem mf {f:V->Hp->VK->XK->Prop} {vs:List V} {H:Hp} {Q:VK} {E:XK} {G:List V->Prop} (h:rR f vs H Q E) (k:∀ x1,f x1 H Q E->G [x1]):G vs:=by
 obtain ⟨x1,rfl,h⟩:=a1.o h;exact k x1 h
def Qi (K:PySem.W.Frag):Sp:=rR fun x H Q _=>A3 (∃ T,clsName H x=some T) (Ie x) (∀ H',ah H H'->Q (.bl (fF x)) H')
theorem Io (h:isNm nm=true):1<=nm.length/\nm.length<=8/\nm.all (o7.contains ·)=true:=by
 unfold isNm at h;simp only [Bool.and_eq_true,decide_eq_true_eq] at h;exact ⟨h.1.1,h.1.2,h.2⟩
theorem ON:Str.ofString "abcdefghijklmnopqrstuvwxyz" = Tx.S o7:=by decide +kernel
def cz (l:List Nat):Bool:=decide (l=[46]) || decide (l=[46,46]) || isNm l
theorem o6 (h:cz l=true):47 ∉ l/\l≠[]/\l.length<=8:=by
 unfold cz at h;simp only [Bool.or_eq_true,decide_eq_true_eq] at h;rcases h with (rfl | rfl) | h
 ·exact ⟨by decide,by decide,by decide⟩
 ·exact ⟨by decide,by decide,by decide⟩
 ·obtain ⟨h1,h2,h3⟩:=Io h;refine ⟨fun m=>?_,fun e=>by rw [e] at h1; simp at h1,h2⟩;have:=List.all_eq_true.mp h3 47 m;exact absurd this (by decide +kernel)
abbrev PV (ps:List (List Nat)):List V:=(ps.map Tx.S).map V.str
def told (ps:List (List Nat)) (t:List Nat):List (List Nat):=if ps≠[]/\t.getLast?=some 47 then ps++[[46]] else ps
def cA (t:List Nat):Bool:=decide (t.head?=some 47)
theorem B0 (h:ps.all cz=true):(told ps t).all cz=true:=by
 unfold told;split
 ·rw [List.all_append,h]; rfl
 ·exact h
theorem vX:(told ps t).length<=ps.length+1:=by
 unfold told;split
 ·rw [List.length_append]; exact Nat.le_refl _
 ·omega
def Ri (K:PySem.W.Frag):Sp:=jD fun z H Q _=>X1 fun (w:List Nat)=>A3 (z=Tx.S w) (w.length<=1000) (∀ H',ah H H'->Q (.bl (cz w)) H')
def Rr (K:PySem.W.Frag):Sp:=jD fun z H Q _=>X1 fun (t:List Nat)=>A5 (z=Tx.S t) (1<=t.length) (t.length<=2000) ((Tx.words 47 t).all cz=true) (∀ (H':Hp) (l p:Addr),ah H H'->H l=none->H' l=some (.lst (PV (told (Tx.words 47 t) t)))->H' p=some (.tup [.bl (cA t),.ref l])->Q (.ref p) H')
structure ZX (ps:List (List Nat)) (t:List Nat):Prop where
 words:Tx.words 47 t=ps
 one:1<=t.length
 most:t.length<=150
def rW (n kd ow mi re tx nm pl:V):List (Str×V):=[("number",n),("kind",kd),("owner",ow),("mine",mi),("rest",re),("text",tx),("names",nm),("places",pl)]
def uw (ml:Addr) (c:Int):List (Str×V):=[("made",.ref ml),("changes",.int c)]
structure Th where
 kd:Str
 ow:Str
 mi:Str
 re:Str
 tx:Str
 bb:List (Str×Nat)
 cC:List (Nat×Str)
structure Hs where
 ts:List Th
 ro:List (Str×Nat)
 st:List (Str×Nat)
 tr:List (Str×Nat)
 ov:List (Nat×Nat)
 un:List (Nat×Nat)
structure Ta where
 th:Addr
 dw:Addr
 nm:Addr
 pl:Addr
structure Ad where
 a:Addr
 dx:Addr
 t:Addr
 dt:Addr
 ml:Addr
 ro:Addr
 st:Addr
 tr:Addr
 ov:Addr
 un:Addr
 ho:Addr
def oW (c:Int) (A:Ad):List (Str×V):=[("things",.ref A.t),("changes",.int c),("roots",.ref A.ro),("standings",.ref A.st),("tree_roots",.ref A.tr),("root_over",.ref A.ov),("folder_under",.ref A.un),("holds",.ref A.ho),("holds_given",.int 0),("first_root",.int 0)]
theorem Oq {f:Str} {c c':Int} {A:Ad} (h:f ≠ "changes"):(oW c A).lookup f=(oW c' A).lookup f:=by
 unfold oW;simp only [List.lookup];have:(f == ("changes" : Str))=false:=beq_eq_false_iff_ne.mpr h;rw [this]
def sD (l:List (Str×Nat)):List (Key×V):=l.map fun e=>(.inr e.1,.int e.2)
def nD (l:List (Nat×Nat)):List (Key×V):=l.map fun e=>(.inl (e.1:Int),.int e.2)
def pD (l:List (Nat×Str)):List (List Key×V):=l.map fun e=>([.inl (e.1:Int),.inr e.2],.bl true)
structure nF (CT:Addr) (H:Hp) (a:Ta) (i:Nat) (t:Th):Prop where
 o:∃ fs,H a.th=some (.ins CT a.dw fs)/\fs.length<=40/\cZ fs (rW (.int i) (.str t.kd) (.str t.ow) (.str t.mi) (.str t.re) (.str t.tx) (.ref a.nm) (.ref a.pl))
 nm:H a.nm=some (.dK (sD t.bb))
 pl:H a.pl=some (.dT (pD t.cC))
def Ad.w (A:Ad):List Addr:=[A.a,A.t,A.ml,A.ro,A.st,A.tr,A.ov,A.un]
def Ta.l (a:Ta):List Addr:=[a.th,a.nm,a.pl]
structure aG (CH CS CT:Addr) (H:Hp) (A:Ad) (L:List Ta) (M:Hs):Prop where
 h:∃ fs c,H A.a=some (.ins CH A.dx fs)/\fs.length<=40/\cZ fs (oW c A)
 t:∃ fs c,H A.t=some (.ins CS A.dt fs)/\fs.length<=40/\cZ fs (uw A.ml c)
 ml:H A.ml=some (.lst (L.map fun a=>.ref a.th))
 len:L.length=M.ts.length
 th:∀ i t,M.ts[i]?=some t->∃ a,L[i]?=some a/\nF CT H a i t
 ro:H A.ro=some (.dK (sD M.ro))
 st:H A.st=some (.dK (sD M.st))
 tr:H A.tr=some (.dK (sD M.tr))
 ov:H A.ov=some (.dK (nD M.ov))
 un:H A.un=some (.dK (nD M.un))
 nd:(A.w++L.flatMap Ta.l).Nodup
def Kp (W:List Addr) (H H':Hp):Prop:=∀ b o,b ∉ W->H b=some o->H' b=some o
theorem Kp.trans (a:Kp W H H1) (b:Kp W H1 H2):Kp W H H2:=fun c o h e=>b c o h (a c o h e)
theorem Kp.of (s:ah H H'):Kp W H H':=fun b o _ e=>s b o e
theorem Kp.more {V W:List Addr} {H H':Hp} (k:Kp V H H') (h:∀ b∈V,b∈W):Kp W H H':=fun b o hb e=>k b o (fun z=>hb (h b z)) e
theorem bU {H:Hp} {a b:Addr} {o u:HO} (h1:H a=some o) (h2:H b=some u) (h:o≠u):a≠b:=fun e=>h (by rw [e,h2] at h1; cases h1; rfl)
theorem aK {H:Hp} {a b:Addr} {o:HO} (h1:H a=some o) (h2:H b=none):a≠b:=fun e=>by rw [e,h2] at h1; cases h1
theorem AL {H:Hp} {x d:Addr} {o O oo:HO} (hn:H d=none) (hx:H x=some oo):upd (upd H d o) x O x=some O/\upd (upd H d o) x O d=some o/\(∀ b u,b≠x->H b=some u->upd (upd H d o) x O b=some u)/\d≠x:=by
 have n:=aK hx hn;refine ⟨ax,by rw [ag (Ne.symm n),ax],fun b u hb e=>?_,Ne.symm n⟩;rw [ag hb,ag (aK e hn)]; exact e
section
variable {CH CS CT:Addr} {H H':Hp} {A:Ad} {L:List Ta} {M:Hs}
theorem nF.keep (h:nF CT H a i t) (k:Kp W H H') (hw:∀ b∈a.l,b ∉ W):nF CT H' a i t where
 o:=let ⟨fs,e,r⟩:=h.o; ⟨fs,k _ _ (hw _ (by simp [Ta.l])) e,r⟩
 nm:=k _ _ (hw _ (by simp [Ta.l])) h.nm
 pl:=k _ _ (hw _ (by simp [Ta.l])) h.pl
theorem jN {i:Nat} {a:Ta} (h:L[i]?=some a) {b:Addr} (hb:b∈a.l):b∈L.flatMap Ta.l:=List.mem_flatMap.mpr ⟨a,List.mem_of_getElem? h,hb⟩
theorem aG.keep {W:List Addr} (i:aG CH CS CT H A L M) (k:Kp W H H') (hw:∀ b∈A.w++L.flatMap Ta.l,b ∉ W):aG CH CS CT H' A L M where
 h:=let ⟨fs,c,e,r⟩:=i.h; ⟨fs,c,k _ _ (hw _ (by simp [Ad.w])) e,r⟩
 t:=let ⟨fs,c,e,r⟩:=i.t; ⟨fs,c,k _ _ (hw _ (by simp [Ad.w])) e,r⟩
 ml:=k _ _ (hw _ (by simp [Ad.w])) i.ml
 len:=i.len
 th:=fun j t e=>let ⟨a,e1,h⟩:=i.th j t e; ⟨a,e1,h.keep k fun b hb=>hw b (List.mem_append_right _ (jN e1 hb))⟩
 ro:=k _ _ (hw _ (by simp [Ad.w])) i.ro
 st:=k _ _ (hw _ (by simp [Ad.w])) i.st
 tr:=k _ _ (hw _ (by simp [Ad.w])) i.tr
 ov:=k _ _ (hw _ (by simp [Ad.w])) i.ov
 un:=k _ _ (hw _ (by simp [Ad.w])) i.un
 nd:=i.nd
theorem aG.same (i:aG CH CS CT H A L M) (s:ah H H'):aG CH CS CT H' A L M:=i.keep (W:=[]) (.of s) fun _ _=>by simp
theorem vV:∀ {L:List Ta} {i j:Nat} {a a':Ta} {b:Addr},(L.flatMap Ta.l).Nodup->L[i]?=some a->L[j]?=some a'->b∈a.l->b∈a'.l->i=j
 | [],_,_,_,_,_,_,h,_,_,_=>by simp at h
 | c::r,0,0,_,_,_,_,_,_,_,_=>rfl
 | c::r,0,j+1,a,a',b,nd,h1,h2,m1,m2=>by
  rw [List.flatMap_cons,List.nodup_append] at nd;simp only [List.getElem?_cons_zero,Option.some.injEq] at h1;simp only [List.getElem?_cons_succ] at h2;subst h1;exact absurd rfl (nd.2.2 b m1 b (jN h2 m2))
 | c::r,i+1,0,a,a',b,nd,h1,h2,m1,m2=>by
  rw [List.flatMap_cons,List.nodup_append] at nd;simp only [List.getElem?_cons_zero,Option.some.injEq] at h2;simp only [List.getElem?_cons_succ] at h1;subst h2;exact absurd rfl (nd.2.2 b m2 b (jN h1 m1))
 | c::r,i+1,j+1,a,a',b,nd,h1,h2,m1,m2=>by
  rw [List.flatMap_cons,List.nodup_append] at nd;simp only [List.getElem?_cons_succ] at h1 h2;rw [vV nd.2.1 h1 h2 m1 m2]
theorem aG.write {k:Nat} {a:Ta} {t':Th} (i:aG CH CS CT H A L M) (hk:L[k]?=some a) (hh:∃ fs c,H' A.a=some (.ins CH A.dx fs)/\fs.length<=40/\cZ fs (oW c A)) (ht:∃ fs c,H' A.t=some (.ins CS A.dt fs)/\fs.length<=40/\cZ fs (uw A.ml c))
  (aQ:nF CT H' a k t') (kp:Kp [A.a,A.t,a.th,a.nm,a.pl] H H'):aG CH CS CT H' A L { M with ts:=M.ts.set k t' }:=by
 have nd:=i.nd;rw [List.nodup_append] at nd;obtain ⟨n1,n2,n3⟩:=nd;have ma:∀ b∈a.l,b∈L.flatMap Ta.l:=fun b hb=>jN hk hb;have qU:∀ b∈[A.ml,A.ro,A.st,A.tr,A.ov,A.un],b ∉ [A.a,A.t,a.th,a.nm,a.pl]:=by
  intro b hb hm;have hw:b∈A.w:=by
   simp only [Ad.w,List.mem_cons,List.not_mem_nil,or_false] at hb ⊢;rcases hb with h | h | h | h | h | h <;> simp [h]
  simp only [List.mem_cons,List.not_mem_nil,or_false] at hm;rcases hm with rfl | rfl | rfl | rfl | rfl
  ·have:=(List.nodup_cons.mp n1).1;simp only [List.mem_cons,List.not_mem_nil,or_false,not_or] at hb this;rcases hb with h | h | h | h | h | h <;> simp [h] at this
  ·have:=(List.nodup_cons.mp (List.nodup_cons.mp n1).2).1;simp only [List.mem_cons,List.not_mem_nil,or_false,not_or] at hb this;rcases hb with h | h | h | h | h | h <;> simp [h] at this
  ·exact n3 _ hw _ (ma _ (by simp [Ta.l])) rfl
  ·exact n3 _ hw _ (ma _ (by simp [Ta.l])) rfl
  ·exact n3 _ hw _ (ma _ (by simp [Ta.l])) rfl
 refine ⟨hh,ht,kp _ _ (qU _ (by simp)) i.ml,by rw [i.len]; simp,fun j t e=>?_,kp _ _ (qU _ (by simp)) i.ro,kp _ _ (qU _ (by simp)) i.st,kp _ _ (qU _ (by simp)) i.tr,kp _ _ (qU _ (by simp)) i.ov,kp _ _ (qU _ (by simp)) i.un,i.nd⟩;by_cases hj:j=k
 ·subst hj;have b8:j < M.ts.length:=by rw [<- i.len]; exact (List.getElem?_eq_some_iff.mp hk).1
  have e':(M.ts.set j t')[j]?=some t:=e;rw [List.getElem?_set_self b8] at e';cases e';exact ⟨a,hk,aQ⟩
 ·have e':(M.ts.set k t')[j]?=some t:=e;rw [List.getElem?_set_ne (Ne.symm hj)] at e';obtain ⟨a',e1,h1⟩:=i.th j t e';refine ⟨a',e1,h1.keep kp fun b hb hm=>?_⟩;have jY:=jN e1 hb;simp only [List.mem_cons,List.not_mem_nil,or_false] at hm;rcases hm with rfl | rfl | rfl | rfl | rfl
  ·exact n3 _ (by simp [Ad.w]) _ jY rfl
  ·exact n3 _ (by simp [Ad.w]) _ jY rfl
  ·exact hj (vV n2 e1 hk hb (by simp [Ta.l]))
  ·exact hj (vV n2 e1 hk hb (by simp [Ta.l]))
  ·exact hj (vV n2 e1 hk hb (by simp [Ta.l]))
end
def Kn:V->Bool
 | .int _=>true
 | _=>false
def NG:Sp:=rR fun v H Q _=>(∃ T,clsName H v=some T)/\Q (.bl (Kn v)) H
def Ut:Sp:=rR fun x H Q _=>A4 (∃ T,clsName H x=some T) (Ie x) (fF x=true) (∀ H',ah H H'->Q .au H')
def OZ (C:Addr):Sp:=Jg fun x n kd ow mi re tx H Q _=>X1 fun dx=>A2 (H x=some (.ins C dx [])) (∀ l1 l2 H',H l1=none->H l2=none->l1≠l2->l1≠x->l2≠x->(∀ b,b≠x->b≠l1->b≠l2->H' b=H b)->H' l1=some (.dK [])->H' l2=some (.dT []) ->
   (∀ fs,fs.length<=40->cZ fs (rW n kd ow mi re tx (.ref l1) (.ref l2))->H' x=some (.ins C dx fs)->Q .au H'))
def P9 (C:Addr):Sp:=iU fun x H Q _=>X1 fun dx=>A2 (H x=some (.ins C dx [])) (∀ l H',H l=none->l≠x->(∀ b,b≠x->b≠l->H' b=H b)->H' l=some (.lst [])->(∀ fs,fs.length<=40->cZ fs (uw l 0)->H' x=some (.ins C dx fs)->Q .au H'))
structure kX (CS:Addr) (H:Hp) (x dt ml:Addr) (rs:List V):Prop where
 o:∃ fs c,H x=some (.ins CS dt fs)/\fs.length<=40/\cZ fs (uw ml c)
 ml:H ml=some (.lst rs)
def tm (CS CT:Addr) (x dt ml:Addr) (rs:List V) (kd ow mi re tx:V) (H:Hp) (Q:VK):Prop :=
 ∀ th dw nm pl ks H',H th=none->H nm=none->H pl=none->kX CS H' x dt ml (rs++[.ref th])->H' th=some (.ins CT dw ks)->ks.length<=40->cZ ks (rW (.int rs.length) kd ow mi re tx (.ref nm) (.ref pl)) ->
  H' nm=some (.dK [])->H' pl=some (.dT [])->Kp [x,ml] H H'->Q (.int rs.length) H'
def T6 (CS CT:Addr):Sp:=Jn fun x kd ow mi re tx H Q _=>X3 fun dt ml rs=>A3 (kX CS H x dt ml rs) (rs.length<=500) (tm CS CT x dt ml rs kd ow mi re tx H Q)
def Tc (CS CT:Addr):Sp:=Af fun x ow mi re H Q _=>X3 fun dt ml rs=>A3 (kX CS H x dt ml rs) (rs.length<=500) (tm CS CT x dt ml rs (.str "folder") ow mi re (.str "") H Q)
def Xo (CS CT:Addr):Sp:=Gs fun x ow tx mi re H Q _=>X3 fun dt ml rs=>A3 (kX CS H x dt ml rs) (rs.length<=500) (tm CS CT x dt ml rs (.str "file") ow mi re tx H Q)
def T7 (CS CT:Addr):Sp:=zF fun x ow tx H Q _=>X3 fun dt ml rs=>A3 (kX CS H x dt ml rs) (rs.length<=500) (tm CS CT x dt ml rs (.str "lead") ow (.str "") (.str "") tx H Q)
def J9 (CH CS CT CN:Addr):Sp:=C5 fun x v H Q E=>X3 fun A L M=>A5 (aG CH CS CT H A L M) (A.t=x) (∃ T,clsName H v=some T) (∀ (k:Nat) a t,v=.int k->L[k]?=some a->M.ts[k]?=some t->Q (.ref a.th) H) ((∀ k:Nat,v=.int k->¬ k < M.ts.length)->E (.ref CN) none H)
abbrev mC:=Ad->List Ta->Hs->Nat->Ta->Th->Hp->VK->Prop
def n6 (CH CS CT:Addr) (sel:Ad->Addr) (f:mC):Sp:=iy fun x n H Q _=>X6 fun A L M (k:Nat) a t=>A6 (aG CH CS CT H A L M) (sel A=x) (n=(k:Int)) (L[k]?=some a) (M.ts[k]?=some t) (f A L M k a t H Q)
def Pu (CH CS CT:Addr) (sel:Ad->Addr):Sp:=vM fun x n z H Q _=>X6 fun A L M (k:Nat) a t=>A6 (aG CH CS CT H A L M) (sel A=x) (n=(k:Int)) (L[k]?=some a) (M.ts[k]?=some t) (Q ((aF (sD t.bb) (.inr z)).getD .au) H)
def QJ (CH CS CT:Addr):Sp:=vM fun x n z H Q _=>X6 fun A L M (k:Nat) a t=>A8 (aG CH CS CT H A L M) (A.a=x) (n=(k:Int)) (L[k]?=some a) (M.ts[k]?=some t) (fF (.str z)=true) (z.length<=1000) (∀ H',ah H H'->Q ((aF (sD t.bb) (.inr z)).getD .au) H')
abbrev aac:mC:=fun _ _ _ _ _ t H Q=>t.bb.length < 64/\∀ l,H l=none->Q (.ref l) (upd H l (.lst ((gR (t.bb.map (·.1))).map V.str)))
abbrev Gq:mC:=fun _ _ _ _ _ t H Q=>(t.cC=[]/\Q .au H)\/∃ f z,t.cC=[(f,z)]/\∀ p,H p=some (.tup [.int (f:Nat),.str z])->Q (.ref p) H
abbrev ka:mC:=fun _ _ _ _ _ t H Q=>Q (.str t.kd) H
abbrev V8:mC:=fun _ _ _ _ _ t H Q=>Q (.str t.ow) H
abbrev wX:mC:=fun _ _ _ _ _ t H Q=>Q (.str t.tx) H
abbrev Z2:mC:=fun _ _ _ _ _ t H Q=>∀ l,H l=none->Q (.ref l) (upd H l (.tup [.str t.mi,.str t.re]))
abbrev Up:mC:=fun _ _ _ _ _ _ H Q=>Q .au H
def Fi (CH CS CT CA:Addr):Sp:=C5 fun x v H Q E=>X3 fun A L M=>A5 (aG CH CS CT H A L M) (A.a=x) (∃ T,clsName H v=some T) (∀ z,v=.str z->(aF (sD M.ro) (.inr z)).isSome=true->Q .au H) ((∀ z,v=.str z->aF (sD M.ro) (.inr z)=none)->E (.ref CA) none H)
def Qk (CH CS CT:Addr):Sp:=gY fun x z H Q _=>X4 fun A L M (r:Nat)=>A4 (aG CH CS CT H A L M) (A.a=x) (aF (sD M.ro) (.inr z)=some (.int r)) (Q (.int r) H)
def eG (t:Th) (asker:Str):Str:=if asker=t.ow then t.mi else t.re
def SG (CT:Addr):Sp:=gY fun x z H Q _=>X3 fun a i t=>A3 (nF CT H a i t) (a.th=x) (Q (.str (eG t z)) H)
def jJ (v:V):Bool:=decide (v=.str "l") || decide (v=.str "g") || decide (v=.str "w")
def Ze (CR:Addr):Sp:=rR fun v H Q E=>A3 (∃ T,clsName H v=some T) (jJ v=true->Q .au H) (jJ v=false->E (.ref CR) none H)
def fb (s:Str) (z:Str):Bool:=!(Builtin.Str.occurrences z s 0 z.length 1).isEmpty
def HX (CH CS CT CA CR CN:Addr):Sp:=Af fun x w v r H Q E=>X3 fun A L M=>A7 (aG CH CS CT H A L M) (A.a=x) (∃ T,clsName H w=some T) (∃ T,clsName H v=some T) (∃ T,clsName H r=some T) ((∀ z,w=.str z->aF (sD M.ro) (.inr z)=none)->E (.ref CA) none H) (∀ z,w=.str z->(aF (sD M.ro) (.inr z)).isSome=true->(jJ r=false->E (.ref CR) none H) /\
    ∀ s,r=.str s->jJ r=true->((∀ k:Nat,v=.int k->¬ k < M.ts.length)->E (.ref CN) none H)/\∀ (k:Nat) t,v=.int k->M.ts[k]?=some t->Q (.bl (fb s (eG t z))) H)
local macro_rules | `(tactic| walk_at "rd")=>`(tactic| dsimp only [rH,zA,Dn,Ab,jt,eV,zI,fh,tC,ir,BE,xB,nM,fD,fR,wc,ko,Bv,zf,Bp,Cd,rY,jI,qg,xr,xq,wy,lF,Bi,AJ,zg,AZ,wB,Ck,vL,BO,ZK,PN,Rg,T8,nj,xw,AF,AV,Ax,BC,Am,Bc,Al,rJoin,AU,Av,rO,zQ,wg,uf,AW,JC,A0,zZ,Ah,zi,Dd,CO,Aq,sM,se,Ai,Dk,Bt,Dh,Dg,BS,AE,yV,Df,yE,yQ,Co,yS,Rz,uq,gq,Cj,Og,B2,yx,zM,zS,Cz,yA,zt,BL,y1,zk,CB,CU,Bo,wb,AN,yO,vo,zj,wj,BM,y2,Zo,FJ,yK,xu,UP,List.getElem?_cons_zero,List.getElem?_cons_succ,List.set_cons_zero,List.set_cons_succ,List.cons_append,List.nil_append])
local macro_rules | `(tactic| walk_at "w")=>`(tactic| (first | walk_at "rd" | skip))
local macro_rules | `(tactic| left)=>`(tactic| walk_at "w")
local macro_rules | `(tactic| walk_at "f")=>`(tactic| (refine Nat.lt_of_le_of_lt (m:=40) ?_ (by decide); (repeat (refine cf ?_)); exact Nat.zero_le _))
local macro_rules | `(tactic| walk_at "c")=>`(tactic| (repeat (first | exact trivial | (refine ⟨fun z=>(by first | exact ⟨_,rfl⟩ | (rcases z with z | z <;> cases z)),?_⟩))))
open Dv (aa ae ai aM aR aU aW aZ bf bG cF cK c9 dR ef eA et au fz fo iu iS jf jo jz jC kE kZ l6 lL nK nR oQ pe pE sd uk tH ub xn wo xo Ac za Bm yF JM Ld GU Hm GG Hb Ge JX JI yW SA Yb YK Ug Om OL OC SN ND Vv QC)
abbrev ad:=@Dv.v
abbrev al:=@Dv.cut
abbrev am:=@Dv.int
abbrev ap:=@Dv.str
abbrev bi:=@Dv.fld
abbrev bn:=@Dv.call
abbrev bv:=@Dv.ix
abbrev ce:=@Dv.nil
abbrev ci:=@Dv.lst
abbrev cr:=@Dv.op
abbrev db:=@Dv.glob
abbrev dl:=@Dv.tup
abbrev dL:=@Dv.bl
abbrev em:=@Dv.cmp
abbrev f8:=@Dv.w_and
abbrev ge:=@Dv.slice
abbrev gl:=@Dv.w_or
abbrev ii:=@Dv.un
abbrev im:=@Dv.make
section
variable {P:Program} {w:World} {K:PySem.W.Frag} {mg:Str->Option Value} {base:Heap}
variable (T:Tx K mg)
theorem Bl:T.iA.k P w base 1 (Qi K):=by
 refine T.iA.F.ok Y6 (fun _ _ _ _ h=>mf h fun _ _=>rfl) fun _ A _ s H vs Q E hr h=>mf h fun x h=>?_;obtain ⟨⟨ty,h1⟩,lx,q⟩:=h;refine ⟨_,((al (aW (eA (gl (c9 (cK (cF jw T.fQ fZ (aa (ad 0) (aa (jf (.ty "str") T.my md rfl) ae))))) (jo (c9 (Ac qb qb am (cF (kc (K:=K) rfl) T.jg PySem.boot_len (aa (ad 0) ae)) (db (.int 8) T.Zi ⟨_,rfl⟩)))))) (ai (aM dL)) ce)
 (ai (aM (cF (KD (K:=K) rfl rfl) T.GI K8 (aa (JM rfl (x:=("sign" : Str)) (SA (ad 0)) (fun _ _ _ _=>by exact sd) (fun _ _ _ _=>by exact (et 0 (show List.Nodup (["sign"]:List Str) by decide))) (fun _ _ _ _=>by exact (em (tu (K:=K) rfl) (ad 0) (db (.str "abcdefghijklmnopqrstuvwxyz") T.Xd ⟨_,rfl⟩))) (.of rfl (by exact trivial) (by walk_at "c") rfl (by exact trivial))) ae)))))).h,?_⟩
 refine stI [some x] ?_;refine aj ?_;walk_at "rd";simp only [h1,yP h1];refine ⟨vy _ rfl,?_⟩;cases x with
 | str z =>
  simp only [w9,Bool.not_true,Bool.false_eq_true,if_false];have hsh':z.length<=1000:=lx;have hl:z.cps.toList.length=z.length:=by simp [Str.length]
  refine ⟨fits hsh',?_⟩;by_cases a1:1<=z.length
  ·rw [decide_eq_true (show (1:Int)<=(z.length:Int) by omega)];refine bT ?_;by_cases a2:z.length<=8
   ·rw [decide_eq_true (show (z.length:Int)<=8 by omega)];refine aY ?_;refine UC (fun c=>.bl (o7.contains c)) (fits hsh') ?_ ?_
    ·intro c _ H1 _ R hR;walk_at "rd";rw [ON,show (⟨#[c]⟩:Str)=Tx.S [c] from rfl,Tx.PZ];exact hR H1 (ah.refl H1)
    ·intro H1 s1 l kq;refine ⟨_,aC.of ax,z.cps.toList.map (o7.contains ·),by rw [List.map_map]; rfl,?_⟩;have e:((z.cps.toList.map (o7.contains ·)).all id)=fF (.str z):=by
      show _=isNm z.cps.toList;unfold isNm;rw [hl,decide_eq_true a1,decide_eq_true a2,List.all_map];rfl
     rw [e];exact q _ (s1.trans (ah.upd kq))
   ·rw [decide_eq_false (show ¬ (z.length:Int)<=8 by omega)];refine bT ?_;have e:fF (.str z)=false:=by
     show isNm z.cps.toList=false;unfold isNm;rw [hl,decide_eq_false a2,Bool.and_false,Bool.false_and]
    have:=q H (ah.refl H);rw [e] at this;exact this
  ·rw [decide_eq_false (show ¬ (1:Int)<=(z.length:Int) by omega)];refine aY (bT ?_);have e:fF (.str z)=false:=by
    show isNm z.cps.toList=false;unfold isNm;rw [hl,decide_eq_false a1,Bool.false_and,Bool.false_and]
   have:=q H (ah.refl H);rw [e] at this;exact this
 | _=>exact q H (ah.refl H)
theorem bD (h:QB X b t) (q:t D σ H):∃ t,dE X b t/\t D σ H:=⟨t,h.h,q⟩
def XH:V->Bool
 | .int _=>true
 | .bl _=>true
 | _=>false
theorem WJ (h:clsName H v=some ty):sx ty "int" = XH v:=by
 unfold clsName at h;split at h
 ·cases h; rfl
 ·cases h; rfl
 ·cases h; rfl
 ·cases h; rfl
 ·split at h
  ·cases h; rfl
  ·cases h; rfl
  ·cases h; rfl
  ·cases h
 ·cases h
theorem HS:T.ky.k P w base 1 NG:=by
 refine T.ky.F.ok Vy (fun _ _ _ _ h=>mf h fun _ _=>rfl) fun _ A _ s H vs Q E hr h=>mf h fun v h=>?_;obtain ⟨⟨ty,cw⟩,q⟩:=h;refine ⟨_,((ai (aM (xn (cF jw T.fQ fZ (aa (ad 0) (aa (jf (.ty "int") T.ui tY rfl) ae))) (Dv.one (Yb (cF jw T.fQ fZ (aa (ad 0) (aa (jf (.ty "bool") T.g_bool Xq rfl) ae))))))))).h,?_⟩;refine stI [some v] ?_;left;simp only [cw];refine ⟨by decide,?_⟩;cases v with
 | int i=>cases cw; exact bT ⟨by decide,q⟩
 | bl b=>cases cw; exact bT ⟨by decide,q⟩
 | _ =>
  rw [WJ cw];exact aY q
theorem C1:T.il.k P w base 2 Ut:=by
 refine T.il.F.ok Vs (fun _ _ _ _ h=>mf h fun _ _=>rfl) fun _ A _ s H vs Q E hr h=>mf h fun x h=>?_;obtain ⟨hc,lx,hn,q1⟩:=h;refine ⟨_,((ai (aW (c9 (cK (bn (Bl T) hr.m T.iA.m T.iA.F.kp T.iA.b .nil aq (aa (ad 0) ae)))) (ai fz) ce))).h,?_⟩;refine stI [some x] ?_;left;refine ⟨hc,lx,fun H' s'=>?_⟩;rw [hn];exact aY (q1 H' s')
def iN:List Str:=["","l","g","w","lg","lw","gw","lgw"]
def VM:Sp:=jD fun z H Q _=>z∈iN/\Q (.bl true) H
def Vm:Sp:=jD fun z H Q _=>z∈iN/\Q .au H
theorem Y0 {z:Str} {zs:List Str} (h:z∈zs):gT (V.str z) (zs.map V.str)=true:=by
 unfold gT;rw [List.any_map,List.any_eq_true];exact ⟨z,h,show (z == z)=true from beq_self_eq_true z⟩
theorem Qu:T.pN.k P w base 1 VM:=by
 refine T.pN.F.ok NK (fun _ _ _ _ h=>eU h fun _ _=>rfl) fun _ A _ s H vs Q E hr h=>eU h fun z h=>?_;obtain ⟨hz,q⟩:=h;refine ⟨_,((ai (aM (xn (cF jw T.fQ fZ (aa (ad 0) (aa (jf (.ty "str") T.my md rfl) ae))) (Dv.one (em (wN (K:=K) rfl) (ad 0) (db (.ref T.D5) T.T4 rfl))))))).h,?_⟩;refine stI [some (V.str z)] ?_;left;refine ⟨by decide,bT ⟨_,.inr (T.zT H),rfl,rfl,?_⟩⟩;rw [show [V.str (Str.ofString ""),V.str (Str.ofString "l"),V.str (Str.ofString "g"),V.str (Str.ofString "w"),V.str (Str.ofString "lg"),V.str (Str.ofString "lw"),V.str (Str.ofString "gw"),V.str (Str.ofString "lgw")]=iN.map V.str from rfl,Y0 hz];exact q
theorem qi:T.eg.k P w base 2 Vm:=by
 refine T.eg.F.ok Wx (fun _ _ _ _ h=>eU h fun _ _=>rfl) fun _ A _ s H vs Q E hr h=>eU h fun z h=>?_;obtain ⟨hz,q⟩:=h;refine ⟨_,((ai (aW (c9 (cK (bn (Qu T) hr.m T.pN.m T.pN.F.kp T.pN.b .nil aq (aa (ad 0) ae)))) (ai fz) ce))).h,?_⟩;refine stI [some (V.str z)] ?_;left;exact ⟨hz,aY q⟩
theorem P2 (v:V):gT v [V.str (Str.ofString "l"),V.str (Str.ofString "g"),V.str (Str.ofString "w")]=jJ v:=by
 unfold gT jJ;simp only [List.any_cons,List.any_nil,Bool.or_false];have key:∀ z:Str,f6 (.str z) v=decide (v=.str z):=fun z=>by
  cases v with
  | str y =>
   show (z == y)=decide (V.str y=V.str z);by_cases e:z=y
   ·subst e; simp
   ·rw [decide_eq_false (by intro h; injection h with h; exact e h.symm)];exact beq_eq_false_iff_ne.mpr e
  | _=>rfl
 rw [key,key,key,Bool.or_assoc]
theorem ZE:az P w K mg base (cM P w) 1 T.pb.f T.pb.d ["text"] (Ze T.uT):=by
 refine T.pb.F.dP Qm (fun _ _ _ _ h=>mf h fun _ _=>rfl) fun _ A _ s H vs Q E hr h=>mf h fun v h=>?_;obtain ⟨⟨ty,cw⟩,q1,q2⟩:=h;refine ⟨_,((ai (aW (eA (gl (c9 (cK (cF jw T.fQ fZ (aa (ad 0) (aa (jf (.ty "str") T.my md rfl) ae))))) (jo (aZ (vv (K:=K) rfl) (ad 0) (db (.ref T.Ei) T.Wu rfl))))) (ai (za Ak rfl T.Yy T.Oy (aa ap ae))) ce))).h,?_⟩;refine stI [some v] ?_;left;simp only [cw,yP cw];refine ⟨vy _ rfl,?_⟩;cases v with
 | str z =>
  simp only [w9,Bool.not_true,Bool.false_eq_true,if_false];refine ⟨_,.inr (T.An H),rfl,rfl,?_⟩;rw [P2];cases ho:jJ (.str z) with
  | true=>exact aY (q1 ho)
  | false=>exact bT ⟨fits (by simp),q2 ho⟩
 | _=>exact ⟨fits (by simp),q2 rfl⟩
theorem YS:T.pY.k P w base 2 (Ri K):=by
 refine T.pY.F.ok PM (fun _ _ _ _ h=>eU h fun _ _=>rfl) fun _ A _ s H vs Q E hr h=>eU h fun z h=>?_;obtain ⟨w',rfl,hw,q⟩:=h;refine ⟨_,((ai (aM (YK (em (wN (K:=K) rfl) (ad 0) (db (.ref T.Es) T.UT rfl)) (Dv.one (bn (Bl T) hr.m T.iA.m T.iA.F.kp T.iA.b .nil aq (aa (ad 0) ae))))))).h,?_⟩;refine stI [some (V.str (Tx.S w'))] ?_;walk_at "rd";refine ⟨_,.inr (T.Aj H),rfl,rfl,?_⟩;have e:gT (V.str (Tx.S w')) [V.str (Str.ofString "."),V.str (Str.ofString "..")]=(decide (w'=[46]) || decide (w'=[46,46])):=by
  rw [show Str.ofString "." = Tx.S [46] from by decide +kernel,show Str.ofString ".." = Tx.S [46,46] from by decide +kernel];unfold gT f6;simp only [List.any_cons,List.any_nil,Bool.or_false];have b:∀ m:List Nat,(Tx.S m == Tx.S w')=decide (w'=m):=fun m=>by
   by_cases h:w'=m
   ·rw [h]; simp
   ·have:Tx.S m≠Tx.S w':=fun e=>h (Tx.pS e).symm;rw [decide_eq_false h];exact beq_eq_false_iff_ne.mpr this
  rw [b,b]
 rw [e];cases hd:(decide (w'=[46]) || decide (w'=[46,46])) with
 | true =>
  refine bT ?_;have:=q H (ah.refl H);unfold cz at this;rw [hd] at this;exact this
 | false =>
  refine aY ?_;refine ⟨⟨_,rfl⟩,(by show (Tx.S w').length<=1000; rw [Tx.cq]; exact hw),fun H' s'=>?_⟩;have:=q H' s';unfold cz at this;rw [hd,Bool.false_or] at this;have e2:fF (V.str (Tx.S w'))=isNm w':=by show isNm _=_; rw [Tx.jM]
  rw [e2];exact this
theorem ke:T.cH.k P w base 3 (Rr K):=by
 refine T.cH.F.ok IL (fun _ _ _ _ h=>eU h fun _ _=>rfl) fun _ A _ s H vs Q E hr h=>eU h fun z h=>?_;obtain ⟨t,rfl,t1,t2,gD,q⟩:=h;refine ⟨_,((al (aW (eA (gl (c9 (cK (cF jw T.fQ fZ (aa (ad 0) (aa (jf (.ty "str") T.my md rfl) ae))))) (jo (c9 (Ac qb qb am (cF (kc (K:=K) rfl) T.jg PySem.boot_len (aa (ad 0) ae)) (db (.int 2000) T.VB ⟨_,rfl⟩)))))) (ai fz) ce)
 (al (Bm 1 rfl IL.nd (x:=("part" : Str)) (iS (K:=K) rfl (nK PySem.F.slot_str_split PySem.F.type_str_split Fy (ad 0) (aa ap ae))) (fun _ _ _ _=>by exact (Ld (aZ lK (ad 0) ap))) (fun _ _ _ _=>by exact (et 0 (show List.Nodup (["part"]:List Str) by decide))) (fun _ _ _ _=>by exact (ad 0)) (.of rfl (by exact trivial) (by walk_at "c") rfl (by exact trivial)))
 (al (aW (c9 (cK (cF (KD (K:=K) rfl rfl) T.GI K8 (aa (JM rfl (x:=("part" : Str)) (iS (K:=K) rfl (ad 1)) (fun _ _ _ _=>by exact sd) (fun _ _ _ _=>by exact (et 0 (show List.Nodup (["part"]:List Str) by decide))) (fun _ _ _ _=>by exact (bn (YS T) hr.m T.pY.m T.pY.F.kp T.pY.b .nil aq (aa (ad 0) ae))) (.of rfl (by exact trivial) (by walk_at "c") rfl (by exact trivial))) ae)))) (ai fz) ce)
 (al (aW (eA (f8 (aZ (C6 hr.gg) (ad 1) (ci ae)) (jz (cK (nK PySem.F.slot_str_endswith PySem.F.type_str_endswith PX (ad 0) (aa ap ae)))))) (ai (aU (fo PySem.F.slot_list_append PySem.F.type_list_append js (ad 1) (aa ap ae)))) ce)
 (ai (aM (dl (aa (nK PySem.F.slot_str_startswith PySem.F.type_str_startswith R4 (ad 0) (aa ap ae)) (aa (ad 1) ae)))))))))).h,?_⟩
 refine stI [some (V.str (Tx.S t)),none] ?_;refine aj ?_;walk_at "rd";have qN:Str.ofString "/" = Tx.S [47]:=by decide +kernel
 have e0:Str.ofString "" = Tx.S []:=by decide +kernel
 simp only [Tx.cq,qN,e0];refine ⟨vy _ rfl,aY ⟨Nat.le_trans t2 (by decide),?_⟩⟩;rw [decide_eq_true (show (1:Int)<=(t.length:Int) by omega),decide_eq_true (show (t.length:Int)<=2000 by omega)];refine bT (aY (aj ?_));walk_at "rd";have yf:=Tx.vQ 47 t;refine ⟨rfl,by rw [Tx.cq]; exact Nat.le_trans t2 (by decide),?_,?_⟩
 ·rw [Tx.yU,Tx.me,Tx.Ci,Tx.rF,List.length_map];exact Nat.le_trans (show _<=2001 by omega) (by decide)
 intro l hl;rw [Tx.KN t 47 (by decide)];refine c8 (o:=.lst (((Tx.cut 47 t).map Tx.S).map V.str)) hl fun H1 s1 b1=>?_;refine ⟨⟨_,aC.of b1⟩,Ar (fun x=>match x with | .str z=>!decide (z=Tx.S []) | _=>false) id (aC.of b1) (by rw [List.length_map,List.length_map]; exact Nat.le_trans (show _<=2001 by omega) (by decide)) ?_ ?_ ?_⟩
 ·intro x hx H2 _ R hR;obtain ⟨z,_,rfl⟩:=List.mem_map.mp hx;walk_at "rd";exact hR H2 (ah.refl H2)
 ·intro x hx _ H2 _ R hR;walk_at "rd";exact hR H2 (ah.refl H2)
 intro H2 s2 l2 cm;have ew:((((Tx.cut 47 t).map Tx.S).map V.str).filter (fun x=>match x with | .str z=>!decide (z=Tx.S []) | _=>false)).map id=PV (Tx.words 47 t):=by
  rw [List.map_id,List.filter_map];show ((((Tx.cut 47 t).map Tx.S)).filter _).map V.str=_
  congr 1
  rw [<- Tx.GD];refine List.filter_congr fun z _=>?_;show (!decide (z=Tx.S []))=decide (z≠Tx.S []);by_cases h:z=Tx.S [] <;> simp [h]
 rw [ew];have gJ:H l2=none:=(s1.trans s2).free cm;refine c8 (o:=.lst (PV (Tx.words 47 t))) cm fun H3 s3 b3=>?_;have jV:ah H H3:=(s1.trans s2).trans s3;have oC:(Tx.words 47 t).length<=2001:=Nat.le_trans (List.length_filter_le _ _) (by omega);refine aj ?_;walk_at "rd";refine ⟨⟨_,aC.of b3⟩,Ar (fun _=>true) (fun x=>match x with | .str z=>.bl (cz z.cps.toList) | _=>.bl false) (aC.of b3) (by rw [List.length_map,List.length_map]; exact Nat.le_trans oC (by decide)) ?_ ?_ ?_⟩
 ·intro x _ H4 _ R hR;exact hR H4 (ah.refl H4)
 ·intro x hx _ H4 _ R hR;obtain ⟨z,hz,rfl⟩:=List.mem_map.mp hx;obtain ⟨w',hw,rfl⟩:=List.mem_map.mp hz;walk_at "rd";obtain ⟨_,_,g3⟩:=o6 (List.all_eq_true.mp gD w' hw);refine ⟨w',rfl,by omega,fun H5 s5=>?_⟩;have:=hR H5 s5;simp only [Tx.jM] at this;exact this
 intro H4 s4 l4 xG;have eb:((PV (Tx.words 47 t)).filter (fun _=>true)).map (fun x=>match x with | .str z=>V.bl (cz z.cps.toList) | _=>V.bl false)=((Tx.words 47 t).map cz).map V.bl:=by
  rw [List.filter_eq_self.mpr (fun _ _=>rfl),List.map_map,List.map_map,List.map_map];refine List.map_congr_left fun w' _=>?_;show V.bl (cz (Tx.S w').cps.toList)=V.bl (cz w');rw [Tx.jM]
 rw [eb];refine ⟨_,aC.of ax,_,rfl,?_⟩;have ea:((Tx.words 47 t).map cz).all id=true:=by rw [List.all_map]; exact gD
 rw [ea];refine aY ?_;have s5:=ah.upd (o:=.lst (((Tx.words 47 t).map cz).map V.bl)) xG;generalize upd H4 l4 (.lst (((Tx.words 47 t).map cz).map V.bl))=H5 at s5 ⊢;have b5:H5 l2=some (.lst (PV (Tx.words 47 t))):=s5 _ _ (s4 _ _ b3);have jS:ah H H5:=(jV.trans s4).trans s5;refine fe (fun σ' H'=>σ'=[some (V.str (Tx.S t)),some (V.ref l2)]/\ah H H'/\H' l2=some (.lst (PV (told (Tx.words 47 t) t)))) ?_ ?_
 ·walk_at "rd";refine ⟨fits (by simp),fun p hp=>?_⟩;have s6:=ah.upd (o:=.lst []) hp;have c6:upd H5 p (.lst []) p=some (.lst ((([]:List Str)).map V.str)):=ax;generalize upd H5 p (.lst [])=H6 at s6 c6 ⊢;have b6:H6 l2=some (.lst (PV (Tx.words 47 t))):=s6 _ _ b5;refine ⟨(Tx.words 47 t).map Tx.S,[],b6,c6,?_⟩;by_cases qJ:Tx.words 47 t=[]
  ·rw [decide_eq_true (show (Tx.words 47 t).map Tx.S=[] by rw [qJ]; rfl)];refine aY (aY ⟨by trivial,jS.trans s6,?_⟩);unfold told;rw [if_neg (fun z=>z.1 qJ)];exact b6
  ·rw [decide_eq_false (show ¬ (Tx.words 47 t).map Tx.S=[] by simpa using qJ)];refine bT ?_;rw [Tx.ZF];by_cases yo:t.getLast?=some 47
   ·rw [decide_eq_true yo];refine bT ?_;simp only [b6];refine ⟨by rw [List.length_map,List.length_map]; exact Nat.lt_of_le_of_lt oC (by decide),by trivial,cO.same (jS.trans s6) gJ cO.upd,?_⟩;unfold told;rw [if_pos ⟨qJ,yo⟩,ax,show Str.ofString "." = Tx.S [46] from by decide +kernel];simp only [PV,List.map_append,List.map_cons,List.map_nil]
   ·rw [decide_eq_false yo];refine aY ⟨by trivial,jS.trans s6,?_⟩;unfold told;rw [if_neg (fun z=>yo z.2)];exact b6
 ·rintro σ' H6 ⟨rfl,s6,b6⟩;walk_at "rd";simp only [qN,Tx.Pn];refine ⟨fits (by simp),fun p hp=>?_⟩;exact q _ l2 p (s6.trans (ah.upd hp)) gJ (K5 b6 hp) ax
theorem Xl:T.tX.k P w mg base 1 (OZ T.aS):=by
 refine T.tX.F.ok Tf (fun _ _ _ _ h=>E7 h fun _ _ _ _ _ _ _ _=>rfl) fun _ A _ s H vs Q E hr h=>E7 h fun x n kd ow mi re tx h=>?_;obtain ⟨dx,hx,q⟩:=h;refine ⟨_,((al (bG T.dF T.WZ (ad 0) (ad 1))
 (al (bG T.dF T.Bn (ad 0) (ad 2))
 (al (bG T.dF T.y9 (ad 0) (ad 3))
 (al (bG T.dF T.CM (ad 0) (ad 4))
 (al (bG T.dF T.B1 (ad 0) (ad 5))
 (al (bG T.dF T.Ht (ad 0) (ad 6))
 (al (bG T.dF T.y6 (ad 0) nR)
 (ai (bG T.dF T.vq (ad 0) Ug)))))))))).h,?_⟩
 refine stI [some (.ref x),some n,some kd,some ow,some mi,some re,some tx] ?_;refine aj ?_;walk_at "rd";refine ⟨x,dx,_,rfl,hx,by decide,aj ?_⟩;walk_at "rd";refine ⟨x,dx,_,rfl,ax,by walk_at "f",aj ?_⟩;walk_at "rd";refine ⟨x,dx,_,rfl,ax,by walk_at "f",aj ?_⟩;walk_at "rd";refine ⟨x,dx,_,rfl,ax,by walk_at "f",aj ?_⟩;walk_at "rd";refine ⟨x,dx,_,rfl,ax,by walk_at "f",aj ?_⟩;walk_at "rd";refine ⟨x,dx,_,rfl,ax,by walk_at "f",aj ?_⟩;simp only [mw];walk_at "rd";intro l1 h1;have n1:l1≠x:=fun e=>by rw [e,ax] at h1; cases h1
 have h1':H l1=none:=by rw [ag n1] at h1; exact h1
 refine ⟨x,dx,_,rfl,by rw [ag (Ne.symm n1),ax],by walk_at "f",fun l2 h2=>?_⟩;have n2:l2≠x:=fun e=>by rw [e,ax] at h2; cases h2
 rw [ag n2] at h2;have n3:l2≠l1:=fun e=>by rw [e,ax] at h2; cases h2
 rw [ag n3,ag n2] at h2;refine ⟨x,dx,_,rfl,by rw [ag (Ne.symm n2),ax],by walk_at "f",?_⟩;refine q l1 l2 _ h1' h2 (Ne.symm n3) n1 n2 (fun b b1 b2 b3=>?_) ?_ ?_ _ ?_ (fun f=>?_) ax
 ·rw [ag b1,ag b3,ag b1,ag b2,ag b1]
 ·rw [ag n1,ag (Ne.symm n3),ag n1,ax]
 ·rw [ag n2,ax]
 ·exact Nat.le_trans (by (repeat (refine cf ?_)); exact Nat.zero_le _) (Nat.le_refl 40)
 ·rfl
theorem Vt:T.tJ.k P w mg base 1 (P9 T.aN):=by
 refine T.tJ.F.ok Xa (fun _ _ _ _ h=>eD h fun _ _=>rfl) fun _ A _ s H vs Q E hr h=>eD h fun x h=>?_;obtain ⟨dx,hx,q⟩:=h;refine ⟨_,((al (bG T.cB T.tS (ad 0) (ci ae))
 (ai (bG T.cB T.vD (ad 0) am)))).h,?_⟩
 refine stI [some (.ref x)] ?_;refine aj ?_;walk_at "rd";refine ⟨fits (by simp),fun l hl=>?_⟩;have n1:l≠x:=fun e=>by rw [e,hx] at hl; cases hl
 refine ⟨x,dx,_,rfl,by rw [ag (Ne.symm n1)]; exact hx,by decide,?_⟩;refine ⟨x,dx,_,rfl,ax,by walk_at "f",?_⟩;refine q l _ hl n1 (fun b b1 b2=>?_) ?_ _ ?_ (fun f=>?_) ax
 ·rw [ag b1,ag b1,ag b2]
 ·rw [ag n1,ag n1,ax]
 ·exact Nat.le_trans (cf (cf (Nat.zero_le _))) (show 0+1+1<=40 by decide)
 ·rfl
theorem WM:T.sr.k P w mg base 1 (SG T.aS):=by
 refine T.sr.F.ok OR (fun _ _ _ _ h=>dz h fun _ _ _=>rfl) fun _ A _ s H vs Q E hr h=>dz h fun x z h=>?_;obtain ⟨a,i,t,di,rfl,q⟩:=h;obtain ⟨fs,hx,aP,sf⟩:=di.o;refine ⟨_,((ai (aM (GU (aZ cP (ad 1) (bi T.dF T.y9 (ad 0))) (bi T.dF T.CM (ad 0)) (bi T.dF T.B1 (ad 0)))))).h,?_⟩;refine stI [some (V.ref a.th),some (V.str z)] ?_;left;refine (fI hx sf rfl ?_);dsimp only;unfold eG at q;by_cases e:z=t.ow
 ·rw [decide_eq_true e];rw [if_pos e] at q;exact bT (fI hx sf rfl q)
 ·rw [decide_eq_false e];rw [if_neg e] at q;exact aY (fI hx sf rfl q)
theorem AQ:T.kG.k P w mg base 3 (T6 T.aN T.aS):=by
 refine T.kG.F.ok Hj (fun _ _ _ _ h=>Jx h fun _ _ _ _ _ _ _=>rfl) fun _ A _ s H vs Q E hr h=>Jx h fun x kd ow mi re tx h=>?_;obtain ⟨dt,ml,rs,⟨⟨fs,c,hx,aP,sf⟩,iI⟩,eE,q⟩:=h;refine ⟨_,((al (kE T.cB T.vD kj (ad 0) am)
  (al (aR 6 Hj.nd (cF (kc (K:=K) rfl) T.jg PySem.boot_len (aa (bi T.cB T.tS (ad 0)) ae)))
  (al (aU (fo PySem.F.slot_list_append PySem.F.type_list_append js (bi T.cB T.tS (ad 0)) (aa (im T.Zs (Xl T) hr.m T.Xj T.tX.b .nil aq (aa (ad 6) (aa (ad 1) (aa (ad 2) (aa (ad 3) (aa (ad 4) (aa (ad 5) ae))))))) ae)))
  (ai (aM (ad 6))))))).h,?_⟩
 refine stI [some (.ref x),some kd,some ow,some mi,some re,some tx,none] ?_;have dY:ml≠x:=fun e=>by rw [e,hx] at iI; cases iI
 refine aj ?_;walk_at "rd";refine ⟨x,dt,fs,.int c,rfl,hx,(sf _).trans rfl,_,_,rfl,rfl,dt,fs,hx,by omega,aj ?_⟩;have cE:cZ (ay "changes" (.int (c+1)) fs) (uw ml (c+1)):=fun f=>by rw [(sf.put "changes" (.int (c+1))) f]; rfl
 have gK:(ay "changes" (.int (c+1)) fs).length<=41:=cf aP;have bx:upd H x (.ins T.aN dt (ay "changes" (.int (c+1)) fs)) x=some (.ins T.aN dt (ay "changes" (.int (c+1)) fs)):=ax;have lh:upd H x (.ins T.aN dt (ay "changes" (.int (c+1)) fs)) ml=some (.lst rs):=by rw [ag dY]; exact iI
 have je:Kp [x] H (upd H x (.ins T.aN dt (ay "changes" (.int (c+1)) fs))):=fun b o hb e=>by rw [ag (fun z=>hb (by simp [z]))]; exact e
 have qO:∀ b,b≠x->upd H x (.ins T.aN dt (ay "changes" (.int (c+1)) fs)) b=H b:=fun b hb=>ag hb;generalize upd H x (.ins T.aN dt (ay "changes" (.int (c+1)) fs))=H1 at bx lh je qO ⊢;walk_at "rd";refine ⟨x,dt,_,.ref ml,rfl,bx,(cE _).trans rfl,?_⟩;simp only [bI,lh];refine aj ?_;walk_at "rd";refine ⟨x,dt,_,.ref ml,rfl,bx,(cE _).trans rfl,?_⟩;simp only [lh];intro th dw aQ hdth qW;refine ⟨dw,ax,fun nm pl H2 bZ bj hnp hn1 gJ fr2 hnm2 hpl2 ks fm sk hth2=>⟨rfl,?_⟩⟩;have DL:∀ b o,H1 b=some o->upd (upd H1 dw (HO.own th)) th (HO.ins T.aS dw []) b=some o:=fun b o e=>by
  rw [ag (aK e aQ),ag (aK e hdth)]; exact e
 have D0:∀ b o,H1 b=some o->H2 b=some o:=fun b o e=>by
  rw [fr2 b (aK e aQ) (aK (DL b o e) bZ) (aK (DL b o e) bj)]; exact DL b o e
 have dn:∀ d,d≠th->upd (upd H1 dw (HO.own th)) th (HO.ins T.aS dw []) d=none->H1 d=none:=fun d n e=>by
  rw [ag n] at e;by_cases z:d=dw
  ·rw [z,ax] at e; cases e
  ·rw [ag z] at e; exact e
 have Mq:=dn nm hn1 bZ;have MN:=dn pl gJ bj;have EX:∀ d,H1 d=none->H d=none:=fun d e=>by rw [<- qO d (Ne.symm (aK bx e))]; exact e
 simp only [D0 _ _ lh];refine ⟨iR (by omega),?_⟩;refine q th dw nm pl ks _ (EX _ aQ) (EX _ Mq) (EX _ MN) ⟨⟨_,c+1,by rw [ag (Ne.symm dY)]; exact D0 _ _ bx,?_,cE⟩,ax⟩ (by rw [ag (Ne.symm (aK lh aQ))]; exact hth2) fm sk
  (by rw [ag (Ne.symm (aK lh Mq))]; exact hnm2) (by rw [ag (Ne.symm (aK lh MN))]; exact hpl2) (fun b o hb e=>?_)
 ·rw [fE (u:=.int c) ((sf _).trans rfl)]; exact aP
 ·simp only [List.mem_cons,List.not_mem_nil,or_false,not_or] at hb;rw [ag hb.2];exact D0 _ _ (je b o (by simp [hb.1]) e)
theorem G2:T.nQ.k P w mg base 4 (Tc T.aN T.aS):=by
 refine T.nQ.F.ok Xk (fun _ _ _ _ h=>wD h fun _ _ _ _ _=>rfl) fun _ A _ s H vs Q E hr h=>wD h fun x ow mi re h=>?_;obtain ⟨dt,ml,rs,at',eE,q⟩:=h;obtain ⟨fs,c,hx,aP,sf⟩:=at'.o;refine ⟨_,((ai (aM (bf T.cB T.kG.h (AQ T) hr.m T.kG.b .nil aq (ad 0) (aa (db (.str "folder") T.sv ⟨_,rfl⟩) (aa (ad 1) (aa (ad 2) (aa (ad 3) (aa ap ae))))))))).h,?_⟩;refine stI [some (.ref x),some ow,some mi,some re] ?_;left;exact ⟨x,dt,fs,rfl,hx,(sf _).trans rfl,dt,ml,rs,at',eE,q⟩
theorem jA:az P w K mg base (cM P w) 2 T.dN.f T.dN.d ["self","number"] (J9 T.aH T.aN T.aS T.qS):=by
 refine T.dN.F.dP NW (fun _ _ _ _ h=>vF h fun _ _ _=>rfl) fun _ A _ s H vs Q E hr h=>vF h fun x v h=>?_;obtain ⟨AA,L,M,i,rfl,yf,q1,q2⟩:=h;obtain ⟨fs,c,hx,aP,sf⟩:=i.t;refine ⟨_,((al (aW (eA (gl (c9 (cK (bn (HS T) hr.m T.ky.m T.ky.F.kp T.ky.b .nil aq (aa (ad 1) ae)))) (jo (c9 (Ac qb JF am (ad 1) (cF (kc (K:=K) rfl) T.jg PySem.boot_len (aa (bi T.cB T.tS (ad 0)) ae))))))) (ai (za Ak rfl T.Ph T.Wk (aa ap ae))) ce)
 (ai (aM (bv (bC (K:=K) rfl) (bi T.cB T.tS (ad 0)) (ad 1)))))).h,?_⟩
 refine stI [some (.ref AA.t),some v] ?_;refine aj ?_;left;refine ⟨yf,?_⟩;cases v with
 | int n =>
  simp only [Kn,Bool.not_true,Bool.false_eq_true,if_false];refine kx (fun h0=>?_) (fun h0=>bT ⟨fits (by simp),q2 fun j e=>?_⟩)
  ·have h0':0<=n:=of_decide_eq_true h0;refine ⟨AA.t,_,_,.ref AA.ml,rfl,hx,(sf _).trans rfl,?_⟩;simp only [bI,i.ml,List.length_map,i.len];obtain ⟨k,rfl⟩:=Int.eq_ofNat_of_zero_le h0';by_cases hk:k < M.ts.length
   ·rw [decide_eq_true (show (k:Int) < (M.ts.length:Int) by omega)];refine aY ⟨AA.t,_,_,.ref AA.ml,rfl,hx,(sf _).trans rfl,?_⟩;simp only [bI,i.ml];have Nq:k < L.length:=by rw [i.len]; exact hk
    rw [iX (xs:=L.map fun a=>V.ref a.th) (j:=k) (by rw [List.getElem?_map,List.getElem?_eq_getElem Nq]; rfl)];exact q1 k _ _ rfl (List.getElem?_eq_getElem Nq) (List.getElem?_eq_getElem hk)
   ·rw [decide_eq_false (show ¬ (k:Int) < (M.ts.length:Int) by omega)];refine bT ⟨fits (by simp),q2 fun j e=>?_⟩;injection e with e;have:k=j:=by omega
    rw [<- this]; exact hk
  ·injection e with e;exact absurd (decide_eq_true (show (0:Int)<=n by omega)) h0
 | _=>exact ⟨fits (by simp),q2 fun k e=>by cases e⟩
section
variable {T:Tx K mg} {H:Hp} {A:Ad} {L:List Ta} {M:Hs}
theorem kH {k:Nat} {a:Ta} {t:Th} {Q:VK} {E:XK} (i:aG T.aH T.aN T.aS H A L M) (ha:L[k]?=some a) (ht:M.ts[k]?=some t) (q:Q (.ref a.th) H):J9 T.aH T.aN T.aS T.qS [.ref A.t,.int (k:Int)] H Q E :=
 ⟨A,L,M,i,rfl,⟨_,rfl⟩,fun j a' t' e h1 h2=>by
  injection e with e;have:k=j:=by omega
  subst this;rw [ha] at h1; cases h1;exact q,fun h=>absurd (List.getElem?_eq_some_iff.mp ht).1 (h k rfl)⟩
theorem fX (i:aG T.aH T.aN T.aS H A L M) (ha:L[k]?=some a) (ht:M.ts[k]?=some t):nF T.aS H a k t:=by
 obtain ⟨a',e,h⟩:=i.th k t ht;rw [ha] at e; cases e;exact h
end
theorem Kb:T.nE.k P w mg base 3 (Pu T.aH T.aN T.aS Ad.t):=by
 refine T.nE.F.ok Wj (fun _ _ _ _ h=>pI h fun _ _ _ _=>rfl) fun _ A _ s H vs Q E hr h=>pI h fun x n z h=>?_;obtain ⟨AA,L,M,k,a,t,i,rfl,rfl,ha,aQ,q⟩:=h;obtain ⟨fs,c,hx,aP,sf⟩:=i.h;obtain ⟨gs,c2,ht,en,sg⟩:=i.t;have di:=fX i ha aQ;obtain ⟨ks,ho,j3,so⟩:=di.o;refine ⟨_,((ai (aM (Hm (fg hr) (bi T.dF T.y6 (ef T.cB T.dN.h (jA T) hr.m T.dN.b .nil fW (ad 0) (aa (ad 1) ae))) (ad 2))))).h,?_⟩;refine stI [some (V.ref AA.t),some (V.int (k:Int)),some (V.str z)] ?_;left;refine (mI ht sg (kH i ha aQ ⟨a.th,_,_,.ref a.nm,rfl,ho,(so _).trans rfl,a.nm,rfl,.inl ⟨_,.inl di.nm⟩,_,dG.k (k:=.inr z) di.nm,q⟩))
theorem Xz:T.ue.k P w mg base 3 (n6 T.aH T.aN T.aS Ad.t Gq):=by
 refine T.ue.F.ok Sk (fun _ _ _ _ h=>cv h fun _ _ _=>rfl) fun _ A _ s H vs Q E hr h=>cv h fun x n h=>?_;obtain ⟨AA,L,M,k,a,t,i,rfl,rfl,ha,aQ,q⟩:=h;obtain ⟨fs,c,hx,aP,sf⟩:=i.h;obtain ⟨gs,c2,ht,en,sg⟩:=i.t;have di:=fX i ha aQ;obtain ⟨ks,ho,j3,so⟩:=di.o;refine ⟨_,((ai (aM (Dv.minD rfl T.CI (bi T.dF T.vq (ef T.cB T.dN.h (jA T) hr.m T.dN.b .nil fW (ad 0) (aa (ad 1) ae))))))).h,?_⟩;refine stI [some (V.ref AA.t),some (V.int (k:Int))] ?_;left;refine (mI ht sg (kH i ha aQ ⟨a.th,_,_,.ref a.pl,rfl,ho,(so _).trans rfl,a.pl,_,rfl,di.pl,?_⟩));rcases q with ⟨e,q⟩ | ⟨f,z,e,q⟩
 ·rw [e]; exact .inl ⟨rfl,q⟩
 ·rw [e]; exact .inr ⟨_,_,rfl,q⟩
theorem qo:T.f7.k P w mg base 3 (n6 T.aH T.aN T.aS Ad.a ka):=by
 refine T.f7.F.ok XZ (fun _ _ _ _ h=>cv h fun _ _ _=>rfl) fun _ A _ s H vs Q E hr h=>cv h fun x n h=>?_;obtain ⟨AA,L,M,k,a,t,i,rfl,rfl,ha,aQ,q⟩:=h;obtain ⟨fs,c,hx,aP,sf⟩:=i.h;obtain ⟨gs,c2,ht,en,sg⟩:=i.t;have di:=fX i ha aQ;obtain ⟨ks,ho,j3,so⟩:=di.o;refine ⟨_,((ai (aM (bi T.dF T.Bn (ef T.cB T.dN.h (jA T) hr.m T.dN.b .nil fW (bi T.aI T.gx (ad 0)) (aa (ad 1) ae)))))).h,?_⟩;refine stI [some (V.ref AA.a),some (V.int (k:Int))] ?_;left;exact ⟨AA.a,_,_,.ref AA.t,rfl,hx,(sf _).trans rfl,AA.t,_,_,rfl,ht,(sg _).trans rfl,kH i ha aQ (fI ho so rfl q)⟩
theorem pJ:T.gj.k P w mg base 4 (n6 T.aH T.aN T.aS Ad.a Gq):=by
 refine T.gj.F.ok Um (fun _ _ _ _ h=>cv h fun _ _ _=>rfl) fun _ A _ s H vs Q E hr h=>cv h fun x n h=>?_;obtain ⟨AA,L,M,k,a,t,i,rfl,rfl,ha,aQ,q⟩:=h;obtain ⟨fs,c,hx,aP,sf⟩:=i.h;obtain ⟨gs,c2,ht,en,sg⟩:=i.t;have di:=fX i ha aQ;obtain ⟨ks,ho,j3,so⟩:=di.o;refine ⟨_,((ai (aM (bf T.cB T.ue.h (Xz T) hr.m T.ue.b .nil aq (bi T.aI T.gx (ad 0)) (aa (ad 1) ae))))).h,?_⟩;refine stI [some (V.ref AA.a),some (V.int (k:Int))] ?_;left;exact ⟨AA.a,_,_,.ref AA.t,rfl,hx,(sf _).trans rfl,AA.t,_,_,rfl,ht,(sg _).trans rfl,AA,L,M,k,a,t,i,rfl,rfl,ha,aQ,q⟩
theorem QL:T.tQ.k P w mg base 3 (n6 T.aH T.aN T.aS Ad.a Up):=by
 refine T.tQ.F.ok Uy (fun _ _ _ _ h=>cv h fun _ _ _=>rfl) fun _ A _ s H vs Q E hr h=>cv h fun x n h=>?_;obtain ⟨AA,L,M,k,a,t,i,rfl,rfl,ha,aQ,q⟩:=h;obtain ⟨fs,c,hx,aP,sf⟩:=i.h;obtain ⟨gs,c2,ht,en,sg⟩:=i.t;have di:=fX i ha aQ;obtain ⟨ks,ho,j3,so⟩:=di.o;refine ⟨_,((ai (aU (ef T.cB T.dN.h (jA T) hr.m T.dN.b .nil fW (bi T.aI T.gx (ad 0)) (aa (ad 1) ae))))).h,?_⟩;refine stI [some (V.ref AA.a),some (V.int (k:Int))] ?_;left;exact ⟨AA.a,_,_,.ref AA.t,rfl,hx,(sf _).trans rfl,AA.t,_,_,rfl,ht,(sg _).trans rfl,kH i ha aQ q⟩
section
variable {CH CS CT:Addr} {H:Hp} {A:Ad} {L:List Ta} {M:Hs}
theorem aG.nq (i:aG CH CS CT H A L M) {k:Nat} {a:Ta} (ha:L[k]?=some a):∀ b∈A.w,∀ c∈a.l,b≠c:=fun b hb c hc=>by
 have nd:=i.nd;rw [List.nodup_append] at nd;exact nd.2.2 b hb c (jN ha hc)
theorem aG.aT (i:aG CH CS CT H A L M):A.a≠A.t:=by
 have nd:=i.nd;rw [List.nodup_append] at nd;have:=(List.nodup_cons.mp nd.1).1;exact fun e=>this (by rw [e]; simp)
theorem Im:∀ {L:List Ta} {k:Nat} {a:Ta},(L.flatMap Ta.l).Nodup->L[k]?=some a->a.l.Nodup
 | c::r,0,a,nd,h=>by
  rw [List.flatMap_cons,List.nodup_append] at nd;simp only [List.getElem?_cons_zero,Option.some.injEq] at h;subst h; exact nd.1
 | c::r,k+1,a,nd,h=>by
  rw [List.flatMap_cons,List.nodup_append] at nd;simp only [List.getElem?_cons_succ] at h;exact Im nd.2.1 h
theorem aG.own (i:aG CH CS CT H A L M) {k:Nat} {a:Ta} (ha:L[k]?=some a):a.th≠a.nm/\a.th≠a.pl/\a.nm≠a.pl:=by
 have nd:=i.nd;rw [List.nodup_append] at nd;have:=Im nd.2.1 ha;simp only [Ta.l,List.nodup_cons,List.mem_cons,List.not_mem_nil,or_false,not_or,not_false_eq_true,List.nodup_nil,and_true] at this;exact ⟨this.1.1,this.1.2,this.2⟩
end
def Yv (CH CS CT:Addr):Sp:=vM fun x n z H Q _=>X6 fun A L M (k:Nat) a t=>A7 (aG CH CS CT H A L M) (A.t=x) (n=(k:Int)) (L[k]?=some a) (M.ts[k]?=some t) (aF (sD t.bb) (.inr z)=none) (Q .au H)
theorem RC:T.uu.k P w mg base 4 (Yv T.aH T.aN T.aS):=by
 refine T.uu.F.ok Fj (fun _ _ _ _ h=>pI h fun _ _ _ _=>rfl) fun _ A _ s H vs Q E hr h=>pI h fun x n z h=>?_;obtain ⟨AA,L,M,k,a,t,i,rfl,rfl,ha,aQ,hv,q⟩:=h;obtain ⟨gs,c2,ht,en,sg⟩:=i.t;refine ⟨_,((al (aR 3 Fj.nd (bf T.cB T.nE.h (Kb T) hr.m T.nE.b .nil aq (ad 0) (aa (ad 1) (aa (ad 2) ae))))
 (ai (aW (aZ nB (ad 3) au) (al fz
 (al fz
 (ai fz))) ce)))).h,?_⟩
 refine stI [some (V.ref AA.t),some (V.int (k:Int)),some (V.str z),none] ?_;refine aj ?_;left;refine (mI ht sg ⟨AA,L,M,k,a,t,i,rfl,rfl,ha,aQ,?_⟩);rw [hv];refine ⟨by trivial,?_⟩;exact aY q
def Tb (CH CS CT:Addr):Sp:=FE fun x fn z kn H Q _=>X9 fun A L M (f:Nat) (k:Nat) af tf ak tk=>C0 (aG CH CS CT H A L M) (A.t=x) (fn=(f:Int)) (kn=(k:Int)) (L[f]?=some af) (M.ts[f]?=some tf) (L[k]?=some ak) (M.ts[k]?=some tk) (f≠k) (aF (sD tf.bb) (.inr z)=none) (tf.bb.length<=500) (tk.cC=[]) (∀ H',aG CH CS CT H' A L { M with ts:=(M.ts.set f { tf with bb:=tf.bb++[(z,k)] }).set k { tk with cC:=[(f,z)] } }->Kp [A.t,af.nm,ak.pl] H H'->Q .au H')
theorem Bx {l:List (Str×Nat)} {z:Str} {k:Nat} (h:aF (sD l) (.inr z)=none):putK (sD l) (.inr z) (.int (k:Int))=sD (l++[(z,k)]):=by
 have e:((sD l).any fun kv=>decide (kv.1=(Sum.inr z:Key)))=false:=by rw [qh,h]; rfl
 unfold putK;rw [e];simp [sD]
theorem Q9:T.rK.k P w mg base 5 (Tb T.aH T.aN T.aS):=by
 refine T.rK.F.ok wx (fun _ _ _ _ h=>Hn h fun _ _ _ _ _=>rfl) fun _ A _ s H vs Q E hr h=>Hn h fun x fn z kn h=>?_;obtain ⟨AA,L,M,f,k,af,tf,ak,tk,i,rfl,rfl,rfl,gO,bK,iE,eC,hfk,hv,ik,bj,q⟩:=h;obtain ⟨fs,c,hx,aP,sf⟩:=i.h;obtain ⟨gs,c2,ht,en,sg⟩:=i.t;have MM:=fX i iE eC;obtain ⟨ks,ho,j3,so⟩:=MM.o;refine ⟨_,((al (aR 4 wx.nd (ef T.cB T.dN.h (jA T) hr.m T.dN.b .nil fW (ad 0) (aa (ad 3) ae)))
 (al (kE T.cB T.vD kj (ad 0) am)
 (al (aU (bf T.cB T.uu.h (RC T) hr.m T.uu.b .nil aq (ad 0) (aa (ad 1) (aa (ad 2) ae))))
 (al (aW (aZ lK (bi T.dF T.Bn (ad 4)) (db (.str "file") T.Dp ⟨_,rfl⟩)) (ai (oQ PassesOwn.never rfl (iS (K:=K) rfl (l6 (O7 rfl) T.m4 vN (aa (bi T.dF T.vq (ad 4)) ae))) (wo (K:=K) (n:=2) rfl rfl (lL (et 5 wx.nd) (lL (et 6 wx.nd) xo))) (ai fz))) ce)
 (al (uk (fg hr) (bi T.dF T.y6 (ef T.cB T.dN.h (jA T) hr.m T.dN.b .nil fW (ad 0) (aa (ad 1) ae))) (ad 2) (ad 3))
 (ai (uk (fg hr) (bi T.dF T.vq (ad 4)) (dl (aa (ad 1) (aa (ad 2) ae))) dL)))))))).h,?_⟩
 refine stI [some (V.ref AA.t),some (V.int (f:Int)),some (V.str z),some (V.int (k:Int)),none,none,none] ?_;refine aj ?_;left;refine (mI ht sg (kH i iE eC ?_));refine aj ?_;left;refine ⟨AA.t,_,_,.int c2,rfl,ht,(sg _).trans rfl,_,_,rfl,rfl,_,_,ht,by omega,aj ?_⟩;have tn:∀ b∈ak.l,AA.t≠b:=i.nq iE _ (by simp [Ad.w]);have i1:aG T.aH T.aN T.aS (upd H AA.t (.ins T.aN AA.dt (ay "changes" (.int (c2+1)) gs))) AA L M:=by
  have w:=i.write (H':=upd H AA.t (.ins T.aN AA.dt (ay "changes" (.int (c2+1)) gs))) (t':=tk) iE ⟨fs,c,by rw [ag i.aT]; exact hx,aP,sf⟩ ⟨_,c2+1,ax,by rw [fE (u:=.int c2) ((sg _).trans rfl)]; exact en,fun f=>by rw [(sg.put "changes" (.int (c2+1))) f]; rfl⟩
   (MM.keep (W:=[AA.t]) (fun b o hb e=>by rw [ag (fun z=>hb (by simp [z]))]; exact e) fun b hb=>by simp [Ne.symm (tn b hb)]) (fun b o hb e=>by simp only [List.mem_cons,List.not_mem_nil,or_false,not_or] at hb; rw [ag hb.2.1]; exact e)
  have e:M.ts.set k tk=M.ts:=by
   apply List.ext_getElem?;intro j;by_cases hj:k=j
   ·subst hj; rw [List.getElem?_set_self (List.getElem?_eq_some_iff.mp eC).1,eC]
   ·rw [List.getElem?_set_ne hj]
  rw [e] at w;exact w
 have je:Kp [AA.t] H (upd H AA.t (.ins T.aN AA.dt (ay "changes" (.int (c2+1)) gs))):=fun b o hb e=>by rw [ag (fun z=>hb (by simp [z]))]; exact e
 generalize upd H AA.t (.ins T.aN AA.dt (ay "changes" (.int (c2+1)) gs))=H1 at i1 je ⊢;obtain ⟨gs1,c3,lB,Mi,DK⟩:=i1.t;have Nr:=fX i1 iE eC;have ithf1:=fX i1 gO bK;obtain ⟨ks1,Ng,hol1,Mf⟩:=Nr.o;obtain ⟨gm,hf1,gK,cE⟩:=ithf1.o;left;refine (mI lB DK ⟨AA,L,M,f,af,tf,i1,rfl,rfl,gO,bK,hv,?_⟩);refine fe (fun σ' H'=>ah H1 H'/\∃ t5 t6,σ'=[some (V.ref AA.t),some (V.int (f:Int)),some (V.str z),some (V.int (k:Int)),some (.ref ak.th),t5,t6]) ?_ ?_
 ·left;refine (fI Ng Mf rfl ?_);refine kx (fun _=>?_) (fun _=>⟨ah.refl _,_,_,rfl⟩);refine (fI Ng Mf rfl ?_);have xS:H1 ak.pl=some (.dT []):=by have:=Nr.pl; rw [bj] at this; exact this
  refine ⟨ak.pl,_,rfl,xS,?_⟩;intro l ks hk _ hl;have u7:ks=[]:=List.length_eq_zero_iff.mp hk;subst u7;refine ⟨⟨_,aC.of ax⟩,rA (xs:=[]) (fun _ σ' H'=>H'=upd H1 l (.lst [])/\σ'=[some (V.ref AA.t),some (V.int (f:Int)),some (V.str z),some (V.int (k:Int)),some (.ref ak.th),none,none]) ⟨rfl,rfl⟩ (fun _ σ' H' _ h=>by rw [h.1]; exact aC.of ax) (fun j x σ' H' hx _=>by simp at hx) (fun σ' H' h=>?_)⟩;obtain ⟨rfl,rfl⟩:=h;exact ⟨ah.upd hl,_,_,rfl⟩
 ·rintro σ' H2 ⟨s2,t5,t6,rfl⟩;have i2:=i1.same s2;obtain ⟨gs2,c4,ij,hgl2,MS⟩:=i2.t;obtain ⟨ye,d2,b7,hxl2,sx2⟩:=i2.h;have Dw:=fX i2 gO bK;obtain ⟨ia,Nt,gI,cb⟩:=Dw.o;have Mg:=i2.own gO;have Mh:=i2.own iE;have Nu:=i2.nq gO;have Ny:=i2.nq iE;refine aj ?_;left;refine (mI ij MS (kH i2 gO bK ⟨af.th,_,_,.ref af.nm,rfl,Nt,(cb _).trans rfl,af.nm,_,rfl,iW.k (k:=.inr z) Dw.nm (iR (by unfold sD; rw [List.length_map]; omega)),?_⟩));rw [Bx hv];have i3:aG T.aH T.aN T.aS (upd H2 af.nm (.dK (sD (tf.bb++[(z,k)])))) AA L { M with ts:=M.ts.set f { tf with bb:=tf.bb++[(z,k)] } }:=by
   refine i2.write gO ⟨ye,d2,by rw [ag (Nu _ (by simp [Ad.w]) _ (by simp [Ta.l]))]; exact b7,hxl2,sx2⟩ ⟨gs2,c4,by rw [ag (Nu _ (by simp [Ad.w]) _ (by simp [Ta.l]))]; exact ij,hgl2,MS⟩ ⟨⟨ia,by rw [ag Mg.1]; exact Nt,gI,cb⟩,ax,by rw [ag (Ne.symm Mg.2.2)]; exact Dw.pl⟩ (fun b o hb e=>?_);simp only [List.mem_cons,List.not_mem_nil,or_false,not_or] at hb;rw [ag hb.2.2.2.1]; exact e
  have Mj:Kp [AA.t,af.nm] H (upd H2 af.nm (.dK (sD (tf.bb++[(z,k)])))):=fun b o hb e=>by
   simp only [List.mem_cons,List.not_mem_nil,or_false,not_or] at hb;rw [ag hb.2];exact s2 _ _ (je b o (by simp [hb.1]) e)
  generalize upd H2 af.nm (.dK (sD (tf.bb++[(z,k)])))=H3 at i3 Mj ⊢;have Mz:(M.ts.set f { tf with bb:=tf.bb++[(z,k)] })[k]?=some tk:=by rw [List.getElem?_set_ne hfk]; exact eC
  have ithk3:=fX i3 iE Mz;obtain ⟨ks3,ho3,hol3,so3⟩:=ithk3.o;left;refine ⟨ak.th,_,_,.ref ak.pl,rfl,ho3,(so3 _).trans rfl,fits (by simp),fun p hp=>?_⟩;refine c8 (o:=.tup [V.int (f:Int),V.str z]) hp fun H4 s4 b4=>?_;have i4:=i3.same s4;have EO:=fX i4 iE Mz;obtain ⟨ks4,ho4,hol4,so4⟩:=EO.o;obtain ⟨gs4,c5,ht4,hgl4,sg4⟩:=i4.t;obtain ⟨hs4,d4,i8,hxl4,sx4⟩:=i4.h;have hpl4:H4 ak.pl=some (.dT []):=by have:=EO.pl; rw [bj] at this; exact this
  refine ⟨ak.pl,_,rfl,iW.t (k:=[.inl (f:Int),.inr z]) hpl4 b4 (by decide),?_⟩;refine q _ (i4.write iE ⟨hs4,d4,by rw [ag (Ny _ (by simp [Ad.w]) _ (by simp [Ta.l]))]; exact i8,hxl4,sx4⟩ ⟨gs4,c5,by rw [ag (Ny _ (by simp [Ad.w]) _ (by simp [Ta.l]))]; exact ht4,hgl4,sg4⟩ ⟨⟨ks4,by rw [ag Mh.2.1]; exact ho4,hol4,so4⟩,by rw [ag Mh.2.2]; exact EO.nm,ax⟩ (fun b o hb e=>?_)) (fun b o hb e=>?_)
  ·simp only [List.mem_cons,List.not_mem_nil,or_false,not_or] at hb;rw [ag hb.2.2.2.2]; exact e
  ·simp only [List.mem_cons,List.not_mem_nil,or_false,not_or] at hb;rw [ag hb.2.2];exact s4 _ _ (Mj b o (by simp [hb.1,hb.2.1]) e)
def IH (CH:Addr) (fld:Str):Sp:=kY fun x z n H Q _=>X5 fun dx fs c d kvs=>A7 (H x=some (.ins CH dx fs)) (fs.length<=40) (fs.lookup ("changes" : Str)=some (.int c)) (fs.lookup fld=some (.ref d)) (H d=some (.dK kvs)) (kvs.length<=40) (Q .au (upd (upd H x (.ins CH dx (ay "changes" (.int (c+1)) fs))) d (.dK (putK kvs (.inr z) (.int n)))))
def SH (CH:Addr):Sp:=gY fun x z H Q _=>X7 fun dx fs c ro st kr ks=>Lr (H x=some (.ins CH dx fs)) (fs.length<=40) (fs.lookup ("changes" : Str)=some (.int c)) (fs.lookup ("roots" : Str)=some (.ref ro)) (fs.lookup ("standings" : Str)=some (.ref st)) (fs.lookup ("first_root" : Str)=some (.int 0)) (fs.lookup ("put_root" : Str)=none) (fs.lookup ("put_standing" : Str)=none) (H ro=some (.dK kr)) (kr.length<=40) (H st=some (.dK ks)) (ks.length<=40) (ro≠st) (∀ fs' c' H',H' x=some (.ins CH dx fs')->fs'.length<=40->cZ fs' (ay "changes" (.int c') fs)->H' ro=some (.dK (putK kr (.inr z) (.int 0)))->H' st=some (.dK (putK ks (.inr z) (.int 0)))->(∀ b,b≠x->b≠ro->b≠st->H' b=H b)->Q .au H')
theorem G4:T.kD.k P w mg base 1 (IH T.aH "roots"):=by
 refine T.kD.F.ok N1 (fun _ _ _ _ h=>fA h fun _ _ _ _=>rfl) fun _ A _ s H vs Q E hr h=>fA h fun x z n h=>?_;obtain ⟨dx,fs,c,d,kvs,hx,aP,hc,hd,hD,fm,q⟩:=h;refine ⟨_,((al (kE T.aI T.v9 kj (ad 0) am)
 (ai (uk (fg hr) (bi T.aI T.sE (ad 0)) (ad 1) (ad 2))))).h,?_⟩
 refine stI [some (V.ref x),some (V.str z),some (V.int n)] ?_;have dY:d≠x:=fun e=>by rw [e,hx] at hD; cases hD
 refine aj ?_;left;refine ⟨x,dx,fs,.int c,rfl,hx,hc,_,_,rfl,rfl,dx,fs,hx,by omega,?_⟩;left;refine ⟨x,dx,_,.ref d,rfl,ax,by rw [eB,if_neg (by decide)]; exact hd,d,_,rfl,iW.k (k:=.inr z) (by rw [ag dY]; exact hD) (iR (by omega)),q⟩
theorem J1:T.iQ.k P w mg base 1 (IH T.aH "standings"):=by
 refine T.iQ.F.ok UL (fun _ _ _ _ h=>fA h fun _ _ _ _=>rfl) fun _ A _ s H vs Q E hr h=>fA h fun x z n h=>?_;obtain ⟨dx,fs,c,d,kvs,hx,aP,hc,hd,hD,fm,q⟩:=h;refine ⟨_,((al (kE T.aI T.v9 kj (ad 0) am)
 (ai (uk (fg hr) (bi T.aI T.CJ (ad 0)) (ad 1) (ad 2))))).h,?_⟩
 refine stI [some (V.ref x),some (V.str z),some (V.int n)] ?_;have dY:d≠x:=fun e=>by rw [e,hx] at hD; cases hD
 refine aj ?_;left;refine ⟨x,dx,fs,.int c,rfl,hx,hc,_,_,rfl,rfl,dx,fs,hx,by omega,?_⟩;left;refine ⟨x,dx,_,.ref d,rfl,ax,by rw [eB,if_neg (by decide)]; exact hd,d,_,rfl,iW.k (k:=.inr z) (by rw [ag dY]; exact hD) (iR (by omega)),q⟩
theorem GL:T.nT.k P w mg base 2 (SH T.aH):=by
 refine T.nT.F.ok R6 (fun _ _ _ _ h=>dz h fun _ _ _=>rfl) fun _ A _ s H vs Q E hr h=>dz h fun x z h=>?_;obtain ⟨dx,fs,c,ro,st,kr,ks,hx,aP,hc,qP,aO,lE,ot,cJ,DJ,oE,DT,u7,Mr,q⟩:=h;refine ⟨_,((al (aU (bf T.aI T.kD.h (G4 T) hr.m T.kD.b .nil aq (ad 0) (aa (ad 1) (aa (bi T.aI T.CZ (ad 0)) ae))))
 (ai (aU (bf T.aI T.iQ.h (J1 T) hr.m T.iQ.b .nil aq (ad 0) (aa (ad 1) (aa (bi T.aI T.CZ (ad 0)) ae))))))).h,?_⟩
 refine stI [some (V.ref x),some (V.str z)] ?_;have n1:ro≠x:=fun e=>by rw [e,hx] at DJ; cases DJ
 have n2:st≠x:=fun e=>by rw [e,hx] at DT; cases DT
 refine aj ?_;left;refine ⟨x,dx,fs,rfl,hx,ot,x,dx,fs,.int 0,rfl,hx,lE,?_⟩;refine ⟨dx,fs,c,ro,kr,hx,by omega,hc,qP,DJ,oE,?_⟩;have bx:upd (upd H x (.ins T.aH dx (ay "changes" (.int (c+1)) fs))) ro (.dK (putK kr (.inr z) (.int 0))) x=some (.ins T.aH dx (ay "changes" (.int (c+1)) fs)):=by rw [ag (Ne.symm n1),ax]
 have eF:upd (upd H x (.ins T.aH dx (ay "changes" (.int (c+1)) fs))) ro (.dK (putK kr (.inr z) (.int 0))) ro=some (.dK (putK kr (.inr z) (.int 0))):=ax;have M9:upd (upd H x (.ins T.aH dx (ay "changes" (.int (c+1)) fs))) ro (.dK (putK kr (.inr z) (.int 0))) st=some (.dK ks):=by rw [ag (Ne.symm Mr),ag n2]; exact DT
 have qO:∀ b,b≠x->b≠ro->upd (upd H x (.ins T.aH dx (ay "changes" (.int (c+1)) fs))) ro (.dK (putK kr (.inr z) (.int 0))) b=H b:=fun b b1 b2=>by rw [ag b2,ag b1]
 generalize upd (upd H x (.ins T.aH dx (ay "changes" (.int (c+1)) fs))) ro (.dK (putK kr (.inr z) (.int 0)))=H1 at bx eF M9 qO ⊢;have lk:∀ f:Str,f ≠ "changes" -> (ay "changes" (.int (c+1)) fs).lookup f=fs.lookup f:=fun f hf=>by rw [eB,if_neg hf]
 left;refine ⟨x,dx,_,rfl,bx,(lk _ (by decide)).trans cJ,x,dx,_,.int 0,rfl,bx,(lk _ (by decide)).trans lE,?_⟩;refine ⟨dx,_,c+1,st,ks,bx,by rw [fE hc]; exact aP,by rw [eB,if_pos rfl],(lk _ (by decide)).trans aO,M9,u7,?_⟩;refine q _ (c+1+1) _ (by rw [ag (Ne.symm n2),ax]) (by rw [fE (u:=.int (c+1)) (by rw [eB,if_pos rfl]),fE hc]; exact aP) (fun f=>?_) (by rw [ag Mr,ag n1]; exact eF) ax (fun b b1 b2 b3=>by rw [ag b3,ag b1]; exact qO b b1 b2);rw [eB,eB,eB];by_cases e:f = "changes"
 ·rw [if_pos e,if_pos e]
 ·rw [if_neg e,if_neg e,if_neg e]
def US (CH CS CT:Addr):Sp:=lI fun x m own H Q _=>A2 (m = "main") (X7 fun dx fs c t dt ml tr=>A9 (H x=some (.ins CH dx fs)) (fs.length<=40) (fs.lookup ("things" : Str)=some (.ref t)) (fs.lookup ("changes" : Str)=some (.int c)) (fs.lookup ("tree_roots" : Str)=some (.ref tr)) (fs.lookup ("add_folder" : Str)=none) (kX CS H t dt ml []) (H tr=some (.dK [])) (∀ th dw nm pl fs' ks c' H',H th=none->H nm=none->H pl=none->H' x=some (.ins CH dx fs')->fs'.length<=fs.length->cZ fs' (ay "changes" (.int c') fs)->kX CS H' t dt ml [.ref th]->H' th=some (.ins CT dw ks)->ks.length<=40 ->
    cZ ks (rW (.int 0) (.str "folder") (.str own) (.str "lgw") (.str "lg") (.str "") (.ref nm) (.ref pl))->H' nm=some (.dK [])->H' pl=some (.dT [])->H' tr=some (.dK [(.inr "main",.int 0)])->Kp [x,t,ml,tr] H H'->Q (.int 0) H'))
theorem ZQ:T.uo.k P w mg base 5 (US T.aH T.aN T.aS):=by
 refine T.uo.F.ok Lk (fun _ _ _ _ h=>gy h fun _ _ _ _=>rfl) fun _ A _ s H vs Q E hr h=>gy h fun x m own h=>?_;obtain ⟨rfl,dx,fs,c,t,dt,ml,tr,hx,aP,aQ,hc,cR,gO,DC,jQ,q⟩:=h;obtain ⟨gs,d,ht,en,sg⟩:=DC.o;have iI:=DC.ml;refine ⟨_,((al (aR 3 Lk.nd (bf T.cB T.nQ.h (G2 T) hr.m T.nQ.b .nil aq (bi T.aI T.gx (ad 0)) (aa (ad 2) (aa ap (aa ap ae)))))
 (al (kE T.aI T.v9 kj (ad 0) am)
 (al (uk (fg hr) (bi T.aI T.rG (ad 0)) (ad 1) (ad 3))
 (ai (aM (ad 3))))))).h,?_⟩
 refine stI [some (V.ref x),some (V.str "main"),some (V.str own),none] ?_;have n1:t≠x\/True:=.inr trivial;refine aj ?_;left;refine ⟨x,dx,fs,.ref t,rfl,hx,aQ,t,dt,gs,rfl,ht,(sg _).trans rfl,?_⟩;refine ⟨dt,ml,[],DC,by simp,?_⟩;intro th dw nm pl ks H1 fth fnm fpl at1 hth1 hkl1 sk1 hnm1 xS je;obtain ⟨gs',d',lB,Mi,DK⟩:=at1.o;have lh:=at1.ml;have vh:x≠t:=fun e=>by
  rw [e,ht] at hx;injection hx with hx;injection hx with _ _ mH;rw [<- mH] at aQ;have:=(sg "things").symm.trans aQ;cases this
 have Np:x≠ml:=fun e=>by rw [e,iI] at hx; cases hx
 have Mo:tr≠t:=fun e=>by rw [e,ht] at jQ; cases jQ
 have LJ:tr≠ml:=fun e=>by rw [e,iI] at jQ; cases jQ
 have M7:tr≠x:=fun e=>by rw [e,hx] at jQ; cases jQ
 have bx:H1 x=some (.ins T.aH dx fs):=je _ _ (by simp [vh,Np]) hx;have hTr1:H1 tr=some (.dK []):=je _ _ (by simp [Mo,LJ]) jQ;refine aj ?_;left;refine ⟨x,dx,fs,.int c,rfl,bx,hc,_,_,rfl,rfl,dx,fs,bx,by omega,aj ?_⟩;left;refine ⟨x,dx,_,.ref tr,rfl,ax,by rw [eB,if_neg (by decide)]; exact cR,tr,_,rfl,iW.k (k:=.inr "main") (by rw [ag M7]; exact hTr1) (by decide),?_⟩;left;have old:∀ b o,H1 b=some o->b≠x->b≠tr->upd (upd H1 x (.ins T.aH dx (ay "changes" (.int (c+1)) fs))) tr (.dK (putK [] (.inr "main") (.int 0))) b=some o:=fun b o e b1 b2=>by rw [ag b2,ag b1]; exact e
 have L7:th≠x/\th≠tr:=⟨Ne.symm (aK hx fth),Ne.symm (aK jQ fth)⟩;have M6:nm≠x/\nm≠tr:=⟨Ne.symm (aK hx fnm),Ne.symm (aK jQ fnm)⟩;have Nd:pl≠x/\pl≠tr:=⟨Ne.symm (aK hx fpl),Ne.symm (aK jQ fpl)⟩;refine q th dw nm pl _ ks (c+1) _ fth fnm fpl (by rw [ag (Ne.symm M7),ax]) (Nat.le_of_eq (fE hc)) (cZ.refl _) ⟨⟨gs',d',old _ _ lB (Ne.symm vh) (Ne.symm Mo),Mi,DK⟩,old _ _ lh (Ne.symm Np) (Ne.symm LJ)⟩ (old _ _ hth1 L7.1 L7.2) hkl1 sk1 (old _ _ hnm1 M6.1 M6.2) (old _ _ xS Nd.1 Nd.2) ax ?_;intro b o hb e;simp only [List.mem_cons,List.not_mem_nil,or_false,not_or] at hb;exact old _ _ (je b o (by simp [hb.2.1,hb.2.2.1]) e) hb.1 hb.2.2.2
theorem lY:az P w K mg base (cM P w) 1 T.eL.f T.eL.d ["self","asker"] (Fi T.aH T.aN T.aS T.rh):=by
 refine T.eL.F.dP OY (fun _ _ _ _ h=>vF h fun _ _ _=>rfl) fun _ A _ s H vs Q E hr h=>vF h fun x v h=>?_;obtain ⟨AA,L,M,i,rfl,⟨ty,cw⟩,q1,q2⟩:=h;obtain ⟨fs,c,hx,aP,sf⟩:=i.h;refine ⟨_,((ai (aW (eA (gl (c9 (cK (cF jw T.fQ fZ (aa (ad 1) (aa (jf (.ty "str") T.my md rfl) ae))))) (jo (GG (fg hr) (ad 1) (bi T.aI T.sE (ad 0)))))) (ai (za Ak rfl T.Qp T.Zb (aa ap ae))) ce))).h,?_⟩;refine stI [some (V.ref AA.a),some v] ?_;left;simp only [cw,yP cw];refine ⟨vy _ rfl,?_⟩;cases v with
 | str z =>
  simp only [w9,Bool.not_true,Bool.false_eq_true,if_false];refine ⟨AA.a,_,_,.ref AA.ro,rfl,hx,(sf _).trans rfl,AA.ro,_,rfl,dG.k (k:=.inr z) i.ro,?_⟩;cases hz:aF (sD M.ro) (.inr z) with
  | none=>exact bT ⟨fits (by simp),q2 fun z' e=>by cases e; exact hz⟩
  | some u=>exact aY (q1 z rfl (by rw [hz]; rfl))
 | _=>exact ⟨fits (by simp),q2 fun z' e=>by cases e⟩
section
variable {T:Tx K mg} {H:Hp} {A:Ad} {L:List Ta} {M:Hs}
theorem ni (i:aG T.aH T.aN T.aS H A L M) (hz:(aF (sD M.ro) (.inr z)).isSome=true) (q:Q .au H):Fi T.aH T.aN T.aS T.rh [.ref A.a,.str z] H Q E :=
 ⟨A,L,M,i,rfl,⟨_,rfl⟩,fun _ _ _=>q,fun h=>by rw [h z rfl] at hz; cases hz⟩
end
theorem nO:T.fj.k P w mg base 2 (Qk T.aH T.aN T.aS):=by
 refine T.fj.F.ok Oa (fun _ _ _ _ h=>dz h fun _ _ _=>rfl) fun _ A _ s H vs Q E hr h=>dz h fun x z h=>?_;obtain ⟨AA,L,M,r,i,rfl,hz,q⟩:=h;obtain ⟨fs,c,hx,aP,sf⟩:=i.h;refine ⟨_,((al (aU (ef T.aI T.eL.h (lY T) hr.m T.eL.b .nil fW (ad 0) (aa (ad 1) ae)))
 (ai (aM (tH (fg hr) (bi T.aI T.sE (ad 0)) (ad 1)))))).h,?_⟩
 refine stI [some (V.ref AA.a),some (V.str z)] ?_;refine aj ?_;left;refine (mI hx sf (ni i (by rw [hz]; rfl) ?_));refine ⟨AA.a,_,_,.ref AA.ro,rfl,hx,(sf _).trans rfl,AA.ro,.int r,rfl,?_,q⟩;have:=dG.k (k:=.inr z) i.ro;rw [hz] at this;exact this
def PD (CH CS CT:Addr):Sp:=gY fun x z H Q _=>X4 fun A L M (r:Nat)=>A5 (aG CH CS CT H A L M) (A.a=x) ((aF (sD M.ro) (.inr z)).isSome=true) (aF (sD M.st) (.inr z)=some (.int r)) (Q (.int r) H)
theorem JD:T.nk.k P w mg base 2 (PD T.aH T.aN T.aS):=by
 refine T.nk.F.ok Yi (fun _ _ _ _ h=>dz h fun _ _ _=>rfl) fun _ A _ s H vs Q E hr h=>dz h fun x z h=>?_;obtain ⟨AA,L,M,r,i,rfl,hzr,hz,q⟩:=h;obtain ⟨fs,c,hx,aP,sf⟩:=i.h;refine ⟨_,((al (aU (ef T.aI T.eL.h (lY T) hr.m T.eL.b .nil fW (ad 0) (aa (ad 1) ae)))
 (ai (aM (tH (fg hr) (bi T.aI T.CJ (ad 0)) (ad 1)))))).h,?_⟩
 refine stI [some (V.ref AA.a),some (V.str z)] ?_;refine aj ?_;left;refine (mI hx sf (ni i hzr ?_));refine ⟨AA.a,_,_,.ref AA.st,rfl,hx,(sf _).trans rfl,AA.st,.int r,rfl,?_,q⟩;have:=dG.k (k:=.inr z) i.st;rw [hz] at this;exact this
theorem Cb:T.j5.k P w mg base 4 (QJ T.aH T.aN T.aS):=by
 refine T.j5.F.ok Td (fun _ _ _ _ h=>pI h fun _ _ _ _=>rfl) fun _ A _ s H vs Q E hr h=>pI h fun x n z h=>?_;obtain ⟨AA,L,M,k,a,t,i,rfl,rfl,ha,aQ,hn,hl,q⟩:=h;refine ⟨_,((al (aU (bn (C1 T) hr.m T.il.m T.il.F.kp T.il.b .nil aq (aa (ad 2) ae)))
 (ai (aM (bf T.cB T.nE.h (Kb T) hr.m T.nE.b .nil aq (bi T.aI T.gx (ad 0)) (aa (ad 1) (aa (ad 2) ae))))))).h,?_⟩
 refine stI [some (V.ref AA.a),some (V.int (k:Int)),some (V.str z)] ?_;refine aj ?_;left;refine ⟨⟨_,rfl⟩,hl,hn,fun H1 s1=>?_⟩;have i1:=i.same s1;obtain ⟨fs,c,hx,aP,sf⟩:=i1.h;obtain ⟨gs,c2,ht,en,sg⟩:=i1.t;exact ⟨AA.a,_,_,.ref AA.t,rfl,hx,(sf _).trans rfl,AA.t,_,_,rfl,ht,(sg _).trans rfl,AA,L,M,k,a,t,i1,rfl,rfl,ha,aQ,q H1 s1⟩
theorem BU:az P w K mg base (cM P w) 3 T.kf.f T.kf.d ["self","asker","number","right"] (HX T.aH T.aN T.aS T.rh T.uT T.qS):=by
 refine T.kf.F.dP VP (fun _ _ _ _ h=>wD h fun _ _ _ _ _=>rfl) fun _ A _ s H vs Q E hr h=>wD h fun x wv v r h=>?_;obtain ⟨AA,L,M,i,rfl,hcw,hcv,hcr,q1,q2⟩:=h;obtain ⟨fs,c,hx,aP,sf⟩:=i.h;obtain ⟨gs,c2,ht,en,sg⟩:=i.t;refine ⟨_,((al (aU (ef T.aI T.eL.h (lY T) hr.m T.eL.b .nil cS (ad 0) (aa (ad 1) ae)))
 (al (aU (dR (ZE T) hr.m T.pb.m T.pb.F.kp T.pb.b .nil cS (aa (ad 3) ae)))
 (ai (aM (em (tu (K:=K) rfl) (ad 3) (bf T.dF T.sr.h (WM T) hr.m T.sr.b .nil aq (ef T.cB T.dN.h (jA T) hr.m T.dN.b .nil cS (bi T.aI T.gx (ad 0)) (aa (ad 2) ae)) (aa (ad 1) ae)))))))).h,?_⟩
 refine stI [some (V.ref AA.a),some wv,some v,some r] ?_;refine aj ?_;left;refine (mI hx sf ⟨AA,L,M,i,rfl,hcw,fun z ez hz=>?_,q1⟩);obtain ⟨q3,q4⟩:=q2 z ez hz;subst ez;refine aj ?_;left;refine ⟨hcr,fun h1=>?_,q3⟩;obtain ⟨st,rfl⟩:∃ st,r=.str st:=by
  unfold jJ at h1;simp only [Bool.or_eq_true,decide_eq_true_eq] at h1;rcases h1 with (h1 | h1) | h1 <;> exact ⟨_,h1⟩
 obtain ⟨q5,q6⟩:=q4 st rfl h1;refine ⟨AA.a,_,_,.ref AA.t,rfl,hx,(sf _).trans rfl,AA.t,_,_,rfl,ht,(sg _).trans rfl,AA,L,M,i,rfl,hcv,fun k a t ev ha aQ=>?_,q5⟩;have di:=fX i ha aQ;obtain ⟨ks,ho,j3,so⟩:=di.o;exact (mI ho so ⟨a,k,t,di,rfl,q6 k t ev aQ⟩)
def M0 (z:Str):Hs:={ ts:=[{ kd := "folder",ow:=z,mi := "lgw",re := "lg",tx := "",bb:=[],cC:=[] }],ro:=[(z,0)],st:=[(z,0)],tr:=[("main",0)],ov:=[],un:=[] }
def Rh (CH CS CT:Addr):Sp:=gY fun x z H Q _=>A4 (∃ dx,H x=some (.ins CH dx [])) (z.length<=1000) (fF (.str z)=true) (∀ A L H',A.a=x->aG CH CS CT H' A L (M0 z)->(∀ b∈A.w++L.flatMap Ta.l,b≠x->H b=none)->Kp [x] H H'->Q .au H')
structure iT (C dx x:Addr) (H H':Hp) (F:List (Str×V)) (W:List (Addr×HO)):Prop where
 k:Kp [x] H H'
 h:H' x=some (.ins C dx F)
 w:∀ e∈W,H' e.1=some e.2/\H e.1=none/\e.1≠x
 n:(W.map (·.1)).Nodup
section
variable {C dx x:Addr} {H H':Hp} {F:List (Str×V)} {W:List (Addr×HO)}
theorem iT.fresh (v:iT C dx x H H' F W) (hp:H' p=none):H p=none/\p≠x:=by
 have hx:p≠x:=Ne.symm (aK v.h hp);refine ⟨?_,hx⟩;cases e:H p with
 | none=>rfl
 | some o=>rw [v.k p o (by simp [hx]) e] at hp; cases hp
theorem iT.set (v:iT C dx x H H' F W) (f:Str) (u:V):iT C dx x H (upd H' x (.ins C dx (ay f u F))) (ay f u F) W :=
 ⟨fun b o hb e=>by rw [ag (fun z=>hb (by simp [z]))]; exact v.k b o hb e,ax,fun e he=>let ⟨a,b,c⟩:=v.w e he; ⟨by rw [ag c]; exact a,b,c⟩,v.n⟩
theorem iT.y (v:iT C dx x H H' F W) (hp:H' p=none):upd H' p o x=some (.ins C dx F):=by rw [ag (aK v.h hp)]; exact v.h
theorem iT.new (v:iT C dx x H H' F W) (o:HO) (f:Str) (hp:H' p=none):iT C dx x H (upd (upd H' p o) x (.ins C dx (ay f (.ref p) F))) (ay f (.ref p) F) ((p,o)::W):=by
 obtain ⟨f0,nx⟩:=v.fresh hp;have old:∀ b u,b≠x->H' b=some u->upd (upd H' p o) x (.ins C dx (ay f (.ref p) F)) b=some u:=fun b u hb e=>by rw [ag hb,ag (aK e hp)]; exact e
 refine ⟨fun b u hb e=>old b u (fun z=>hb (by simp [z])) (v.k b u hb e),ax,fun e he=>?_,List.nodup_cons.mpr ⟨fun hm=>?_,v.n⟩⟩
 ·rcases List.mem_cons.mp he with rfl | he
  ·exact ⟨by rw [ag nx,ax],f0,nx⟩
  ·obtain ⟨a,b,c⟩:=v.w e he;exact ⟨old _ _ c a,b,c⟩
 ·obtain ⟨e,he,z⟩:=List.mem_map.mp hm;have:=(v.w e he).1;rw [show e.1=p from z,hp] at this;cases this
end
theorem RS:T.tK.k P w mg base 6 (Rh T.aH T.aN T.aS):=by
 refine T.tK.F.ok Zg (fun _ _ _ _ h=>dz h fun _ _ _=>rfl) fun _ A _ s H vs Q E hr h=>dz h fun x z h=>?_;obtain ⟨⟨dx,hx0⟩,lx,hn,q⟩:=h;refine ⟨_,((al (aU (bn (C1 T) hr.m T.il.m T.il.F.kp T.il.b .nil aq (aa (ad 1) ae)))
 (al (bG T.aI T.gx (ad 0) (Om T.Yx (Vt T) hr.m T.UZ T.tJ.b .nil aq))
 (al (bG T.aI T.v9 (ad 0) am)
 (al (bG T.aI T.sE (ad 0) nR)
 (al (bG T.aI T.CJ (ad 0) nR)
 (al (bG T.aI T.rG (ad 0) nR)
 (al (bG T.aI T.zB (ad 0) nR)
 (al (bG T.aI T.xh (ad 0) nR)
 (al (bG T.aI T.O6 (ad 0) nR)
 (al (bG T.aI T.Vh (ad 0) am)
 (al (bG T.aI T.CZ (ad 0) (bf T.aI T.uo.h (ZQ T) hr.m T.uo.b .nil aq (ad 0) (aa (db (.str "main") T.Qx ⟨_,rfl⟩) (aa (ad 1) ae))))
 (ai (aU (bf T.aI T.nT.h (GL T) hr.m T.nT.b .nil aq (ad 0) (aa (ad 1) ae)))))))))))))))).h,?_⟩
 refine stI [some (V.ref x),some (V.str z)] ?_;refine aj ?_;left;refine ⟨⟨_,rfl⟩,lx,hn,fun H1 s1=>?_⟩;have bx:=s1 _ _ hx0;refine aj ?_;left;intro t dt ht qY qW;refine ⟨dt,ax,fun ml H2 iI nml fr2 hml2 gs en sg ij=>⟨rfl,?_⟩⟩;have vh:x≠t:=aK bx ht;have nxd:x≠dt:=aK bx qY;have hml':H1 ml=none:=by
  rw [ag nml] at iI;by_cases e:ml=dt
  ·rw [e,ax] at iI; cases iI
  ·rw [ag e] at iI; exact iI
 have s2:ah H1 H2:=fun b o e=>by
  rw [fr2 b (aK e ht) (aK e hml'),ag (aK e ht),ag (aK e qY)]; exact e
 refine ⟨x,dx,_,rfl,s2 _ _ bx,by decide,aj ?_⟩;have V:iT T.aH dx x H (upd H2 x (.ins T.aH dx (ay "things" (.ref t) []))) (ay "things" (.ref t) []) [(t,.ins T.aN dt gs),(ml,.lst [])]:=⟨fun b o hb e=>by rw [ag (fun z=>hb (by simp [z]))]; exact s2 _ _ (s1 _ _ e),ax,fun e he=>?_,by simp [Ne.symm nml]⟩
 case refine_1 =>
  have fr:∀ {d},H1 d=none->H d=none:=fun {d} h=>by
   cases e:H d with
   | none=>rfl
   | some o=>rw [s1 _ _ e] at h; cases h
  simp only [List.mem_cons,List.not_mem_nil,or_false] at he;rcases he with rfl | rfl
  ·exact ⟨by rw [ag (Ne.symm vh)]; exact ij,fr ht,Ne.symm vh⟩
  ·exact ⟨by rw [ag (Ne.symm (aK bx hml'))]; exact hml2,fr hml',Ne.symm (aK bx hml')⟩
 clear fr2;generalize upd H2 x _=H3 at V ⊢;left;refine ⟨x,dx,_,rfl,V.h,by walk_at "f",aj ?_⟩
 replace V:=V.set "changes" (.int 0)
 generalize upd H3 x _=H4 at V ⊢;left;intro ro qP;refine ⟨x,dx,_,rfl,V.y qP,by walk_at "f",aj ?_⟩
 replace V:=V.new (.dK []) "roots" qP
 generalize upd (upd H4 ro _) x _=H5 at V ⊢;left;intro st aO;refine ⟨x,dx,_,rfl,V.y aO,by walk_at "f",aj ?_⟩
 replace V:=V.new (.dK []) "standings" aO
 generalize upd (upd H5 st _) x _=H6 at V ⊢;left;intro tr cR;refine ⟨x,dx,_,rfl,V.y cR,by walk_at "f",aj ?_⟩
 replace V:=V.new (.dK []) "tree_roots" cR
 generalize upd (upd H6 tr _) x _=H7 at V ⊢;left;intro ov xX;refine ⟨x,dx,_,rfl,V.y xX,by walk_at "f",aj ?_⟩
 replace V:=V.new (.dK []) "root_over" xX
 generalize upd (upd H7 ov _) x _=H8 at V ⊢;left;intro un lA;refine ⟨x,dx,_,rfl,V.y lA,by walk_at "f",aj ?_⟩
 replace V:=V.new (.dK []) "folder_under" lA
 generalize upd (upd H8 un _) x _=H9 at V ⊢;left;intro ho hho;refine ⟨x,dx,_,rfl,V.y hho,by walk_at "f",aj ?_⟩
 replace V:=V.new (.dK []) "holds" hho
 generalize upd (upd H9 ho _) x _=qH at V ⊢;left;refine ⟨x,dx,_,rfl,V.h,by walk_at "f",aj ?_⟩
 replace V:=V.set "holds_given" (.int 0)
 generalize upd qH x _=H11 at V ⊢;left;have mR:=V.h;have Ez:=V.k;have hw:=V.w;have gJ:=V.n;simp only [List.forall_mem_cons] at hw;simp only [List.map_cons,List.map_nil,List.nodup_cons,List.mem_cons,List.not_mem_nil,or_false,not_or,not_false_eq_true,List.nodup_nil,and_true] at gJ;obtain ⟨⟨gho11,fr_ho,nho⟩,⟨mQ,fr_un,Eu⟩,⟨mG,fr_ov,EU⟩,⟨qI,LU,Me⟩,⟨ic,MG,DI⟩,⟨hX,LW,EA⟩,⟨fL,ft,n1⟩,⟨fJ,Nz,n2⟩,_⟩:=hw;obtain ⟨_,⟨unov,untr,unst,unro,_⟩,⟨ovtr,ovst,ovro,_⟩,⟨trst,trro,_⟩,⟨stro,_⟩,_⟩:=gJ;have Nv:=Ne.symm stro;have DA:=Ne.symm trro;have Dy:=Ne.symm trst;have Nw:=Ne.symm ovro;have MJ:=Ne.symm ovst;have Nn:=Ne.symm ovtr;have Mt:=Ne.symm unro;have L8:=Ne.symm unst;have Nb:=Ne.symm untr;have eovun:=Ne.symm unov;have fresh:∀ {d:Addr},d≠x->H11 d=none->H d=none:=fun {d} _ h=>(V.fresh h).1;refine ⟨x,dx,_,rfl,mR,rfl,?_⟩;refine ⟨rfl,dx,_,0,t,dt,ml,tr,mR,by (repeat (refine cf ?_)); exact Nat.zero_le _,rfl,rfl,rfl,rfl,⟨⟨gs,0,fL,en,sg⟩,fJ⟩,qI,?_⟩;intro th dw nm pl fs' ks c' H12 fth fnm fpl hxA hflA Eb atA hthA hklA skA hnmA hplA htrA uY;obtain ⟨gs',d',htA,hglA,sgA⟩:=atA.o;have hmlA:=atA.ml;have lkA:=fun (f:Str) (hf:f ≠ "changes")=>(Eb f).trans ((eB _ _ _ _).trans (if_neg hf));have qro:H12 ro=some (.dK []):=uY _ _ (by simp [EA,bU hX fL (by nofun),bU hX fJ (by nofun),DA]) hX;have qst:H12 st=some (.dK []):=uY _ _ (by simp [DI,bU ic fL (by nofun),bU ic fJ (by nofun),Dy]) ic;have qun:H12 un=some (.dK []):=uY _ _ (by simp [Eu,bU mQ fL (by nofun),bU mQ fJ (by nofun),Ne.symm Nb]) mQ;have qov:H12 ov=some (.dK []):=uY _ _ (by simp [EU,bU mG fL (by nofun),bU mG fJ (by nofun),Ne.symm Nn]) mG;have u9:=fun (f:Str) (h1:f ≠ "first_root") (h2:f ≠ "changes")=>((eB "first_root" f (.int 0) fs').trans (if_neg h1)).trans (lkA f h2);refine ⟨x,dx,fs',rfl,hxA,Nat.lt_of_le_of_lt hflA (by walk_at "f"),?_⟩;refine ⟨x,dx,_,rfl,ax,(u9 _ (by decide) (by decide)).trans rfl,?_⟩;refine ⟨dx,_,c',ro,st,[],[],ax,Nat.le_trans (cf (Nat.le_trans hflA (show _<=9 by (repeat (refine cf ?_)); exact Nat.zero_le _))) (by decide),by rw [eB,if_neg (by decide),Eb,eB,if_pos rfl],(u9 _ (by decide) (by decide)).trans rfl,(u9 _ (by decide) (by decide)).trans rfl,by rw [eB,if_pos rfl],(u9 _ (by decide) (by decide)).trans rfl,(u9 _ (by decide) (by decide)).trans rfl,by rw [ag EA]; exact qro,by decide,by rw [ag DI]; exact qst,by decide,Nv,?_⟩;intro gB c3 H13 hx13 fP dA hro3 hst3 yg;have old:∀ b o,b≠x->b≠ro->b≠st->H12 b=some o->H13 b=some o:=fun b o b1 b2 b3 e=>by rw [yg b b1 b2 b3,ag b1]; exact e
 refine q ⟨x,dx,t,dt,ml,ro,st,tr,ov,un,ho⟩ [⟨th,dw,nm,pl⟩] H13 rfl ⟨⟨gB,c3,hx13,fP,fun f=>?_⟩,⟨gs',d',old _ _ (n1) (bU fL hX (by nofun)) (bU fL ic (by nofun)) htA,hglA,sgA⟩,old _ _ (n2) (bU fJ hX (by nofun)) (bU fJ ic (by nofun)) hmlA,rfl,fun j tt e=>?_,hro3,hst3,old _ _ (Me) (Ne.symm DA) (Ne.symm Dy) htrA,old _ _ (EU) (Ne.symm Nw) (Ne.symm MJ) qov,old _ _ (Eu) (Ne.symm Mt) (Ne.symm L8) qun,?_⟩ ?_ ?_
 ·rw [dA f];refine ((Eb.put "first_root" (.int 0)).put "changes" (.int c3) f).trans rfl
 ·have hj:j=0:=by
   have:=(List.getElem?_eq_some_iff.mp e).1;have h1:(M0 z).ts.length=1:=rfl;omega
  subst hj;cases e;exact ⟨_,rfl,⟨⟨ks,old _ _ (Ne.symm (aK mR fth)) (Ne.symm (aK hX fth)) (Ne.symm (aK ic fth)) hthA,hklA,skA⟩,old _ _ (Ne.symm (aK mR fnm)) (Ne.symm (aK hX fnm)) (Ne.symm (aK ic fnm)) hnmA,old _ _ (Ne.symm (aK mR fpl)) (Ne.symm (aK hX fpl)) (Ne.symm (aK ic fpl)) hplA⟩⟩
 ·show List.Nodup [x,t,ml,ro,st,tr,ov,un,th,nm,pl];simp only [List.nodup_cons,List.mem_cons,List.not_mem_nil,or_false,not_or,not_false_eq_true,List.nodup_nil,and_true];exact ⟨⟨Ne.symm n1,Ne.symm n2,Ne.symm EA,Ne.symm DI,Ne.symm Me,Ne.symm EU,Ne.symm Eu,aK mR fth,aK mR fnm,aK mR fpl⟩,⟨bU fL fJ (by nofun),bU fL hX (by nofun),bU fL ic (by nofun),bU fL qI (by nofun),bU fL mG (by nofun),bU fL mQ (by nofun),aK fL fth,aK fL fnm,aK fL fpl⟩,⟨bU fJ hX (by nofun),bU fJ ic (by nofun),bU fJ qI (by nofun),bU fJ mG (by nofun),bU fJ mQ (by nofun),aK fJ fth,aK fJ fnm,aK fJ fpl⟩,⟨Nv,DA,Nw,Mt,aK hX fth,aK hX fnm,aK hX fpl⟩,⟨Dy,MJ,L8,aK ic fth,aK ic fnm,aK ic fpl⟩,⟨Nn,Nb,aK qI fth,aK qI fnm,aK qI fpl⟩,⟨eovun,aK mG fth,aK mG fnm,aK mG fpl⟩,⟨aK mQ fth,aK mQ fnm,aK mQ fpl⟩,⟨bU hthA hnmA (by nofun),bU hthA hplA (by nofun)⟩,bU hnmA hplA (by nofun)⟩
 ·intro b hb ox;have hb':b∈[x,t,ml,ro,st,tr,ov,un,th,nm,pl]:=hb;simp only [List.mem_cons,List.not_mem_nil,or_false] at hb';rcases hb' with rfl | rfl | rfl | rfl | rfl | rfl | rfl | rfl | rfl | rfl | rfl
  ·exact absurd rfl ox
  ·exact ft
  ·exact Nz
  ·exact LW
  ·exact MG
  ·exact LU
  ·exact fr_ov
  ·exact fr_un
  ·exact fresh ox fth
  ·exact fresh ox fnm
  ·exact fresh ox fpl
 ·intro b o hb e;have ox:b≠x:=fun z=>hb (by simp [z]);refine old b o ox (aK e LW) (aK e MG) (uY b o ?_ (Ez b o hb e));simp only [List.mem_cons,List.not_mem_nil,or_false,not_or];exact ⟨ox,aK e ft,aK e Nz,aK e LU⟩
def Vc (CH CS CT:Addr):Sp:=gY fun x z H Q _=>X3 fun A L M=>A9 (aG CH CS CT H A L M) (A.a=x) (z.length<=1000) (fF (.str z)=true) (M.ro.length<=30) (M.st.length<=30) (aF (sD M.ro) (.inr z)=none) (aF (sD M.st) (.inr z)=none) (∀ H',aG CH CS CT H' A L { M with ro:=M.ro++[(z,0)],st:=M.st++[(z,0)] }->Kp [A.a,A.ro,A.st] H H'->Q .au H')
theorem K9:T.ny.k P w mg base 3 (Vc T.aH T.aN T.aS):=by
 refine T.ny.F.ok Zc (fun _ _ _ _ h=>dz h fun _ _ _=>rfl) fun _ A _ s H vs Q E hr h=>dz h fun x z h=>?_;obtain ⟨AA,L,M,i,rfl,lx,hn,eE,hsl,Mv,hs0,q⟩:=h;refine ⟨_,((al (aU (bn (C1 T) hr.m T.il.m T.il.F.kp T.il.b .nil aq (aa (ad 1) ae)))
 (al (aW (yF (fg hr) (ad 1) (bi T.aI T.sE (ad 0))) (ai fz) ce)
 (ai (aU (bf T.aI T.nT.h (GL T) hr.m T.nT.b .nil aq (ad 0) (aa (ad 1) ae))))))).h,?_⟩
 refine stI [some (V.ref AA.a),some (V.str z)] ?_;refine aj ?_;left;refine ⟨⟨_,rfl⟩,lx,hn,fun H1 s1=>?_⟩;have i1:=i.same s1;obtain ⟨fs,c,hx,aP,sf⟩:=i1.h;have nd:=i1.nd;rw [List.nodup_append] at nd;have Dx:=nd.1;simp only [Ad.w,List.nodup_cons,List.mem_cons,List.not_mem_nil,or_false,not_or] at Dx;refine aj ?_;left;refine ⟨AA.a,_,_,.ref AA.ro,rfl,hx,(sf _).trans rfl,AA.ro,_,rfl,dG.k (k:=.inr z) i1.ro,?_⟩;rw [Mv];refine aY ?_;left;refine (mI hx sf ⟨AA.dx,fs,c,AA.ro,AA.st,_,_,hx,aP,(sf _).trans rfl,(sf _).trans rfl,(sf _).trans rfl,(sf _).trans rfl,(sf _).trans rfl,(sf _).trans rfl,i1.ro,by unfold sD; rw [List.length_map]; omega,i1.st,by unfold sD; rw [List.length_map]; omega,Dx.2.2.2.1.1,?_⟩);intro fs' c' H' hx' hfl' sf' hro' hst' fr';have e1:putK (sD M.ro) (.inr z) (.int 0)=sD (M.ro++[(z,0)]):=Bx Mv;have e2:putK (sD M.st) (.inr z) (.int 0)=sD (M.st++[(z,0)]):=Bx hs0;rw [e1] at hro';rw [e2] at hst';have kp:Kp [AA.a,AA.ro,AA.st] H1 H':=fun b o hb e=>by
  simp only [List.mem_cons,List.not_mem_nil,or_false,not_or] at hb;rw [fr' b hb.1 hb.2.1 hb.2.2]; exact e
 have uI:∀ b∈[AA.t,AA.ml,AA.tr,AA.ov,AA.un],b ∉ [AA.a,AA.ro,AA.st]:=by
  intro b hb hm;simp only [List.mem_cons,List.not_mem_nil,or_false] at hb hm;obtain ⟨⟨a1,a2,a3,a4,a5,a6,a7⟩,⟨b1,b2,b3,b4,b5,b6⟩,⟨c1,c2,c3,c4,c5⟩,⟨d1,d2,d3,d4⟩,⟨f1,f2,f3⟩,_⟩:=Dx;rcases hb with rfl | rfl | rfl | rfl | rfl <;> rcases hm with h | h | h <;> first
   | exact a1 h.symm | exact a2 h.symm | exact a5 h.symm | exact a6 h.symm | exact a7 h.symm
   | exact b2 h | exact b3 h | exact c1' h | exact c1 h | exact c2 h | exact c3 h
   | exact d2 h.symm | exact d3 h.symm | exact d4 h.symm | exact f1 h.symm | exact f2 h.symm | exact f3 h.symm | exact b1 h | exact b4 h
 refine q H' ⟨⟨fs',c',hx',hfl',fun f=>?_⟩,?_,kp _ _ (uI _ (by simp)) i1.ml,i1.len,fun j t e=>?_,hro',hst',kp _ _ (uI _ (by simp)) i1.tr,kp _ _ (uI _ (by simp)) i1.ov,kp _ _ (uI _ (by simp)) i1.un,i1.nd⟩ (fun b o hb e=>kp b o hb (s1 b o e))
 ·rw [sf' f,eB,sf f];by_cases e:f = "changes"
  ·rw [if_pos e,e]; rfl
  ·rw [if_neg e];exact Oq e
 ·obtain ⟨gs,d,e,r⟩:=i1.t;exact ⟨gs,d,kp _ _ (uI _ (by simp)) e,r⟩
 ·obtain ⟨a,e1,h1⟩:=i1.th j t e;refine ⟨a,e1,h1.keep kp fun b hb hm=>?_⟩;have:=i1.nq e1;simp only [List.mem_cons,List.not_mem_nil,or_false] at hm;rcases hm with rfl | rfl | rfl
  ·exact this _ (by simp [Ad.w]) _ hb rfl
  ·exact this _ (by simp [Ad.w]) _ hb rfl
  ·exact this _ (by simp [Ad.w]) _ hb rfl
def kT (M:Hs):Nat->Nat->Nat->Prop
 | 0,k,b=>aF (nD M.un) (.inl (k:Int))=none/\b=k
 | n+1,k,b=>∃ k':Nat,aF (nD M.un) (.inl (k:Int))=some (.int (k':Int))/\kT M n k' b
def jv (M:Hs):Nat->Nat->List Nat->Prop
 | 0,k,l=>aF (nD M.ov) (.inl (k:Int))=none/\l=[]
 | n+1,k,l=>∃ (k':Nat) (r:List Nat),aF (nD M.ov) (.inl (k:Int))=some (.int (k':Int))/\jv M n k' r/\l=k'::r
def dh (M:Hs) (k b:Nat) (r:List Nat):Prop:=(∃ n,kT M n k b)/\∃ n,jv M n b r/\n<=100
theorem jv.len:∀ {n k:Nat} {l:List Nat},jv M n k l->l.length=n
 | 0,_,_,h=>by rw [h.2]; rfl
 | n+1,_,_,h=>by obtain ⟨k',r,_,h2,rfl⟩:=h; simp [h2.len]
abbrev nV (l:List Nat):List V:=l.map fun n:Nat=>V.int (n:Int)
def dM (b:Nat) (r:List Nat):Nat:=(b::r).getLast (by simp)
def Uz (CH CS CT:Addr):Sp:=iy fun x n H Q _=>X7 fun A L M (k:Nat) (b:Nat) a t=>A7 (aG CH CS CT H A L M) (A.a=x) (n=(k:Int)) (L[k]?=some a) (M.ts[k]?=some t) (∃ m,kT M m k b) (Q (.int (b:Int)) H)
def XT (CH CS CT:Addr):Sp:=iy fun x n H Q _=>X8 fun A L M (k:Nat) (b:Nat) r a t=>A7 (aG CH CS CT H A L M) (A.a=x) (n=(k:Int)) (L[k]?=some a) (M.ts[k]?=some t) (dh M k b r) (∀ l H',ah H H'->H l=none->H' l=some (.lst (nV (b::r)))->Q (.ref l) H')
def Ua (CH CS CT:Addr):Sp:=iy fun x n H Q _=>X8 fun A L M (k:Nat) (b:Nat) r a t=>A7 (aG CH CS CT H A L M) (A.a=x) (n=(k:Int)) (L[k]?=some a) (M.ts[k]?=some t) (dh M k b r) (∀ H',ah H H'->Q (.int (dM b r:Nat)) H')
theorem Tv:T.pV.k P w base 4 (Uz T.aH T.aN T.aS):=by
 refine T.pV.F.ok Dq (fun _ _ _ _ h=>cv h fun _ _ _=>rfl) fun _ A _ s H vs Q E hr h=>cv h fun x n h=>?_;obtain ⟨AA,L,M,k,b,a,t,i,rfl,rfl,ha,aQ,⟨m,hb⟩,q⟩:=h;obtain ⟨fs,c,hx,aP,sf⟩:=i.h;refine ⟨_,((al (aU (bf T.aI T.tQ.h (QL T) hr.m T.tQ.b .nil aq (ad 0) (aa (ad 1) ae)))
 (al (aR 2 Dq.nd (ad 1))
 (al (kZ PassesOwn.never (yF (fg hr) (ad 2) (bi T.aI T.xh (ad 0))) (ai (aR 2 Dq.nd (tH (fg hr) (bi T.aI T.xh (ad 0)) (ad 2)))))
 (ai (aM (ad 2))))))).h,?_⟩
 refine stI [some (V.ref AA.a),some (V.int (k:Int)),none] ?_;refine aj ?_;left;refine (mI hx sf ⟨AA,L,M,k,a,t,i,rfl,rfl,ha,aQ,?_⟩);refine aj ?_;left;refine aj ⟨fun m σ' H'=>∃ j:Nat,σ'=[some (V.ref AA.a),some (V.int (k:Int)),some (V.int (j:Int))]/\H'=H/\kT M m j b,⟨m,k,rfl,rfl,hb⟩,?_⟩;rintro m σ' H' ⟨j,rfl,rfl,hj⟩;left;refine ⟨AA.a,_,_,.ref AA.un,rfl,hx,(sf _).trans rfl,AA.un,_,rfl,dG.k (k:=.inl (j:Int)) i.un,?_⟩;cases m with
 | zero =>
  obtain ⟨h0,rfl⟩:=hj;rw [h0];exact aY q
 | succ m =>
  obtain ⟨k',h0,h1⟩:=hj;rw [h0];refine bT ⟨fun σ' H''=>∃ j:Nat,σ'=[some (V.ref AA.a),some (V.int (k:Int)),some (V.int (j:Int))]/\H''=H'/\kT M m j b,fun σ' H' z=>⟨m,Nat.lt_succ_self m,z⟩,?_⟩;left;refine ⟨AA.a,_,_,.ref AA.un,rfl,hx,(sf _).trans rfl,AA.un,.int (k':Int),rfl,?_,k',rfl,by trivial,h1⟩;have:=dG.k (k:=.inl (j:Int)) i.un;rw [h0] at this;exact this
theorem kU:nV (a++b)=nV a++nV b:=List.map_append
theorem qF:T.dZ.k P w base 5 (XT T.aH T.aN T.aS):=by
 refine T.dZ.F.ok HE (fun _ _ _ _ h=>cv h fun _ _ _=>rfl) fun _ A _ s H vs Q E hr h=>cv h fun x n h=>?_;obtain ⟨AA,L,M,k,b,r,a,t,i,rfl,rfl,ha,aQ,⟨hb,⟨m,hu,hm⟩⟩,q⟩:=h;have hlen:=hu.len;refine ⟨_,((al (aR 2 HE.nd (ci (aa (bn (Tv T) hr.m T.pV.m T.pV.F.kp T.pV.b .nil aq (aa (ad 0) (aa (ad 1) ae))) ae)))
 (al (kZ PassesOwn.never (yF (fg hr) (bv (bC (K:=K) rfl) (ad 2) (ii jO am)) (bi T.aI T.zB (ad 0))) (ai (aU (fo PySem.F.slot_list_append PySem.F.type_list_append js (ad 2) (aa (tH (fg hr) (bi T.aI T.zB (ad 0)) (bv (bC (K:=K) rfl) (ad 2) (ii jO am))) ae)))))
 (ai (aM (ad 2)))))).h,?_⟩
 refine stI [some (V.ref AA.a),some (V.int (k:Int)),none] ?_;refine aj ?_;left;refine ⟨AA,L,M,k,b,a,t,i,rfl,rfl,ha,aQ,hb,fits (by simp),fun l hl=>?_⟩;refine c8 (o:=.lst [V.int (b:Int)]) hl fun H1 s1 b1=>?_;refine aj ⟨fun m σ' H'=>ah H H'/\∃ (pre:List Nat) (j:Nat) (r':List Nat),σ'=[some (V.ref AA.a),some (V.int (k:Int)),some (V.ref l)]/\H' l=some (.lst (nV pre++[V.int (j:Int)]))/\jv M m j r'/\pre++j::r'=b::r,⟨m,s1,[],b,r,rfl,b1,hu,rfl⟩,?_⟩;rintro m σ' H' ⟨s',pre,j,r',rfl,hl',hj,hp⟩;have i1:=i.same s';obtain ⟨fs,c,hx,aP,sf⟩:=i1.h;left;simp only [bI,hl',kL];refine ⟨AA.a,_,_,.ref AA.ov,rfl,hx,(sf _).trans rfl,AA.ov,_,rfl,dG.k (k:=.inl (j:Int)) i1.ov,?_⟩;cases m with
 | zero =>
  obtain ⟨h0,rfl⟩:=hj;rw [h0];refine aY (q l H' s' hl ?_);rw [hl',<- hp,kU];rfl
 | succ m =>
  obtain ⟨k',r2,h0,h1,rfl⟩:=hj;rw [h0];refine bT ⟨fun σ' H'=>ah H H'/\∃ (pre:List Nat) (j:Nat) (r':List Nat),σ'=[some (V.ref AA.a),some (V.int (k:Int)),some (V.ref l)]/\H' l=some (.lst (nV pre++[V.int (j:Int)]))/\jv M m j r'/\pre++j::r'=b::r,fun σ' H' z=>⟨m,Nat.lt_succ_self m,z⟩,?_⟩;left;refine ⟨AA.a,_,_,.ref AA.ov,rfl,hx,(sf _).trans rfl,AA.ov,.int (k':Int),rfl,?_,?_⟩
  ·have:=dG.k (k:=.inl (j:Int)) i1.ov;rw [h0] at this;exact this
  have bj:(pre++[j]).length<=102:=by
   have:=congrArg List.length hp;simp at this ⊢;omega
  refine ⟨iR (by simp at bj ⊢; omega),s'.fi hl,pre++[j],k',r2,by trivial,?_,h1,?_⟩
  ·rw [ax,kU]; rfl
  ·rw [<- hp]; simp
theorem IY:∃ pre,b::r=pre++[dM b r]:=⟨(b::r).dropLast,by unfold dM; exact (List.dropLast_concat_getLast (by simp)).symm⟩
theorem xv:T.fV.k P w base 6 (Ua T.aH T.aN T.aS):=by
 refine T.fV.F.ok Xb (fun _ _ _ _ h=>cv h fun _ _ _=>rfl) fun _ A _ s H vs Q E hr h=>cv h fun x n h=>?_;obtain ⟨AA,L,M,k,b,r,a,t,i,rfl,rfl,ha,aQ,hs,q⟩:=h;refine ⟨_,((ai (aM (bv (bC (K:=K) rfl) (bn (qF T) hr.m T.dZ.m T.dZ.F.kp T.dZ.b .nil aq (aa (ad 0) (aa (ad 1) ae))) (ii jO am))))).h,?_⟩;refine stI [some (V.ref AA.a),some (V.int (k:Int))] ?_;left;refine ⟨AA,L,M,k,b,r,a,t,i,rfl,rfl,ha,aQ,hs,fun l H' s' _ hl=>?_⟩;dsimp only;obtain ⟨pre,hp⟩:=IY (b:=b) (r:=r);rw [hp,kU] at hl;simp only [bI,hl,List.map_cons,List.map_nil,kL];exact q _ s'
def gb (r:Nat) (l:List Nat):Bool:=l.any (· == r)
theorem kJ {r:Nat}:∀ {l:List Nat},gT (V.int (r:Int)) (nV l)=gb r l
 | []=>rfl
 | x::l=>by
  have ih:=kJ (r:=r) (l:=l);unfold gT at ih ⊢;unfold gb at ih ⊢;simp only [nV,List.map_cons,List.any_cons] at ih ⊢;rw [ih]
  congr 1
  unfold f6;by_cases e:x=r
  ·subst e; simp
  ·rw [beq_eq_false_iff_ne.mpr e]
   first | exact beq_eq_false_iff_ne.mpr (by omega) | (simp; omega)
def km (M:Hs) (L:List Ta) (root:Nat):Nat->Nat->Bool->Prop
 | n,k,v=>∃ b r a t,L[k]?=some a/\M.ts[k]?=some t/\dh M k b r /\
  if k=dM b r then
   if gb root (b::r)=true then v=true
   else ∃ ab tb,L[b]?=some ab/\M.ts[b]?=some tb/\((tb.cC=[]/\v=false)\/∃ f z,tb.cC=[(f,z)]/\match n with | 0=>False | n+1=>km M L root n f v)
  else v=false
def TM (CH CS CT:Addr):Sp:=kY fun x z n H Q _=>X6 fun A L M (k:Nat) (root:Nat) v=>A6 (aG CH CS CT H A L M) (A.a=x) (n=(k:Int)) (aF (sD M.ro) (.inr z)=some (.int (root:Int))) (∃ m,km M L root m k v) (∀ H',ah H H'->Q (.bl v) H')
theorem Ro:T.pP.k P w base 6 (TM T.aH T.aN T.aS):=by
 refine T.pP.F.ok nI (fun _ _ _ _ h=>fA h fun _ _ _ _=>rfl) fun _ A _ s H vs Q E hr h=>fA h fun x z n h=>?_;obtain ⟨AA,L,M,k,root,v,i,rfl,rfl,hz,⟨m,hm⟩,q⟩:=h;obtain ⟨fs,c,hx,aP,sf⟩:=i.h;refine bD (b:=aV C3) ((al (aR 3 nI.nd (bf T.aI T.fj.h (nO T) hr.m T.fj.b .nil aq (ad 0) (aa (ad 1) ae)))
 (al (aR 4 nI.nd (ad 2))
 (al (aR 5 nI.nd (bn (qF T) hr.m T.dZ.m T.dZ.F.kp T.dZ.b .nil aq (aa (ad 0) (aa (ad 4) ae))))
 (al (kZ PassesOwn.never (aZ cP (ad 4) (bv (bC (K:=K) rfl) (ad 5) (ii jO am))) (al (aW (aZ (tu (K:=K) rfl) (ad 3) (ad 5)) (ai (aM dL)) ce)
 (al (aR 6 nI.nd (bf T.aI T.gj.h (pJ T) hr.m T.gj.b .nil aq (ad 0) (aa (bv (bC (K:=K) rfl) (ad 5) am) ae)))
 (al (aW (aZ qk (ad 6) au) (ai (aM dL)) ce)
 (al (aR 4 nI.nd (bv (bC (K:=K) rfl) (ad 6) am))
 (ai (aR 5 nI.nd (bn (qF T) hr.m T.dZ.m T.dZ.F.kp T.dZ.b .nil aq (aa (ad 0) (aa (ad 4) ae))))))))))
 (ai (aM dL))))))) ?_
 refine stI [some (V.ref AA.a),some (V.str z),some (V.int (k:Int)),none,none,none,none] ?_;refine aj ?_;left;refine (mI hx sf ⟨AA,L,M,root,i,rfl,hz,?_⟩);refine aj ?_;left;refine aj ?_;left;obtain ⟨b,r,a,t,ha,ht,aO,dX⟩:=(by unfold km at hm; exact hm:∃ b r a t,L[k]?=some a/\M.ts[k]?=some t/\dh M k b r/\_);refine ⟨AA,L,M,k,b,r,a,t,i,rfl,rfl,ha,ht,aO,fun l H1 s1 iD hl=>?_⟩;refine aj ⟨fun m σ' H'=>ah H H'/\∃ (j:Nat) (l:Addr) (b:Nat) (r:List Nat) (pv:Option V),σ'=[some (V.ref AA.a),some (V.str z),some (V.int (k:Int)),some (V.int (root:Int)),some (V.int (j:Int)),some (V.ref l),pv]/\H' l=some (.lst (nV (b::r)))/\dh M j b r /\
  (if j=dM b r then
   if gb root (b::r)=true then v=true
   else ∃ ab tb,L[b]?=some ab/\M.ts[b]?=some tb/\((tb.cC=[]/\v=false)\/∃ f z,tb.cC=[(f,z)]/\match m with | 0=>False | n+1=>km M L root n f v)
  else v=false),⟨m,s1,k,l,b,r,none,rfl,hl,aO,dX⟩,?_⟩
 clear dX ha ht aO hl iD s1 hm;rintro m σ' H' ⟨s',j,l,b,r,pv,rfl,hl,aO,dX⟩;have i':=i.same s';obtain ⟨pre,hp⟩:=IY (b:=b) (r:=r);have cm:=hl;rw [hp,kU] at cm;left;simp only [bI,cm,List.map_cons,List.map_nil,kL];by_cases hj:j=dM b r
 ·rw [if_pos hj] at dX;rw [decide_eq_true (by rw [hj])];refine bT ⟨_,fun _ _ h=>h,?_⟩;refine aj ?_;left;simp only [bI,hl];refine ⟨rfl,by simp [cN],?_⟩;rw [kJ];cases hmem:gb root (b::r) with
  | true =>
   rw [if_pos hmem] at dX;subst dX;exact bT (q _ s')
  | false =>
   rw [if_neg (by rw [hmem]; nofun)] at dX;obtain ⟨ab,tb,fK,mS,bj⟩:=dX;refine aY ?_;refine aj ?_;obtain ⟨fs,c,hx,aP,sf⟩:=i'.h;left;simp only [bI,hl,nV,List.map_cons,df];refine (mI hx sf ⟨AA,L,M,b,ab,tb,i',rfl,rfl,fK,mS,?_⟩);rcases bj with ⟨bj,rfl⟩ | ⟨f,zz,bj,hn⟩
   ·refine .inl ⟨bj,?_⟩;refine aj ?_;left;exact ⟨by trivial,bT (q _ s')⟩
   ·refine .inr ⟨f,zz,bj,fun p hp=>?_⟩;refine aj ?_;left;refine ⟨by trivial,?_⟩;rw [decide_eq_false (by nofun)];refine aY ?_;refine aj ?_;left;simp only [bI,hp,df];cases m with
    | zero=>exact hn.elim
    | succ m =>
     obtain ⟨b2,r2,a2,t2,DG,ij,rm,Ey⟩:=(by unfold km at hn; exact hn:∃ b r a t,L[f]?=some a/\M.ts[f]?=some t/\dh M f b r/\_);refine ⟨AA,L,M,f,b2,r2,a2,t2,i',rfl,rfl,DG,ij,rm,fun l2 H2 s2 iD cm=>?_⟩;exact ⟨m,Nat.lt_succ_self m,s'.trans s2,f,l2,b2,r2,some (V.ref p),rfl,cm,rm,Ey⟩
 ·rw [if_neg hj] at dX;rw [decide_eq_false (by omega)];subst dX;refine aY ?_;left;exact q _ s'
abbrev Bq (M:Hs):List Str:=gR (M.tr.map (·.1))
def Qf (CH CS CT:Addr):Sp:=iU fun x H Q _=>X3 fun A L M=>A4 (aG CH CS CT H A L M) (A.a=x) (M.tr.length < 64) (∀ l,H l=none->Q (.ref l) (upd H l (.lst ((Bq M).map V.str))))
def Rl (CH CS CT:Addr):Sp:=gY fun x z H Q _=>X3 fun A L M=>A4 (aG CH CS CT H A L M) (A.a=x) ((aF (sD M.tr) (.inr z)).isSome=true) (Q .au H)
def N9 (CH CS CT:Addr):Sp:=gY fun x z H Q _=>X4 fun A L M (r:Nat)=>A4 (aG CH CS CT H A L M) (A.a=x) (aF (sD M.tr) (.inr z)=some (.int (r:Int))) (Q (.int (r:Int)) H)
def NQ (CH CS CT:Addr):Sp:=gY fun x z H Q _=>X4 fun A L M (r:Nat)=>A4 (aG CH CS CT H A L M) (A.a=x) (aF (sD M.tr) (.inr z)=some (.int (r:Int))) (Q ((aF (nD M.un) (.inl (r:Int))).getD .au) H)
theorem zu:T.j6.k P w mg base 1 (Qf T.aH T.aN T.aS):=by
 refine T.j6.F.ok YC (fun _ _ _ _ h=>eD h fun _ _=>rfl) fun _ A _ s H vs Q E hr h=>eD h fun x h=>?_;obtain ⟨AA,L,M,i,rfl,hl,q⟩:=h;obtain ⟨fs,c,hx,aP,sf⟩:=i.h;refine ⟨_,((ai (aM (cF (NY (K:=K) rfl rfl) T.Yj O0 (aa (bi T.aI T.rG (ad 0)) ae))))).h,?_⟩;refine stI [some (V.ref AA.a)] ?_;left;exact ⟨AA.a,_,_,.ref AA.tr,rfl,hx,(sf _).trans rfl,.inr (.inl ⟨AA.tr,_,M.tr.map (·.1),rfl,i.tr,by unfold sD; rw [List.map_map,List.map_map]; rfl,by rw [List.length_map]; exact hl,q⟩)⟩
theorem ZS:T.uA.k P w mg base 1 (Rl T.aH T.aN T.aS):=by
 refine T.uA.F.ok WT (fun _ _ _ _ h=>dz h fun _ _ _=>rfl) fun _ A _ s H vs Q E hr h=>dz h fun x z h=>?_;obtain ⟨AA,L,M,i,rfl,hz,q⟩:=h;obtain ⟨fs,c,hx,aP,sf⟩:=i.h;refine ⟨_,((ai (aW (eA (gl (c9 (cK (cF jw T.fQ fZ (aa (ad 1) (aa (jf (.ty "str") T.my md rfl) ae))))) (jo (GG (fg hr) (ad 1) (bi T.aI T.rG (ad 0)))))) (ai fz) ce))).h,?_⟩;refine stI [some (V.ref AA.a),some (V.str z)] ?_;left;refine ⟨by simp,?_⟩;rw [show (!sx "str" "str")=false from by decide +kernel];refine aY ?_;refine ⟨AA.a,_,_,.ref AA.tr,rfl,hx,(sf _).trans rfl,AA.tr,_,rfl,dG.k (k:=.inr z) i.tr,?_⟩;rw [hz];exact aY q
theorem Ii:T.nN.k P w mg base 2 (N9 T.aH T.aN T.aS):=by
 refine T.nN.F.ok Zm (fun _ _ _ _ h=>dz h fun _ _ _=>rfl) fun _ A _ s H vs Q E hr h=>dz h fun x z h=>?_;obtain ⟨AA,L,M,r,i,rfl,hz,q⟩:=h;obtain ⟨fs,c,hx,aP,sf⟩:=i.h;refine ⟨_,((al (aU (bf T.aI T.uA.h (ZS T) hr.m T.uA.b .nil aq (ad 0) (aa (ad 1) ae)))
 (ai (aM (tH (fg hr) (bi T.aI T.rG (ad 0)) (ad 1)))))).h,?_⟩
 refine stI [some (V.ref AA.a),some (V.str z)] ?_;refine aj ?_;left;refine (mI hx sf ⟨AA,L,M,i,rfl,by rw [hz]; rfl,?_⟩);refine ⟨AA.a,_,_,.ref AA.tr,rfl,hx,(sf _).trans rfl,AA.tr,.int r,rfl,?_,q⟩;have:=dG.k (k:=.inr z) i.tr;rw [hz] at this;exact this
theorem KH:T.nH.k P w mg base 3 (NQ T.aH T.aN T.aS):=by
 refine T.nH.F.ok Zq (fun _ _ _ _ h=>dz h fun _ _ _=>rfl) fun _ A _ s H vs Q E hr h=>dz h fun x z h=>?_;obtain ⟨AA,L,M,r,i,rfl,hz,q⟩:=h;obtain ⟨fs,c,hx,aP,sf⟩:=i.h;refine ⟨_,((ai (aM (Hm (fg hr) (bi T.aI T.xh (ad 0)) (bf T.aI T.nN.h (Ii T) hr.m T.nN.b .nil aq (ad 0) (aa (ad 1) ae)))))).h,?_⟩;refine stI [some (V.ref AA.a),some (V.str z)] ?_;left;exact ⟨AA.a,_,_,.ref AA.un,rfl,hx,(sf _).trans rfl,AA.un,rfl,.inl ⟨_,.inl i.un⟩,AA.a,_,_,rfl,hx,(sf _).trans rfl,AA,L,M,r,i,rfl,hz,_,dG.k (k:=.inl (r:Int)) i.un,q⟩
def de (l:List (Str×Nat)) (z:Str) (n:Nat):List (Str×Nat):=if (aF (sD l) (.inr z)).isSome=true then l.map (fun e=>if e.1=z then (e.1,n) else e) else l++[(z,n)]
theorem zO {l:List (Str×Nat)} {z:Str} {n:Nat}:putK (sD l) (.inr z) (.int (n:Int))=sD (de l z n):=by
 unfold de putK;rw [qh];cases h:(aF (sD l) (.inr z)).isSome with
 | true =>
  rw [if_pos rfl,if_pos rfl];unfold sD;rw [List.map_map,List.map_map];refine List.map_congr_left fun e _=>?_;by_cases he:e.1=z
  ·simp [he]
  ·simp [he]
 | false =>
  rw [if_neg (by nofun),if_neg (by nofun)];unfold sD;rw [List.map_append];rfl
section
variable {CH CS CT:Addr} {H H':Hp} {A:Ad} {L:List Ta} {M:Hs}
theorem aG.Gw {ro' st' tr':List (Str×Nat)} {ov' un':List (Nat×Nat)} (i:aG CH CS CT H A L M) (hh:∃ fs c,H' A.a=some (.ins CH A.dx fs)/\fs.length<=40/\cZ fs (oW c A)) (qP:H' A.ro=some (.dK (sD ro'))) (aO:H' A.st=some (.dK (sD st'))) (cR:H' A.tr=some (.dK (sD tr'))) (xX:H' A.ov=some (.dK (nD ov'))) (lA:H' A.un=some (.dK (nD un')))
  (kp:Kp [A.a,A.ro,A.st,A.tr,A.ov,A.un] H H'):aG CH CS CT H' A L { ts:=M.ts,ro:=ro',st:=st',tr:=tr',ov:=ov',un:=un' }:=by
 have nd:=i.nd;rw [List.nodup_append] at nd;obtain ⟨n1,n2,n3⟩:=nd;have off:∀ b,b∈[A.t,A.ml]->b ∉ [A.a,A.ro,A.st,A.tr,A.ov,A.un]:=by
  intro b hb hm;simp only [Ad.w,List.nodup_cons,List.mem_cons,List.not_mem_nil,or_false,not_or] at n1 hb hm;obtain ⟨⟨a1,a2,a3,a4,a5,a6,a7⟩,⟨b1,b2,b3,b4,b5,b6⟩,⟨c1,c2,c3,c4,c5⟩,_⟩:=n1;rcases hb with rfl | rfl <;> rcases hm with h | h | h | h | h | h <;> simp_all
 have nq:∀ b,b∈L.flatMap Ta.l->b ∉ [A.a,A.ro,A.st,A.tr,A.ov,A.un]:=by
  intro b hb hm;have hw:b∈A.w:=by
   simp only [Ad.w,List.mem_cons,List.not_mem_nil,or_false] at hm ⊢;rcases hm with h | h | h | h | h | h <;> simp [h]
  exact n3 _ hw _ hb rfl
 refine ⟨hh,?_,kp _ _ (off _ (by simp)) i.ml,i.len,fun j t e=>?_,qP,aO,cR,xX,lA,i.nd⟩
 ·obtain ⟨fs,c,e,r⟩:=i.t;exact ⟨fs,c,kp _ _ (off _ (by simp)) e,r⟩
 ·obtain ⟨a,e1,h1⟩:=i.th j t e;exact ⟨a,e1,h1.keep kp fun b hb=>nq b (jN e1 hb)⟩
theorem aG.Fs (i:aG CH CS CT H A L M):A.ro≠A.a/\A.st≠A.a/\A.tr≠A.a/\A.ov≠A.a/\A.un≠A.a/\A.st≠A.ro/\A.tr≠A.ro/\A.ov≠A.ro/\A.un≠A.ro/\A.tr≠A.st/\A.ov≠A.st/\A.un≠A.st/\A.ov≠A.tr/\A.un≠A.tr/\A.un≠A.ov:=by
 have nd:=i.nd;rw [List.nodup_append] at nd;have n1:=nd.1;simp only [Ad.w,List.nodup_cons,List.mem_cons,List.not_mem_nil,or_false,not_or] at n1;obtain ⟨⟨a1,a2,a3,a4,a5,a6,a7⟩,⟨b1,b2,b3,b4,b5,b6⟩,⟨c1,c2,c3,c4,c5⟩,⟨d1,d2,d3,d4⟩,⟨e1,e2,e3⟩,⟨f1,f2⟩,g1,_⟩:=n1;exact ⟨Ne.symm a3,Ne.symm a4,Ne.symm a5,Ne.symm a6,Ne.symm a7,Ne.symm d1,Ne.symm d2,Ne.symm d3,Ne.symm d4,Ne.symm e1,Ne.symm e2,Ne.symm e3,Ne.symm f1,Ne.symm f2,Ne.symm g1⟩
end
def Xw (CH CS CT:Addr):Sp:=kY fun x z n H Q _=>X4 fun A L M (k:Nat)=>A5 (aG CH CS CT H A L M) (A.a=x) (n=(k:Int)) (M.ro.length<=40) (∀ H',aG CH CS CT H' A L { M with ro:=de M.ro z k }->Kp [A.a,A.ro] H H'->Q .au H')
def YY (CH CS CT:Addr):Sp:=kY fun x z n H Q _=>X4 fun A L M (k:Nat)=>A5 (aG CH CS CT H A L M) (A.a=x) (n=(k:Int)) (M.st.length<=40) (∀ H',aG CH CS CT H' A L { M with st:=de M.st z k }->Kp [A.a,A.st] H H'->Q .au H')
theorem LB:(sD l).length=l.length:=List.length_map _
theorem Yc:T.kD.k P w mg base 1 (Xw T.aH T.aN T.aS):=by
 refine (G4 T).imp fun vs H Q E h=>?_;refine fA h fun x z n h=>?_;obtain ⟨AA,L,M,k,i,rfl,rfl,hl,q⟩:=h;obtain ⟨fs,c,hx,aP,sf⟩:=i.h;obtain ⟨e1,e2,e3,e4,e5,e6,e7,e8,e9,_⟩:=i.Fs;refine ⟨AA.dx,fs,c,AA.ro,_,hx,aP,(sf _).trans rfl,(sf _).trans rfl,i.ro,by rw [LB]; exact hl,?_⟩;rw [zO];refine q _ (i.Gw ⟨ay "changes" (.int (c+1)) fs,c+1,by rw [ag (Ne.symm e1),ax],by rw [fE (u:=.int c) ((sf _).trans rfl)]; exact aP,fun f=>((sf.put "changes" (.int (c+1))) f).trans rfl⟩ ax (by rw [ag e6,ag e2]; exact i.st) (by rw [ag e7,ag e3]; exact i.tr) (by rw [ag e8,ag e4]; exact i.ov) (by rw [ag e9,ag e5]; exact i.un) ?_) ?_
 ·intro b o hb e;simp only [List.mem_cons,List.not_mem_nil,or_false,not_or] at hb;rw [ag hb.2.1,ag hb.1]; exact e
 ·intro b o hb e;simp only [List.mem_cons,List.not_mem_nil,or_false,not_or] at hb;rw [ag hb.2,ag hb.1]; exact e
theorem Kz:T.iQ.k P w mg base 1 (YY T.aH T.aN T.aS):=by
 refine (J1 T).imp fun vs H Q E h=>?_;refine fA h fun x z n h=>?_;obtain ⟨AA,L,M,k,i,rfl,rfl,hl,q⟩:=h;obtain ⟨fs,c,hx,aP,sf⟩:=i.h;obtain ⟨e1,e2,e3,e4,e5,e6,e7,e8,e9,e10,e11,e12,_⟩:=i.Fs;refine ⟨AA.dx,fs,c,AA.st,_,hx,aP,(sf _).trans rfl,(sf _).trans rfl,i.st,by rw [LB]; exact hl,?_⟩;rw [zO];refine q _ (i.Gw ⟨ay "changes" (.int (c+1)) fs,c+1,by rw [ag (Ne.symm e2),ax],by rw [fE (u:=.int c) ((sf _).trans rfl)]; exact aP,fun f=>((sf.put "changes" (.int (c+1))) f).trans rfl⟩ (by rw [ag (Ne.symm e6),ag e1]; exact i.ro) ax (by rw [ag e10,ag e3]; exact i.tr) (by rw [ag e11,ag e4]; exact i.ov) (by rw [ag e12,ag e5]; exact i.un) ?_) ?_
 ·intro b o hb e;simp only [List.mem_cons,List.not_mem_nil,or_false,not_or] at hb;rw [ag hb.2.2.1,ag hb.1]; exact e
 ·intro b o hb e;simp only [List.mem_cons,List.not_mem_nil,or_false,not_or] at hb;rw [ag hb.2,ag hb.1]; exact e
def zV (C:Addr) (f1 f2:Str):Sp:=zF fun x v1 v2 H Q _=>X1 fun dx=>A2 (H x=some (.ins C dx [])) (Q .au (upd H x (.ins C dx (ay f2 v2 (ay f1 v1 [])))))
theorem U4:T.tT.k P w mg base 1 (zV T.dO "number" "way"):=by
 refine T.tT.F.ok TU (fun _ _ _ _ h=>lG h fun _ _ _ _=>rfl) fun _ A _ s H vs Q E hr h=>lG h fun x v1 v2 h=>?_;obtain ⟨dx,hx,q⟩:=h;refine ⟨_,((al (bG T.jK T.Cy (ad 0) (ad 1))
 (ai (bG T.jK T.IJ (ad 0) (ad 2))))).h,?_⟩
 refine stI [some (V.ref x),some v1,some v2] ?_;refine aj ?_;left;refine ⟨x,dx,_,rfl,hx,by decide,?_⟩;refine ⟨x,dx,_,rfl,ax,by walk_at "f",?_⟩;rw [mw];exact q
theorem RT:T.sA.k P w mg base 1 (zV T.lC "folder" "name"):=by
 refine T.sA.F.ok Yd (fun _ _ _ _ h=>lG h fun _ _ _ _=>rfl) fun _ A _ s H vs Q E hr h=>lG h fun x v1 v2 h=>?_;obtain ⟨dx,hx,q⟩:=h;refine ⟨_,((al (bG T.nW T.wm (ad 0) (ad 1))
 (ai (bG T.nW T.Ds (ad 0) (ad 2))))).h,?_⟩
 refine stI [some (V.ref x),some v1,some v2] ?_;refine aj ?_;left;refine ⟨x,dx,_,rfl,hx,by decide,?_⟩;refine ⟨x,dx,_,rfl,ax,by walk_at "f",?_⟩;rw [mw];exact q
theorem Vd:T.r9.k P w mg base 1 (zV T.dU "step" "reason"):=by
 refine T.r9.F.ok R3 (fun _ _ _ _ h=>lG h fun _ _ _ _=>rfl) fun _ A _ s H vs Q E hr h=>lG h fun x v1 v2 h=>?_;obtain ⟨dx,hx,q⟩:=h;refine ⟨_,((al (bG T.kC T.He (ad 0) (ad 1))
 (ai (bG T.kC T.Jp (ad 0) (ad 2))))).h,?_⟩
 refine stI [some (V.ref x),some v1,some v2] ?_;refine aj ?_;left;refine ⟨x,dx,_,rfl,hx,by decide,?_⟩;refine ⟨x,dx,_,rfl,ax,by walk_at "f",?_⟩;rw [mw];exact q
def r8 (h:Addr) (z:Str) (last:Bool) (root here:Int) (place:V) (step:Int) (av lf rd:Addr) (lr lu:Int) (told:V):List (Str×V):=[("house",.ref h),("asker",.str z),("last",.bl last),("root",.int root),("here",.int here),("place",place),("step",.int step),("asked",.ref av),("left",.ref lf),("reading",.ref rd),("leads_read",.int lr),("looked_up",.int lu),("told",told)]
structure Ws where
 here:Nat
 place:Option (Nat×Str)
 step:Nat
 asked:List Nat
 left:List (Sum Nat Str)
 aX:List Nat
 read:Nat
 look:Nat
def dm:Sum Nat Str->V
 | .inl n=>.int (n:Int)
 | .inr z=>.str z
def jr (H0 H:Hp):Option (Nat×Str)->V->Prop
 | none,v=>v=.au
 | some (k,nm),v=>∃ p,v=.ref p/\H0 p=none/\H p=some (.tup [.int (k:Int),.str nm])
structure Cn where
 CH:Addr
 CS:Addr
 CT:Addr
 CW:Addr
 CF:Addr
 CG:Addr
 CR:Addr
 CN:Addr
 CD:Addr
 CE:Addr
abbrev Tx.cn (T:Tx K mg):Cn:=⟨T.aH,T.aN,T.aS,T.bB,T.dU,T.dO,T.dS,T.mO,T.m3,T.lC⟩
structure Wd where
 L:List Ta
 M:Hs
 z:Str
 last:Bool
 root:Nat
structure Wc extends Wd where
 H0:Hp
 A:Ad
 x:Addr
 dx:Addr
 av:Addr
 rd:Addr
structure bc (N:Cn) (c:Wc) (S:Ws) (H:Hp) (lf:Addr) (told:V):Prop where
 i:aG N.CH N.CS N.CT c.H0 c.A c.L c.M
 s:ah c.H0 H
 x0:c.H0 c.x=none
 a0:c.H0 c.av=none
 l0:c.H0 lf=none
 r0:c.H0 c.rd=none
 o:∃ fs pv,H c.x=some (.ins N.CW c.dx fs)/\fs.length<=40/\jr c.H0 H S.place pv/\cZ fs (r8 c.A.a c.z c.last c.root S.here pv S.step c.av lf c.rd S.read S.look told)
 oa:H c.av=some (.lst (nV S.asked))
 ol:H lf=some (.lst (S.left.map dm))
 od:H c.rd=some (.lst (nV S.aX))
 n1:c.av≠lf
 n2:c.av≠c.rd
 n3:lf≠c.rd
 hz:aF (sD c.M.ro) (.inr c.z)=some (.int (c.root:Int))
section
variable {N:Cn} {c:Wc} {S:Ws} {H0 H H':Hp} {lf:Addr} {told:V}
theorem jr.same (h:jr H0 H p v) (s:ah H H'):jr H0 H' p v:=by
 match p,h with
 | none,h=>exact h
 | some (k,nm),⟨q,e,e0,e1⟩=>exact ⟨q,e,e0,s _ _ e1⟩
theorem bc.same (v:bc N c S H lf told) (s:ah H H'):bc N c S H' lf told :=
 ⟨v.i,v.s.trans s,v.x0,v.a0,v.l0,v.r0,let ⟨fs,pv,e,l,p,f⟩:=v.o; ⟨fs,pv,s _ _ e,l,p.same s,f⟩,s _ _ v.oa,s _ _ v.ol,s _ _ v.od,v.n1,v.n2,v.n3,v.hz⟩
theorem bc.m (v:bc N c S H lf told):aG N.CH N.CS N.CT H c.A c.L c.M:=v.i.same v.s
theorem bc.xa (v:bc N c S H lf told):c.x≠c.av/\c.x≠lf/\c.x≠c.rd:=by
 obtain ⟨fs,pv,e,_⟩:=v.o;exact ⟨bU e v.oa (by nofun),bU e v.ol (by nofun),bU e v.od (by nofun)⟩
theorem jr.put {p:Option (Nat×Str)} {v:V} {fs:List (Str×V)} {x dx CW:Addr} (h:jr H0 H p v) (hx:∃ gs,H x=some (.ins CW dx gs)):jr H0 (upd H x (.ins CW dx fs)) p v:=by
 match p,h with
 | none,h=>exact h
 | some (k,nm),⟨q,e,e0,e1⟩ =>
  obtain ⟨gs,hx⟩:=hx;exact ⟨q,e,e0,by rw [ag (Ne.symm (bU hx e1 (by nofun)))]; exact e1⟩
theorem bc.put (f:Str) (u:V) (S':Ws) (told':V) (v:bc N c S H lf told) (w:V) (hw:∀ pv,List.lookup f (r8 c.A.a c.z c.last c.root S.here pv S.step c.av lf c.rd S.read S.look told)=some w:=by exact fun _=>rfl)
  (hp:S'.place=S.place:=by rfl) (ha:S'.asked=S.asked:=by rfl) (hl:S'.left=S.left:=by rfl) (hr:S'.aX=S.aX:=by rfl)
  (e:∀ pv g,List.lookup g (ay f u (r8 c.A.a c.z c.last c.root S.here pv S.step c.av lf c.rd S.read S.look told))=List.lookup g (r8 c.A.a c.z c.last c.root S'.here pv S'.step c.av lf c.rd S'.read S'.look told'):=by exact fun _ _=>rfl) :
  ∃ fs,H c.x=some (.ins N.CW c.dx fs)/\fs.length < 1000/\List.lookup f fs=some w/\bc N c S' (upd H c.x (.ins N.CW c.dx (ay f u fs))) lf told':=by
 obtain ⟨fs,pv,e1,l,p,sf⟩:=v.o;have hf:List.lookup f fs=some w:=(sf f).trans (hw pv);exact ⟨fs,e1,by omega,hf,⟨v.i,v.s.fi v.x0,v.x0,v.a0,v.l0,v.r0,⟨_,pv,ax,by rw [fE hf]; exact l,by rw [hp]; exact p.put ⟨fs,e1⟩,fun g=>((sf.put f u) g).trans (e pv g)⟩,by rw [ag (Ne.symm v.xa.1),ha]; exact v.oa,by rw [ag (Ne.symm v.xa.2.1),hl]; exact v.ol,by rw [ag (Ne.symm v.xa.2.2),hr]; exact v.od,v.n1,v.n2,v.n3,v.hz⟩⟩
theorem jr.off (h:jr H0 H p v) (hy:H y=some o) (ht:∀ xs,o≠.tup xs):jr H0 (upd H y o') p v:=by
 match p,h with
 | none,h=>exact h
 | some (k,nm),⟨q,e,e0,e1⟩ =>
  refine ⟨q,e,e0,?_⟩;rw [ag (fun z=>?_)]
  ·exact e1
  ·rw [z,hy] at e1;exact ht _ (Option.some.inj e1)
theorem bc.off {y:Addr} {o o':HO} (v:bc N c S H lf told) (y0:c.H0 y=none) (hy:H y=some o) (nx:c.x≠y) (na:c.av≠y) (nl:lf≠y) (nr:c.rd≠y) (ht:∀ xs,o≠.tup xs):bc N c S (upd H y o') lf told:=by
 obtain ⟨gs,pv,e,l,p,f⟩:=v.o;exact ⟨v.i,v.s.fi y0,v.x0,v.a0,v.l0,v.r0,⟨gs,pv,by rw [ag nx]; exact e,l,p.off hy ht,f⟩,by rw [ag na]; exact v.oa,by rw [ag nl]; exact v.ol,by rw [ag nr]; exact v.od,v.n1,v.n2,v.n3,v.hz⟩
theorem bc.VU (v:bc N c S H lf told) (ks:List Nat):bc N c { S with asked:=ks } (upd H c.av (.lst (nV ks))) lf told:=by
 obtain ⟨gs,pv,e,l,p,f⟩:=v.o;exact ⟨v.i,v.s.fi v.a0,v.x0,v.a0,v.l0,v.r0,⟨gs,pv,by rw [ag v.xa.1]; exact e,l,p.off v.oa (by nofun),f⟩,ax,by rw [ag (Ne.symm v.n1)]; exact v.ol,by rw [ag (Ne.symm v.n2)]; exact v.od,v.n1,v.n2,v.n3,v.hz⟩
theorem bc.uE (v:bc N c S H lf told) (ts:List (Sum Nat Str)):bc N c { S with left:=ts } (upd H lf (.lst (ts.map dm))) lf told:=by
 obtain ⟨gs,pv,e,l,p,f⟩:=v.o;exact ⟨v.i,v.s.fi v.l0,v.x0,v.a0,v.l0,v.r0,⟨gs,pv,by rw [ag v.xa.2.1]; exact e,l,p.off v.ol (by nofun),f⟩,by rw [ag v.n1]; exact v.oa,ax,by rw [ag (Ne.symm v.n3)]; exact v.od,v.n1,v.n2,v.n3,v.hz⟩
theorem bc.J4 (v:bc N c S H lf told) (ks:List Nat):bc N c { S with aX:=ks } (upd H c.rd (.lst (nV ks))) lf told:=by
 obtain ⟨gs,pv,e,l,p,f⟩:=v.o;exact ⟨v.i,v.s.fi v.r0,v.x0,v.a0,v.l0,v.r0,⟨gs,pv,by rw [ag v.xa.2.2]; exact e,l,p.off v.od (by nofun),f⟩,by rw [ag v.n2]; exact v.oa,by rw [ag v.n3]; exact v.ol,ax,v.n1,v.n2,v.n3,v.hz⟩
theorem bc.R7 (v:bc N c S H lf told) (k:Nat):bc N c { S with asked:=S.asked++[k] } (upd H c.av (.lst (nV S.asked++[.int (k:Int)]))) lf told:=by
 have:=v.VU (S.asked++[k]); rw [kU] at this; exact this
theorem bc.YM (v:bc N c S H lf told) (k:Nat):bc N c { S with aX:=S.aX++[k] } (upd H c.rd (.lst (nV S.aX++[.int (k:Int)]))) lf told:=by
 have:=v.J4 (S.aX++[k]); rw [kU] at this; exact this
theorem bc.S9 (v:bc N c S H lf told) (k:Nat):bc N c { S with left:=S.left++[.inl k] } (upd H lf (.lst (S.left.map dm++[.int (k:Int)]))) lf told:=by
 have:=v.uE (S.left++[.inl k]); rw [List.map_append] at this; exact this
theorem bc.UK (v:bc N c S H lf told) (ts:List (Sum Nat Str)):bc N c { S with left:=S.left++ts } (upd H lf (.lst (S.left.map dm++ts.map dm))) lf told:=by
 have:=v.uE (S.left++ts); rw [List.map_append] at this; exact this
theorem bc.fresh (v:bc N c S H lf told) (hy:H y=none):c.H0 y=none:=by
 cases e:c.H0 y with
 | none=>rfl
 | some o=>rw [v.s y o e] at hy; cases hy
theorem bc.Yk {l:Addr} {ts:List (Sum Nat Str)} (v:bc N c S H lf told) (l0:c.H0 l=none) (hl:H l=some (.lst (ts.map dm))) (n1:c.av≠l) (n3:l≠c.rd):∃ fs,H c.x=some (.ins N.CW c.dx fs)/\fs.length < 1000/\bc N c { S with left:=ts } (upd H c.x (.ins N.CW c.dx (ay "left" (.ref l) fs))) l told:=by
 obtain ⟨fs,pv,e,le,p,f⟩:=v.o;have nx:c.x≠l:=bU e hl (by nofun);exact ⟨fs,e,by omega,⟨v.i,v.s.fi v.x0,v.x0,v.a0,l0,v.r0,⟨_,pv,ax,by rw [fE (u:=.ref lf) ((f _).trans rfl)]; exact le,p.put ⟨fs,e⟩,fun g=>((f.put "left" (.ref l)) g).trans rfl⟩,by rw [ag (Ne.symm v.xa.1)]; exact v.oa,by rw [ag (Ne.symm nx)]; exact hl,by rw [ag (Ne.symm v.xa.2.2)]; exact v.od,n1,v.n2,n3,v.hz⟩⟩
theorem bc.fld (v:bc N c S H lf told):∃ fs pv,H c.x=some (.ins N.CW c.dx fs)/\fs.length < 1000/\cZ fs (r8 c.A.a c.z c.last c.root S.here pv S.step c.av lf c.rd S.read S.look told):=by
 obtain ⟨fs,pv,e,l,p,f⟩:=v.o;exact ⟨fs,pv,e,by omega,f⟩
theorem bc.placed {p:Addr} {k:Nat} {nm:Str} (v:bc N c S H lf told) (p0:c.H0 p=none) (hp:H p=some (.tup [.int (k:Int),.str nm])):∃ fs,H c.x=some (.ins N.CW c.dx fs)/\fs.length < 1000/\bc N c { S with place:=some (k,nm) } (upd H c.x (.ins N.CW c.dx (ay "place" (.ref p) fs))) lf told:=by
 obtain ⟨fs,pv,e,l,_,f⟩:=v.o;exact ⟨fs,e,by omega,⟨v.i,v.s.fi v.x0,v.x0,v.a0,v.l0,v.r0,⟨_,.ref p,ax,by rw [fE (u:=pv) ((f _).trans rfl)]; exact l,⟨p,rfl,p0,by rw [ag (Ne.symm (bU e hp (by nofun)))]; exact hp⟩,fun g=>((f.put "place" (.ref p)) g).trans rfl⟩,by rw [ag (Ne.symm v.xa.1)]; exact v.oa,by rw [ag (Ne.symm v.xa.2.1)]; exact v.ol,by rw [ag (Ne.symm v.xa.2.2)]; exact v.od,v.n1,v.n2,v.n3,v.hz⟩⟩
end
def Q7 (N:Cn):Sp:=J0 fun x h z last H Q _=>X6 fun A L M dx H0 (root:Nat)=>A7 (aG N.CH N.CS N.CT H0 A L M) (A.a=h) (H x=some (.ins N.CW dx [])) (ah H0 H) (H0 x=none) (aF (sD M.ro) (.inr z)=some (.int (root:Int))) (∀ av lf rd H',bc N ⟨⟨L,M,z,last,root⟩,H0,A,x,dx,av,rd⟩ ⟨root,none,0,[],[],[],0,0⟩ H' lf .au->Q .au H')
theorem RQ:T.uB.k P w mg base 3 (Q7 T.cn):=by
 refine T.uB.F.ok Xf (fun _ _ _ _ h=>F6 h fun _ _ _ _ _=>rfl) fun _ A _ s H vs Q E hr h=>F6 h fun x hh z last h=>?_;obtain ⟨AA,L,M,dx,H0,root,i,rfl,hx,s0,x0,hz,q⟩:=h;refine bD (b:=aV zJ) ((al (bG T.aL T.fq (ad 0) (ad 1))
 (al (bG T.aL T.ux (ad 0) (ad 2))
 (al (bG T.aL T.Fo (ad 0) (ad 3))
 (al (bG T.aL T.tF (ad 0) (bf T.aI T.fj.h (nO T) hr.m T.fj.b .nil aq (ad 1) (aa (ad 2) ae)))
 (al (bG T.aL T.fG (ad 0) (bi T.aL T.tF (ad 0)))
 (al (bG T.aL T.vT (ad 0) au)
 (al (bG T.aL T.Ay (ad 0) am)
 (al (bG T.aL T.y3 (ad 0) (ci ae))
 (al (bG T.aL T.m5 (ad 0) (ci ae))
 (al (bG T.aL T.pk (ad 0) (ci ae))
 (al (bG T.aL T.B9 (ad 0) am)
 (al (bG T.aL T.Jo (ad 0) am)
 (ai (bG T.aL T.lS (ad 0) au))))))))))))))) ?_
 refine stI [some (V.ref x),some (V.ref AA.a),some (V.str z),some (V.bl last)] ?_;refine aj ?_;left;refine ⟨x,dx,_,rfl,hx,by decide,aj ?_⟩;left;refine ⟨x,dx,_,rfl,ax,by walk_at "f",aj ?_⟩;left;refine ⟨x,dx,_,rfl,ax,by walk_at "f",aj ?_⟩;simp only [mw];left;have s1:=s0.fi (o:=.ins T.bB dx (ay "last" (.bl last) (ay "asker" (.str z) (ay "house" (.ref AA.a) [])))) x0;have b1:upd H x (.ins T.bB dx (ay "last" (.bl last) (ay "asker" (.str z) (ay "house" (.ref AA.a) [])))) x=some (.ins T.bB dx (ay "last" (.bl last) (ay "asker" (.str z) (ay "house" (.ref AA.a) [])))):=ax;generalize upd H x (.ins T.bB dx (ay "last" (.bl last) (ay "asker" (.str z) (ay "house" (.ref AA.a) []))))=H1 at s1 b1 ⊢;have i1:=i.same s1;obtain ⟨fs,c,bx,aP,sf⟩:=i1.h;refine (mI bx sf ⟨AA,L,M,root,i1,rfl,hz,?_⟩);refine ⟨x,dx,_,rfl,b1,by walk_at "f",aj ?_⟩;left;refine ⟨x,dx,_,_,rfl,ax,rfl,x,dx,_,rfl,ax,by walk_at "f",aj ?_⟩;left;refine ⟨x,dx,_,rfl,ax,by walk_at "f",aj ?_⟩;left;refine ⟨x,dx,_,rfl,ax,by walk_at "f",aj ?_⟩;simp only [mw];left;have LK:cZ (ay "step" (.int 0) (ay "place" .au (ay "here" (.int (root:Int)) (ay "root" (.int (root:Int)) (ay "last" (.bl last) (ay "asker" (.str z) (ay "house" (.ref AA.a) []))))))) [("house",.ref AA.a),("asker",.str z),("last",.bl last),("root",.int (root:Int)),("here",.int (root:Int)),("place",.au),("step",.int 0)]:=fun f=>rfl;have Ma:(ay "step" (.int 0) (ay "place" .au (ay "here" (.int (root:Int)) (ay "root" (.int (root:Int)) (ay "last" (.bl last) (ay "asker" (.str z) (ay "house" (.ref AA.a) []))))))).length<=10:=by (repeat (refine cf ?_)); exact Nat.zero_le _
 generalize (ay "step" (.int 0) (ay "place" .au (ay "here" (.int (root:Int)) (ay "root" (.int (root:Int)) (ay "last" (.bl last) (ay "asker" (.str z) (ay "house" (.ref AA.a) [])))))))=F7 at LK Ma ⊢;have s2:=s1.fi (o:=.ins T.bB dx F7) x0;have b2:upd H1 x (.ins T.bB dx F7) x=some (.ins T.bB dx F7):=ax;generalize upd H1 x (.ins T.bB dx F7)=H2 at s2 b2 ⊢;have bW:∀ {J:Hp} {d:Addr},ah H0 J->J d=none->H0 d=none:=fun {J d} k hn=>by
  cases e:H0 d with
  | none=>rfl
  | some o=>rw [k d o e] at hn; cases hn
 refine ⟨fits (by simp),fun av gN=>?_⟩;refine ⟨x,dx,_,rfl,by rw [ag (aK b2 gN)]; exact b2,by omega,aj ?_⟩;obtain ⟨b3,o3,old3,n3⟩:=AL (o:=.lst []) (O:=.ins T.bB dx (ay "asked" (.ref av) F7)) gN b2;have s3:=(s2.trans (ah.upd (o:=.lst []) gN)).fi (o:=.ins T.bB dx (ay "asked" (.ref av) F7)) x0;have av0:=bW s2 gN;generalize upd (upd H2 av (.lst [])) x (.ins T.bB dx (ay "asked" (.ref av) F7))=H3 at b3 o3 old3 s3 ⊢;left;refine ⟨fits (by simp),fun lf hlf=>?_⟩;have l1:(ay "asked" (.ref av) F7).length<=11:=cf Ma;refine ⟨x,dx,_,rfl,by rw [ag (aK b3 hlf)]; exact b3,by omega,aj ?_⟩;obtain ⟨b4,o4,Mx,n4⟩:=AL (o:=.lst []) (O:=.ins T.bB dx (ay "left" (.ref lf) (ay "asked" (.ref av) F7))) hlf b3;have s4:=(s3.trans (ah.upd (o:=.lst []) hlf)).fi (o:=.ins T.bB dx (ay "left" (.ref lf) (ay "asked" (.ref av) F7))) x0;have lf0:=bW s3 hlf;have D4:av≠lf:=aK o3 hlf;have D6:=Mx av _ n3 o3;generalize upd (upd H3 lf (.lst [])) x (.ins T.bB dx (ay "left" (.ref lf) (ay "asked" (.ref av) F7)))=H4 at b4 o4 Mx s4 D6 ⊢;left;refine ⟨fits (by simp),fun rd gG=>?_⟩;have l2:(ay "left" (.ref lf) (ay "asked" (.ref av) F7)).length<=12:=cf l1;refine ⟨x,dx,_,rfl,by rw [ag (aK b4 gG)]; exact b4,by omega,aj ?_⟩;obtain ⟨b5,o5,EN,n5⟩:=AL (o:=.lst []) (O:=.ins T.bB dx (ay "reading" (.ref rd) (ay "left" (.ref lf) (ay "asked" (.ref av) F7)))) gG b4;have s5:=(s4.trans (ah.upd (o:=.lst []) gG)).fi (o:=.ins T.bB dx (ay "reading" (.ref rd) (ay "left" (.ref lf) (ay "asked" (.ref av) F7)))) x0;have Mc:=EN av _ n3 D6;have MU:=EN lf _ n4 o4;have rd0:=bW s4 gG;have nar:av≠rd:=aK D6 gG;have EJ:lf≠rd:=aK o4 gG;generalize upd (upd H4 rd (.lst [])) x (.ins T.bB dx (ay "reading" (.ref rd) (ay "left" (.ref lf) (ay "asked" (.ref av) F7))))=H5 at b5 o5 EN s5 Mc MU ⊢;have l3:(ay "reading" (.ref rd) (ay "left" (.ref lf) (ay "asked" (.ref av) F7))).length<=13:=cf l2;left;refine ⟨x,dx,_,rfl,b5,by omega,aj ?_⟩;have l4:(ay "leads_read" (.int 0) (ay "reading" (.ref rd) (ay "left" (.ref lf) (ay "asked" (.ref av) F7)))).length<=14:=cf l3;left;refine ⟨x,dx,_,rfl,ax,by omega,?_⟩;have l5:(ay "looked_up" (.int 0) (ay "leads_read" (.int 0) (ay "reading" (.ref rd) (ay "left" (.ref lf) (ay "asked" (.ref av) F7))))).length<=15:=cf l4;refine ⟨x,dx,_,rfl,ax,by omega,?_⟩;simp only [mw];refine q av lf rd _ ⟨i,s5.fi x0,x0,av0,lf0,rd0,⟨_,.au,ax,Nat.le_trans (cf l5) (by decide),rfl,fun f=>?_⟩,by rw [ag n3]; exact Mc,by rw [ag n4]; exact MU,by rw [ag n5]; exact o5,D4,nar,EJ,hz⟩;exact ((((((LK.put "asked" (.ref av)).put "left" (.ref lf)).put "reading" (.ref rd)).put "leads_read" (.int 0)).put "looked_up" (.int 0)).put "told" .au f).trans rfl
abbrev C4 (k:Nat) (r:Str):List (Str×V):=ay "reason" (.str r) (ay "step" (.int (k:Int)) [])
inductive Tl
 | fail (y:Str)
 | ring (ns:List Nat)
def rS (N:Cn) (H0 H:Hp) (step:Nat) (fd:Addr):Tl->Prop
 | .fail y=>H0 fd=none/\∃ bF,H fd=some (.ins N.CF bF (C4 step y))
 | .ring ns=>H0 fd=none/\∃ bF rl,H fd=some (.ins N.CR bF (ay "leads" (.ref rl) []))/\H rl=some (.lst (nV ns))
structure rZ (N:Cn) (c:Wc) (S:Ws) (lf:Addr) (o:Option Tl) (R:Hp->Prop):Prop where
 n:o=none->∀ H',bc N c S H' lf .au->R H'
 y:∀ t,o=some t->∀ fd H',bc N c S H' lf (.ref fd)->rS N c.H0 H' S.step fd t->R H'
def Px (N:Cn):Sp:=gY fun x r H Q _=>X3 fun c S lf=>A3 (c.x=x) (bc N c S H lf .au) (rZ N c S lf (some (.fail r)) (Q .au))
theorem bc.tells {t:Tl} (v:bc N c S H lf .au) (bt:H fd=none) (s4:ah H H4) (b4:H4 fd=some (.ins C bF [])) :
  ∃ fs,upd H4 fd (.ins C bF F) c.x=some (.ins N.CW c.dx fs)/\fs.length < 1000/\bc N c S (upd (upd H4 fd (.ins C bF F)) c.x (.ins N.CW c.dx (ay "told" (.ref fd) fs))) lf (.ref fd)/\c.H0 fd=none/\c.x≠fd:=by
 obtain ⟨fs,pv,hx,aP,sf⟩:=v.fld;have f0:=v.fresh bt;have nx:c.x≠fd:=aK hx bt;have v5:=(v.same s4).off (o':=.ins C bF F) f0 b4 nx (aK v.oa bt) (aK v.ol bt) (aK v.od bt) (by nofun);obtain ⟨va,gL,gE,_,v6⟩:=v5.put "told" (.ref fd) S (.ref fd) .au;exact ⟨va,gL,gE,v6,f0,nx⟩
theorem ud:T.hJ.k P w mg base 3 (Px T.cn):=by
 refine T.hJ.F.ok P5 (fun _ _ _ _ h=>dz h fun _ _ _=>rfl) fun _ A _ s H vs Q E hr h=>dz h fun x r h=>?_;obtain ⟨c,S,lf,rfl,v,q⟩:=h;refine bD (b:=aV AD) ((ai (bG T.aL T.lS (ad 0) (im T.Vx (Vd T) hr.m T.Gj T.r9.b .nil aq (aa (bi T.aL T.Ay (ad 0)) (aa (ad 1) ae)))))) ?_;refine stI [some (V.ref c.x),some (V.str r)] ?_;obtain ⟨fs,pv,hx,aP,sf⟩:=v.fld;left;refine (fI hx sf rfl (fun fd bF bt hdfd nfd=>?_));have s4:=(ah.upd (o:=.own fd) hdfd).trans (ah.upd (p:=fd) (o:=.ins T.dU bF []) (by rw [ag (Ne.symm nfd)]; exact bt));have b4:upd (upd H bF (.own fd)) fd (.ins T.dU bF []) fd=some (.ins T.dU bF []):=ax;generalize upd (upd H bF (.own fd)) fd (.ins T.dU bF [])=H4 at s4 b4 ⊢;refine ⟨bF,b4,rfl,?_⟩;obtain ⟨va,gL,gE,v6,f0,nx⟩:=v.tells (t:=.fail r) (F:=C4 S.step r) bt s4 b4;exact ⟨c.x,_,_,rfl,gL,gE,q.y _ rfl fd _ v6 ⟨f0,bF,by rw [ag (Ne.symm nx)]; exact ax⟩⟩
def g9:List Nat->Nat
 | []=>0
 | [a]=>a
 | a::b::r=>min a (g9 (b::r))
theorem sF:∀ {ns:List Nat},ns≠[]->g9 ns∈ns
 | [],h=>absurd rfl h
 | [a],_=>by simp [g9]
 | a::b::r,_=>by
  have:=sF (ns:=b::r) (by simp);unfold g9;rcases Nat.le_total a (g9 (b::r)) with h | h
  ·rw [Nat.min_eq_left h]; simp
  ·rw [Nat.min_eq_right h]; exact List.mem_cons_of_mem _ this
theorem BZ:∀ {ns:List Nat} {k:Nat},k∈ns->g9 ns<=k
 | [a],k,h=>by rw [List.mem_singleton.mp h]; exact Nat.le_refl _
 | a::b::r,k,h=>by
  unfold g9;rcases List.mem_cons.mp h with rfl | h
  ·exact Nat.min_le_left _ _
  ·exact Nat.le_trans (Nat.min_le_right _ _) (BZ h)
def jB (ns:List Nat):List Nat:=ns.drop (ns.idxOf (g9 ns))++ns.take (ns.idxOf (g9 ns))
theorem wK (ns:List Nat):nV ns=(ns.map (fun k:Nat=>(k:Int))).map V.int:=by
 unfold nV; rw [List.map_map]; rfl
theorem pZ (k:Nat):∀ ns:List Nat,(ns.map (fun k:Nat=>(k:Int))).idxOf (k:Int)=ns.idxOf k
 | []=>rfl
 | a::r=>by
  have h:((a:Int) == (k:Int))=(a == k):=by
   rw [Bool.eq_iff_iff,beq_iff_eq,beq_iff_eq]; omega
  rw [List.map_cons,List.idxOf_cons,List.idxOf_cons,pZ k r,h]
theorem mem_cast {k:Nat} {ns:List Nat} (h:k∈ns):(k:Int)∈ns.map (fun k:Nat=>(k:Int)):=List.mem_map.mpr ⟨k,h,rfl⟩
def VJ:Sp:=iU fun l H Q _=>X1 fun (ns:List Nat)=>A4 (H l=some (.lst (nV ns))) (ns≠[]) (ns.length<=500) (∀ l' H',ah H H'->H l'=none->H' l'=some (.lst (nV (jB ns)))->Q (.ref l') H')
theorem Pk:T.pj.k P w base 1 VJ:=by
 refine T.pj.F.ok Iq (fun _ _ _ _ h=>eD h fun _ _=>rfl) fun _ A _ s H vs Q E hr h=>eD h fun l h=>?_;obtain ⟨ns,hl,dY,hlen,q⟩:=h;refine bD (b:=aV Bs) ((al (aR 1 Iq.nd (fo PySem.F.slot_list_index PySem.F.type_list_index (As (K:=K) rfl) (ad 0) (aa (cF (E4 (K:=K) rfl rfl) T.CI Iz (aa (ad 0) ae)) ae)))
 (ai (aM (cr dQ (ge (mm (K:=K) rfl) (ad 0) (iu (ad 1)) jC) (ge (mm (K:=K) rfl) (ad 0) jC (iu (ad 1)))))))) ?_
 refine stI [some (V.ref l),none] ?_;refine aj ?_;left;simp only [hl];have hS:aC K H l ((ns.map (fun k:Nat=>(k:Int))).map V.int):=aC.of (by rw [hl,wK]);refine ⟨_,_,hS,mem_cast (sF dY),fun k hk=>?_,_,hS,mem_cast (sF dY),nV ns,aC.of hl,fun p hp=>?_⟩
 ·obtain ⟨k',hk',rfl⟩:=List.mem_map.mp hk;have:=BZ hk';omega
 rw [pZ,vY];refine c8 (o:=.lst (List.drop (ns.idxOf (g9 ns)) (nV ns))) hp fun H1 s1 b1=>?_;refine ⟨nV ns,aC.of (s1 _ _ hl),fun p2 cJ=>?_⟩;rw [Fb];refine c8 (o:=.lst (List.take (ns.idxOf (g9 ns)) (nV ns))) cJ fun H2 s2 b2=>?_;simp only [s2 _ _ b1,b2];refine ⟨fits (by simp [nV]; omega),fun p3 ie=>?_⟩;refine q p3 _ ((s1.trans s2).trans (ah.upd ie)) ?_ ?_
 ·cases e:H p3 with
  | none=>rfl
  | some o=>rw [(s1.trans s2) _ _ e] at ie; cases ie
 ·rw [ax];unfold jB nV;rw [List.map_append,List.map_drop,List.map_take]
def Pc (C:Addr):Sp:=sG fun x l H Q _=>X2 fun dx ns=>A3 (H x=some (.ins C dx [])) (H l=some (.lst (nV ns))) (∀ rl,H rl=none->Q .au (upd (upd H rl (.lst (nV ns))) x (.ins C dx (ay "leads" (.ref rl) []))))
theorem Yp:T.sJ.k P w mg base 1 (Pc T.dS):=by
 refine T.sJ.F.ok Ra (fun _ _ _ _ h=>lT h fun _ _ _=>rfl) fun _ A _ s H vs Q E hr h=>lT h fun x l h=>?_;obtain ⟨dx,ns,hx,hl,q⟩:=h;refine bD (b:=aV zX) ((ai (bG T.mz T.zK (ad 0) (l6 (Ky (K:=K) rfl) T.m4 vN (aa (ad 1) ae))))) ?_;refine stI [some (V.ref x),some (V.ref l)] ?_;left;simp only [bI,hl];exact fun rl eE=>⟨x,dx,_,rfl,by rw [ag (aK hx eE)]; exact hx,by decide,q rl eE⟩
def cu (ps:List Str):List (Sum Nat Str):=(ps.map Sum.inr).reverse
theorem Hh (ps:List Str):(cu ps).map dm=(ps.map V.str).reverse:=by
 unfold cu;rw [List.map_reverse,List.map_map]; rfl
def RG (N:Cn):Sp:=K0 fun x fr lp H Q _=>Hv fun c S lf (st:Nat) (b:Nat) (ps:List Str) (r:List Nat) (a:Ta) (t:Th) (sn:Bool)=>xA (c.x=x) (bc N c S H lf .au) (H lp=some (.lst (ps.map V.str))) (fr=true/\st=c.root\/fr=false/\aF (sD c.M.st) (.inr c.z)=some (.int (st:Int))) (c.L[st]?=some a) (c.M.ts[st]?=some t) (dh c.M st b r) (∃ m,km c.M c.L c.root m (dM b r) sn) (sn=true->∀ lf' H',bc N c { S with here:=dM b r,left:=cu ps } H' lf' .au->Q .au H') (sn=false->rZ N c { S with here:=dM b r } lf (some (.fail "outside")) (Q .au))
theorem RV:T.tE.k P w mg base 7 (RG T.cn):=by
 refine T.tE.F.ok JQ (fun _ _ _ _ h=>GQ h fun _ _ _ _=>rfl) fun _ A _ s H vs Q E hr h=>GQ h fun x fr lp h=>?_;obtain ⟨c,S,lf,st,b,ps,r,a,t,sn,rfl,v,cY,aO,ha,ht,jP,rb,q1,q2⟩:=h;obtain ⟨fs,pv,hx,aP,sf⟩:=v.fld;refine bD (b:=aV yG) ((al (aR 3 JQ.nd (GU (cK (ad 1)) (bi T.aL T.tF (ad 0)) (bf T.aI T.nk.h (JD T) hr.m T.nk.b .nil aq (bi T.aL T.fq (ad 0)) (aa (bi T.aL T.ux (ad 0)) ae))))
 (al (bG T.aL T.fG (ad 0) (bn (xv T) hr.m T.fV.m T.fV.F.kp T.fV.b .nil aq (aa (bi T.aL T.fq (ad 0)) (aa (ad 3) ae))))
 (ai (aW (cK (bn (Ro T) hr.m T.pP.m T.pP.F.kp T.pP.b .nil aq (aa (bi T.aL T.fq (ad 0)) (aa (bi T.aL T.ux (ad 0)) (aa (bi T.aL T.fG (ad 0)) ae))))) (ai (bG T.aL T.m5 (ad 0) (Dv.listRev (K:=K) rfl rfl T.m4 T.By (ad 2)))) (ai (aU (bf T.aL T.hJ.h (ud T) hr.m T.hJ.b .nil aq (ad 0) (aa ap ae))))))))) ?_
 refine stI [some (V.ref c.x),some (V.bl fr),some (V.ref lp),none] ?_;refine fe (fun σ' H'=>σ'=[some (V.ref c.x),some (V.bl fr),some (V.ref lp),some (V.int (st:Int))]/\H'=H) ?_ ?_
 ·left;rcases aO with ⟨rfl,rfl⟩ | ⟨rfl,aO⟩
  ·exact bT (fI hx sf rfl ⟨rfl,by trivial⟩)
  ·obtain ⟨mH,hc,hh,qX,ig⟩:=v.m.h;exact aY (fI hx sf rfl (mI hh ig (fI hx sf rfl ⟨c.A,c.L,c.M,st,v.m,rfl,by rw [v.hz]; rfl,aO,rfl,by first | rfl | trivial⟩)))
 rintro σ' H' ⟨rfl,rfl⟩;refine aj ?_;left;refine (fI hx sf rfl ⟨c.A,c.L,c.M,st,b,r,a,t,v.m,rfl,rfl,ha,ht,jP,fun H1 s1=>?_⟩);have v1:=v.same s1;obtain ⟨gm,bx,gK,_,v2⟩:=v1.put "here" (.int ((dM b r:Nat):Int)) { S with here:=dM b r } .au _;refine ⟨c.x,_,_,rfl,bx,by first | exact gK | exact oB | omega,?_⟩;have hlp1:=s1 _ _ cY;have Ea:lp≠c.x:=fun e=>by rw [e,hx] at cY; cases cY
 have MH:upd H1 c.x (.ins T.bB c.dx (ay "here" (.int ((dM b r:Nat):Int)) gm)) lp=some (.lst (ps.map V.str)):=by rw [ag Ea]; exact hlp1
 generalize upd H1 c.x (.ins T.bB c.dx (ay "here" (.int ((dM b r:Nat):Int)) gm))=H2 at v2 MH ⊢;obtain ⟨ia,oF,b7,gI,cb⟩:=v2.fld;left;refine (fI b7 cb rfl (fI b7 cb rfl (fI b7 cb rfl ⟨c.A,c.L,c.M,dM b r,c.root,sn,v2.m,rfl,rfl,v2.hz,rb,fun H3 s3=>?_⟩)));have v3:=v2.same s3;cases sn
 ·obtain ⟨gB,oG,da,fP,dA⟩:=v3.fld;exact aY (mI da dA ⟨c,_,lf,rfl,v3,q2 rfl⟩)
 ·refine bT ?_;refine ⟨lp,ps.map V.str,rfl,aC.of (s3 _ _ MH),fun l hl=>?_⟩;have v4:=v3.same (ah.upd (o:=.lst (ps.map V.str).reverse) hl);have b4:upd H3 l (.lst (ps.map V.str).reverse) l=some (.lst ((cu ps).map dm)):=by rw [ax,Hh]
  have l0:=v3.fresh hl;have D4:c.av≠l:=aK v3.oa hl;have EJ:l≠c.rd:=Ne.symm (aK v3.od hl);generalize upd H3 l (.lst (ps.map V.str).reverse)=H4 at v4 b4 ⊢;obtain ⟨rn,i8,oB,v5⟩:=v4.Yk l0 b4 D4 EJ;exact ⟨c.x,_,_,rfl,i8,by first | exact gK | exact oB | omega,q1 rfl l _ v5⟩
def gZ (M:Hs) (L:List Ta) (root:Nat):Nat->Nat->List Str->Prop
 | n,k,ns=>∃ b r a t,L[k]?=some a/\M.ts[k]?=some t/\dh M k b r /\
  if gb root (b::r)=true then ns=[]
  else ∃ ab tb f z,L[b]?=some ab/\M.ts[b]?=some tb/\tb.cC=[(f,z)]/\match n with | 0=>False | n+1=>∃ ns',ns=ns'++[z]/\gZ M L root n f ns'
def Wn (CH CS CT:Addr):Sp:=kY fun x z n H Q _=>X6 fun A L M (k:Nat) (root:Nat) ns=>A7 (aG CH CS CT H A L M) (A.a=x) (n=(k:Int)) (aF (sD M.ro) (.inr z)=some (.int (root:Int))) (∃ m,gZ M L root m k ns) (ns.length<=500) (∀ l H',ah H H'->H' l=some (.lst (ns.map V.str))->Q (.ref l) H')
theorem QZ:T.qD.k P w base 6 (Wn T.aH T.aN T.aS):=by
 refine T.qD.F.ok qB (fun _ _ _ _ h=>fA h fun _ _ _ _=>rfl) fun _ A _ s H vs Q E hr h=>fA h fun x z n h=>?_;obtain ⟨AA,L,M,k,root,ns,i,rfl,rfl,hz,⟨m,hm⟩,hlen,q⟩:=h;obtain ⟨fs,c,hx,aP,sf⟩:=i.h;refine bD (b:=aV yY) ((al (aR 3 qB.nd (bf T.aI T.fj.h (nO T) hr.m T.fj.b .nil aq (ad 0) (aa (ad 1) ae)))
 (al (aR 4 qB.nd (ci ae))
 (al (aR 5 qB.nd (bn (qF T) hr.m T.dZ.m T.dZ.F.kp T.dZ.b .nil aq (aa (ad 0) (aa (ad 2) ae))))
 (al (kZ PassesOwn.never (aZ (vv (K:=K) rfl) (ad 3) (ad 5)) (al (aR 6 qB.nd (bf T.aI T.gj.h (pJ T) hr.m T.gj.b .nil aq (ad 0) (aa (bv (bC (K:=K) rfl) (ad 5) am) ae)))
 (al (aU (fo PySem.F.slot_list_append PySem.F.type_list_append js (ad 4) (aa (bv (bC (K:=K) rfl) (ad 6) am) ae)))
 (ai (aR 5 qB.nd (bn (qF T) hr.m T.dZ.m T.dZ.F.kp T.dZ.b .nil aq (aa (ad 0) (aa (bv (bC (K:=K) rfl) (ad 6) am) ae))))))))
 (ai (aM (Dv.listRev (K:=K) rfl rfl T.m4 T.By (ad 4))))))))) ?_
 refine stI [some (V.ref AA.a),some (V.str z),some (V.int (k:Int)),none,none,none,none] ?_;refine aj ?_;left;refine (mI hx sf ⟨AA,L,M,root,i,rfl,hz,?_⟩);refine aj ?_;left;refine ⟨fits (by simp),fun ln yl=>?_⟩;refine c8 (o:=.lst []) yl fun H1 s1 b1=>?_;have i1:=i.same s1;refine aj ?_;left;obtain ⟨b,r,a,t,ha,ht,aO,dX⟩:=(by unfold gZ at hm; exact hm:∃ b r a t,L[k]?=some a/\M.ts[k]?=some t/\dh M k b r/\_);refine ⟨AA,L,M,k,b,r,a,t,i1,rfl,rfl,ha,ht,aO,fun l2 H2 s2 hl20 cm=>?_⟩;have Md:=s1.trans s2;have c1:=s2 _ _ b1;obtain ⟨PV,ly⟩:∃ PV:Nat->St->Hp->Prop,PV=fun m σ' H'=>ah H H'/\∃ (ls:Addr) (b:Nat) (r:List Nat) (cs ns':List Str) (pv:Option V),σ'=[some (V.ref AA.a),some (V.str z),some (V.int (k:Int)),some (V.int (root:Int)),some (V.ref ln),some (V.ref ls),pv]/\H' ls=some (.lst (nV (b::r)))/\H' ln=some (.lst (cs.map V.str))/\ns=ns'++cs.reverse /\
  (if gb root (b::r)=true then ns'=[]
   else ∃ ab tb f z,L[b]?=some ab/\M.ts[b]?=some tb/\tb.cC=[(f,z)]/\match m with | 0=>False | n+1=>∃ ns'',ns'=ns''++[z]/\gZ M L root n f ns''):=⟨_,rfl⟩
 refine aj ⟨PV,⟨m,by rw [ly]; exact ⟨Md,l2,b,r,[],ns,none,rfl,cm,c1,by simp,dX⟩⟩,?_⟩;clear dX ha ht aO cm hl20 c1 hm Md s2;intro m σ' H' hI;rw [ly] at hI;obtain ⟨s',ls,b,r,cs,ns',pv,rfl,vb,hln',gP,dX⟩:=hI;have i':=i.same s';obtain ⟨fs',c',hx',hfl',sf'⟩:=i'.h;left;refine ⟨_,.inl (aC.of vb),rfl,by simp [cN],?_⟩;rw [kJ];cases hmem:gb root (b::r) with
 | true =>
  rw [if_pos hmem] at dX;subst dX;refine aY ?_;left;refine ⟨ln,_,rfl,aC.of hln',fun l hl=>?_⟩;refine q l _ (s'.trans (ah.upd hl)) ?_;rw [ax,gP,List.nil_append,List.map_reverse]
 | false =>
  rw [if_neg (by rw [hmem]; nofun)] at dX;obtain ⟨ab,tb,f,zz,fK,mS,bj,hn⟩:=dX;refine bT ⟨fun σ' H'=>∃ m',m' < m/\PV m' σ' H',fun σ' H' h=>h,?_⟩;refine aj ?_;left;simp only [bI,vb,nV,List.map_cons,df];refine ⟨AA.a,_,_,rfl,hx',(sf' _).trans rfl,AA,L,M,b,ab,tb,i',rfl,rfl,fK,mS,.inr ⟨f,zz,bj,fun p hp=>?_⟩⟩;refine aj ?_;left;simp only [hln',bI,hp,uv];cases m with
  | zero=>exact hn.elim
  | succ m =>
   obtain ⟨ns2,hns2,hn⟩:=hn;have yf:cs.length<=500:=by
    have:=congrArg List.length gP;simp at this;omega
   refine ⟨iR (by rw [List.length_map]; omega),?_⟩;have Ea:p≠ln:=bU hp hln' (by nofun);have s4:=s'.fi (o:=.lst (List.map V.str cs++[V.str zz])) yl;have b4:upd H' ln (.lst (List.map V.str cs++[V.str zz])) ln=some (.lst ((cs++[zz]).map V.str)):=by rw [ax,List.map_append]; rfl
   have iJ:upd H' ln (.lst (List.map V.str cs++[V.str zz])) p=some (.tup [V.int (f:Int),V.str zz]):=by rw [ag Ea]; exact hp
   generalize upd H' ln (.lst (List.map V.str cs++[V.str zz]))=H4 at s4 b4 iJ ⊢;left;simp only [bI,iJ,df];obtain ⟨b2,r2,a2,t2,DG,ij,rm,Ey⟩:=(by unfold gZ at hn; exact hn:∃ b r a t,L[f]?=some a/\M.ts[f]?=some t/\dh M f b r/\_);refine ⟨AA,L,M,f,b2,r2,a2,t2,i.same s4,rfl,rfl,DG,ij,rm,fun l5 H5 s5 hl50 gE=>⟨m,Nat.lt_succ_self m,?_⟩⟩;rw [ly];refine ⟨s4.trans s5,l5,b2,r2,cs++[zz],ns2,_,rfl,gE,s5 _ _ b4,?_,Ey⟩;rw [gP,hns2];simp
theorem jE {a b:Nat} (h:(some (V.int (a:Int)):Option V)=some (V.int (b:Int))):a=b:=by
 have h1:=Option.some.inj h;injection h1 with h2;omega
theorem kT.uniq:∀ {n m k a b:Nat},kT M n k a->kT M m k b->a=b
 | 0,0,_,_,_,h,h'=>by rw [h.2,h'.2]
 | 0,_+1,_,_,_,h,h'=>by obtain ⟨_,e,_⟩:=h'; rw [h.1] at e; cases e
 | _+1,0,_,_,_,h,h'=>by obtain ⟨_,e,_⟩:=h; rw [h'.1] at e; cases e
 | _+1,_+1,_,_,_,h,h'=>by
  obtain ⟨k1,e1,h1⟩:=h; obtain ⟨k2,e2,h2⟩:=h';rw [e1] at e2; cases jE e2; exact h1.uniq h2
theorem jv.uniq:∀ {n m k:Nat} {a b:List Nat},jv M n k a->jv M m k b->a=b
 | 0,0,_,_,_,h,h'=>by rw [h.2,h'.2]
 | 0,_+1,_,_,_,h,h'=>by obtain ⟨_,_,e,_⟩:=h'; rw [h.1] at e; cases e
 | _+1,0,_,_,_,h,h'=>by obtain ⟨_,_,e,_⟩:=h; rw [h'.1] at e; cases e
 | _+1,_+1,_,_,_,h,h'=>by
  obtain ⟨k1,r1,e1,h1,rfl⟩:=h; obtain ⟨k2,r2,e2,h2,rfl⟩:=h';rw [e1] at e2; cases jE e2; rw [h1.uniq h2]
theorem dh.uniq (h:dh M k b r) (h':dh M k b' r'):b=b'/\r=r':=by
 obtain ⟨⟨_,h1⟩,_,h2,_⟩:=h; obtain ⟨⟨_,h3⟩,_,h4,_⟩:=h';obtain rfl:=h1.uniq h3;exact ⟨rfl,h2.uniq h4⟩
inductive vU (c:Wd) (h:Nat):Nat->Prop
 | g8 {a t b r}:c.L[h]?=some a->c.M.ts[h]?=some t->dh c.M h b r->gb c.root (b::r)=true->vU c h h
 | up {a t b r ab tb f zz af tf b' r'}:c.L[h]?=some a->c.M.ts[h]?=some t->dh c.M h b r->gb c.root (b::r)=false->c.L[b]?=some ab->c.M.ts[b]?=some tb->tb.cC=[(f,zz)]->c.L[f]?=some af->c.M.ts[f]?=some tf->dh c.M f b' r'->vU c h (dM b' r')
def RD (N:Cn):Sp:=iU fun x H Q _=>X4 fun c S lf h'=>A4 (c.x=x) (bc N c S H lf .au) (vU c.toWd S.here h') (∀ H',bc N c { S with here:=h' } H' lf .au->Q .au H')
theorem Qe:T.tq.k P w mg base 7 (RD T.cn):=by
 refine T.tq.F.ok Ku (fun _ _ _ _ h=>eD h fun _ _=>rfl) fun _ A _ s H vs Q E hr h=>eD h fun x h=>?_;obtain ⟨c,S,lf,h',rfl,v,hu,q⟩:=h;obtain ⟨fs,pv,hx,aP,sf⟩:=v.fld;refine bD (b:=aV Bg) ((al (aR 1 Ku.nd (bn (qF T) hr.m T.dZ.m T.dZ.F.kp T.dZ.b .nil aq (aa (bi T.aL T.fq (ad 0)) (aa (bi T.aL T.fG (ad 0)) ae))))
 (ai (aW (aZ (vv (K:=K) rfl) (bi T.aL T.tF (ad 0)) (ad 1)) (ai (bG T.aL T.fG (ad 0) (bn (xv T) hr.m T.fV.m T.fV.F.kp T.fV.b .nil aq (aa (bi T.aL T.fq (ad 0)) (aa (bv (bC (K:=K) rfl) (bf T.aI T.gj.h (pJ T) hr.m T.gj.b .nil aq (bi T.aL T.fq (ad 0)) (aa (bv (bC (K:=K) rfl) (ad 1) am) ae)) am) ae))))) ce)))) ?_
 refine stI [some (V.ref c.x),none] ?_;obtain ⟨a,t,b,r,ha,aQ,aO⟩:∃ a t b r,c.L[S.here]?=some a/\c.M.ts[S.here]?=some t/\dh c.M S.here b r:=by
  cases hu <;> exact ⟨_,_,_,_,by assumption,by assumption,by assumption⟩
 refine aj ?_;left;refine (fI hx sf rfl (fI hx sf rfl ⟨c.A,c.L,c.M,S.here,b,r,a,t,v.m,rfl,rfl,ha,aQ,aO,fun l H1 s1 iD hl=>?_⟩));have v1:=v.same s1;obtain ⟨gm,ym,bx,gK,cE⟩:=v1.fld;left;refine (fI bx cE rfl ⟨_,.inl (aC.of hl),rfl,by simp [cN],?_⟩);rw [kJ];cases hu with
 | g8 _ _ h1 hm =>
  obtain ⟨rfl,rfl⟩:=dh.uniq h1 aO;rw [hm];exact aY (q _ v1)
 | up _ _ h1 hm fK mS bj gO bK hst' =>
  obtain ⟨rfl,rfl⟩:=dh.uniq h1 aO;rw [hm];refine bT ?_;obtain ⟨mH,hc,hh,qX,ig⟩:=v1.m.h;simp only [bI,hl,nV,List.map_cons,df];refine (fI bx cE rfl (fI bx cE rfl (mI hh ig ⟨c.A,c.L,c.M,_,_,_,v1.m,rfl,rfl,fK,mS,.inr ⟨_,_,bj,fun p hp=>?_⟩⟩)));simp only [hp,df];refine ⟨c.A,c.L,c.M,_,_,_,_,_,v1.m,rfl,rfl,gO,bK,hst',fun H2 s2=>?_⟩;obtain ⟨ia,b7,gI,_,v2⟩:=(v1.same s2).put "here" _ { S with here:=dM _ _ } .au _;exact ⟨c.x,_,_,rfl,b7,gI,q _ v2⟩
theorem BK:T.ku.k P w mg base 3 (n6 T.aH T.aN T.aS Ad.a wX):=by
 refine T.ku.F.ok XR (fun _ _ _ _ h=>cv h fun _ _ _=>rfl) fun _ A _ s H vs Q E hr h=>cv h fun x n h=>?_;obtain ⟨AA,L,M,k,a,t,i,rfl,rfl,ha,aQ,q⟩:=h;obtain ⟨fs,c,hx,aP,sf⟩:=i.h;obtain ⟨gs,c2,ht,en,sg⟩:=i.t;have di:=fX i ha aQ;obtain ⟨ks,ho,j3,so⟩:=di.o;refine ⟨_,((ai (aM (bi T.dF T.Ht (ef T.cB T.dN.h (jA T) hr.m T.dN.b .nil fW (bi T.aI T.gx (ad 0)) (aa (ad 1) ae)))))).h,?_⟩;refine stI [some (V.ref AA.a),some (V.int (k:Int))] ?_;left;exact ⟨AA.a,_,_,.ref AA.t,rfl,hx,(sf _).trans rfl,AA.t,_,_,rfl,ht,(sg _).trans rfl,kH i ha aQ (fI ho so rfl q)⟩
theorem rB (h:n<=9000):n<=sizeLine:=Nat.le_trans h (by decide)
theorem wz (ps:List (List Nat)):PV ps=(ps.map Tx.S).map V.str:=by
 unfold PV
 first | rfl | simp [List.map_map,Function.comp_def]
def cL (t:List Nat):List Str:=(told (Tx.words 47 t) t).map Tx.S
def gv (S:Ws) (k:Nat) (ps:List Str) (h:Nat):Ws:={ S with read:=S.read+1,aX:=S.aX++[k],left:=(S.left++[.inl k])++cu ps,here:=h }
inductive sW (c:Wd) (S:Ws) (k:Nat):Ws->Prop
 | mk {a tc t ar tr b r}:c.L[k]?=some a->c.M.ts[k]?=some tc->tc.tx=Tx.S t->1<=t.length->t.length<=2000->(Tx.words 47 t).all cz=true->(cL t).length<=124->c.L[c.root]?=some ar->c.M.ts[c.root]?=some tr->dh c.M c.root b r->sW c S k (gv S k (cL t) (if cA t=true then dM b r else S.here))
def Yg (N:Cn):Sp:=iy fun x n H Q _=>X5 fun c S lf (k:Nat) S'=>A7 (c.x=x) (n=(k:Int)) (bc N c S H lf .au) (S.left.length<=8000) (S.aX.length<=900) (sW c.toWd S k S') (∀ H',bc N c S' H' lf .au->Q .au H')
theorem NC:T.tP.k P w mg base 7 (Yg T.cn):=by
 refine T.tP.F.ok Kl (fun _ _ _ _ h=>cv h fun _ _ _=>rfl) fun _ A _ s H vs Q E hr h=>cv h fun x n h=>?_;obtain ⟨c,S,lf,k,S',rfl,rfl,v,hl,gG,hR,q⟩:=h;cases hR with
 | @mk a tc t ar tr b r ha bN jR h1 h2 gD dB uQ cR aO =>
 refine bD (b:=aV Ag) ((al (aR 2 Kl.nd (bn (ke T) hr.m T.cH.m T.cH.F.kp T.cH.b .nil aq (aa (bf T.aI T.ku.h (BK T) hr.m T.ku.b .nil aq (bi T.aL T.fq (ad 0)) (aa (ad 1) ae)) ae)))
 (al (kE T.aL T.B9 kj (ad 0) am)
 (al (aU (fo PySem.F.slot_list_append PySem.F.type_list_append js (bi T.aL T.pk (ad 0)) (aa (ad 1) ae)))
 (al (aU (fo PySem.F.slot_list_append PySem.F.type_list_append js (bi T.aL T.m5 (ad 0)) (aa (ad 1) ae)))
 (al (aU (fo PySem.F.slot_list_extend PySem.F.type_list_extend Ke (bi T.aL T.m5 (ad 0)) (aa (Dv.listRev (K:=K) rfl rfl T.m4 T.By (bv (bC (K:=K) rfl) (ad 2) am)) ae)))
 (ai (aW (cK (bv (bC (K:=K) rfl) (ad 2) am)) (ai (bG T.aL T.fG (ad 0) (bn (xv T) hr.m T.fV.m T.fV.F.kp T.fV.b .nil aq (aa (bi T.aL T.fq (ad 0)) (aa (bi T.aL T.tF (ad 0)) ae))))) ce)))))))) ?_
 refine stI [some (V.ref c.x),some (V.int (k:Int)),none] ?_;obtain ⟨fs,pv,hx,aP,sf⟩:=v.fld;obtain ⟨mH,hc,hh,qX,ig⟩:=v.m.h;refine aj ?_;left;refine (fI hx sf rfl (mI hh ig ⟨c.A,c.L,c.M,k,a,tc,v.m,rfl,rfl,ha,bN,?_⟩));simp only [wX];refine ⟨t,jR,h1,h2,gD,fun H1 l p s1 iD kq hp=>?_⟩;have v1:=v.same s1;obtain ⟨gm,bx,gK,i9,v2⟩:=v1.put "leads_read" (.int ((S.read:Int)+1)) { S with read:=S.read+1 } .au _;refine aj ?_;left;refine ⟨c.x,_,_,_,rfl,bx,i9,_,_,rfl,rfl,_,_,bx,gK,aj ?_⟩;have hpx:p≠c.x:=fun e=>by rw [e,bx] at hp; cases hp
 have hlx:l≠c.x:=fun e=>by rw [e,bx] at kq; cases kq
 have cJ:upd H1 c.x (.ins T.bB c.dx (ay "leads_read" (.int ((S.read:Int)+1)) gm)) p=some (HO.tup [V.bl (cA t),V.ref l]):=by rw [ag hpx]; exact hp
 have cm:upd H1 c.x (.ins T.bB c.dx (ay "leads_read" (.int ((S.read:Int)+1)) gm)) l=some (.lst (PV (told (Tx.words 47 t) t))):=by rw [ag hlx]; exact kq
 generalize upd H1 c.x (.ins T.bB c.dx (ay "leads_read" (.int ((S.read:Int)+1)) gm))=H2 at v2 cJ cm ⊢;obtain ⟨ia,oF,b7,gI,cb⟩:=v2.fld;left;refine (fI b7 cb rfl ?_);simp only [v2.od];have v3:=v2.YM k;refine ⟨iR (by simp; omega),aj ?_⟩;have nl0:l≠c.rd:=fun e=>by rw [e] at iD; rw [v.od] at iD; cases iD
 have ie:upd H2 c.rd (.lst (nV S.aX++[V.int (k:Int)])) p=some (HO.tup [V.bl (cA t),V.ref l]):=by rw [ag (Ne.symm (bU v2.od cJ (by nofun)))]; exact cJ
 have gz:upd H2 c.rd (.lst (nV S.aX++[V.int (k:Int)])) l=some (.lst (PV (told (Tx.words 47 t) t))):=by rw [ag nl0]; exact cm
 dsimp only at v3;generalize upd H2 c.rd (.lst (nV S.aX++[V.int (k:Int)]))=H3 at v3 ie gz ⊢;obtain ⟨gB,oG,da,fP,dA⟩:=v3.fld;left;refine (fI da dA rfl ?_);simp only [v3.ol];have v4:=v3.S9 k;refine ⟨Nat.lt_of_lt_of_le (Nat.lt_succ_self _) (rB (by simp; omega)),aj ?_⟩;have iJ:upd H3 lf (.lst (S.left.map dm++[V.int (k:Int)])) p=some (HO.tup [V.bl (cA t),V.ref l]):=by rw [ag (Ne.symm (bU v3.ol ie (by nofun)))]; exact ie
 have nll:l≠lf:=fun e=>by rw [e] at iD; rw [v.ol] at iD; cases iD
 have xG:upd H3 lf (.lst (S.left.map dm++[V.int (k:Int)])) l=some (.lst (PV (told (Tx.words 47 t) t))):=by rw [ag nll]; exact gz
 dsimp only at v4;generalize upd H3 lf (.lst (S.left.map dm++[V.int (k:Int)]))=H4 at v4 iJ xG ⊢;obtain ⟨rn,Ni,i8,oB,oK⟩:=v4.fld;left;refine (fI i8 oK rfl ?_);simp only [v4.ol];unfold yB;left;simp only [bI,iJ,uv];refine ⟨l,_,rfl,aC.of xG,fun l5 gE=>?_⟩;rw [wz,show (List.map V.str (List.map Tx.S (told (Tx.words 47 t) t))).reverse=(cu (cL t)).map dm from (Hh _).symm];refine c8 (o:=.lst ((cu (cL t)).map dm)) gE fun H5 s5 b5=>?_;have v5:=v4.same s5;have e5:H5 lf=some (.lst ((S.left++[Sum.inl k]).map dm)):=v5.ol;simp only [e5,b5];have cY:(cu (cL t)).length<=124:=by unfold cu; simpa using dB
 refine ⟨rB (by simp at hl cY ⊢; omega),?_⟩;have v6:=v5.UK (cu (cL t));have qQ:=s5 _ _ iJ;have Nc:upd H5 lf (.lst ((S.left++[Sum.inl k]).map dm++(cu (cL t)).map dm)) p=some (HO.tup [V.bl (cA t),V.ref l]):=by rw [ag (Ne.symm (bU v5.ol qQ (by nofun)))]; exact qQ
 dsimp only at v6;generalize upd H5 lf (.lst ((S.left++[Sum.inl k]).map dm++(cu (cL t)).map dm))=H6 at v6 Nc ⊢;simp only [Nc,df];cases hrt:cA t with
 | false =>
  rw [hrt] at q;exact aY (q _ v6)
 | true =>
  rw [hrt] at q;refine bT ?_;obtain ⟨fs6,pv6,xM,hfl6,yu⟩:=v6.fld;refine (fI xM yu rfl (fI xM yu rfl ⟨c.A,c.L,c.M,c.root,b,r,ar,tr,v6.m,rfl,rfl,uQ,cR,aO,fun H7 s7=>?_⟩));obtain ⟨MZ,uG,LN,_,v7⟩:=(v6.same s7).put "here" _ (gv S k (cL t) (dM b r)) .au _;exact ⟨c.x,_,_,rfl,uG,LN,q _ v7⟩
theorem bL {A B:Prop} {i:Decidable (b=true)} (h:b=false) (hb:B):if b=true then A else B:=by rw [if_neg (by rw [h]; decide)]; exact hb
theorem bX {A B:Prop} {i:Decidable (b=true)} (h:b=true) (hb:A):if b=true then A else B:=by rw [if_pos h]; exact hb
section
variable {T:Tx K mg} {H:Hp} {A:Ad} {L:List Ta} {M:Hs}
theorem zy {z s:Str} {k:Nat} {t:Th} {Q:VK} {E:XK} (i:aG T.aH T.aN T.aS H A L M) (hz:(aF (sD M.ro) (.inr z)).isSome=true) (hs:jJ (.str s)=true) (ht:M.ts[k]?=some t) (q:Q (.bl (fb s (eG t z))) H):HX T.aH T.aN T.aS T.rh T.uT T.qS [.ref A.a,.str z,.int k,.str s] H Q E:=by
 refine ⟨A,L,M,i,rfl,⟨_,rfl⟩,⟨_,rfl⟩,⟨_,rfl⟩,fun h=>(by rw [h z rfl] at hz; cases hz),fun z' e _=>?_⟩;cases e;refine ⟨fun h=>(by rw [hs] at h; cases h),fun s' e _=>?_⟩;cases e;have b8:=(List.getElem?_eq_some_iff.mp ht).1;refine ⟨fun h=>absurd b8 (h k rfl),fun k' t' e ht'=>?_⟩;cases e;rw [ht] at ht';cases ht';exact q
end
theorem Fz (h:k∈l):gb k l=true:=List.any_eq_true.mpr ⟨k,h,by simp⟩
theorem wA (h:k ∉ l):gb k l=false:=by
 unfold gb;rw [List.any_eq_false];intro x hx e;exact h (by rw [<- eq_of_beq e]; exact hx)
inductive mB (c:Wd) (S:Ws) (k:Nat):Ws->Option Tl->Prop
 | ring:k∈S.aX->mB c S k S (some (.ring (jB (S.aX.drop (S.aX.idxOf k)))))
 | many:k ∉ S.aX->S.read=40->mB c S k S (some (.fail "many"))
 | read {S'}:k ∉ S.aX->S.read≠40->sW c S k S'->mB c S k S' none
def OV (N:Cn):Sp:=iy fun x n H Q _=>X6 fun c S lf (k:Nat) S' o=>A7 (c.x=x) (n=(k:Int)) (bc N c S H lf .au) (S.left.length<=8000) (S.aX.length<=400) (mB c.toWd S k S' o) (rZ N c S' lf o (Q .au))
theorem Zz:T.sP.k P w mg base 8 (OV T.cn):=by
 refine T.sP.F.ok Qq (fun _ _ _ _ h=>cv h fun _ _ _=>rfl) fun _ A _ s H vs Q E hr h=>cv h fun x n h=>?_;obtain ⟨c,S,lf,k,S',o,rfl,rfl,v,hl,gG,hR,q⟩:=h;refine bD (b:=aV CQ) ((ai (aW (aZ (wN (K:=K) rfl) (ad 1) (bi T.aL T.pk (ad 0))) (ai (bG T.aL T.lS (ad 0) (im T.So (Yp T) hr.m T.G0 T.sJ.b .nil aq (aa (bn (Pk T) hr.m T.pj.m T.pj.F.kp T.pj.b .nil aq (aa (ge (mm (K:=K) rfl) (bi T.aL T.pk (ad 0)) (iu (fo PySem.F.slot_list_index PySem.F.type_list_index (As (K:=K) rfl) (bi T.aL T.pk (ad 0)) (aa (ad 1) ae))) jC) ae)) ae)))) (ai (aW (aZ cP (bi T.aL T.B9 (ad 0)) (db (.int 40) T.OB ⟨_,rfl⟩)) (ai (aU (bf T.aL T.hJ.h (ud T) hr.m T.hJ.b .nil aq (ad 0) (aa ap ae)))) (ai (aU (bf T.aL T.tP.h (NC T) hr.m T.tP.b .nil aq (ad 0) (aa (ad 1) ae))))))))) ?_;refine stI [some (V.ref c.x),some (V.int (k:Int))] ?_;obtain ⟨fs,pv,hx,aP,sf⟩:=v.fld;left;refine (fI hx sf rfl ⟨_,.inl (aC.of v.od),rfl,by simp [cN],?_⟩);rw [kJ];cases hR with
 | many hk hm =>
  rw [wA hk];refine aY (fI hx sf rfl ?_);refine bX (decide_eq_true (by omega)) (mI hx sf ⟨c,S,lf,rfl,v,q⟩)
 | read hk hm hR =>
  rw [wA hk];refine aY (fI hx sf rfl ?_);refine bL (decide_eq_false (by omega)) (mI hx sf ⟨c,S,lf,k,_,rfl,rfl,v,hl,by omega,hR,q.n rfl⟩)
 | ring hk =>
  rw [Fz hk];refine bT (fI hx sf rfl (fI hx sf rfl ?_));simp only [v.od];refine ⟨_,aC.of (by rw [v.od,wK]),mem_cast hk,nV S.aX,aC.of v.od,fun p hp=>?_⟩;rw [pZ,vY];have e1:List.drop (S.aX.idxOf k) (nV S.aX)=nV (S.aX.drop (S.aX.idxOf k)):=by unfold nV; rw [List.map_drop]
  rw [e1];refine c8 (o:=.lst (nV (S.aX.drop (S.aX.idxOf k)))) hp fun H1 s1 b1=>?_;have hj:S.aX.idxOf k < S.aX.length:=List.idxOf_lt_length_iff.mpr hk;refine ⟨_,b1,fun e=>by have:=congrArg List.length e; simp at this; omega,by simp; omega,fun l2 H2 s2 l20 cm=>?_⟩;intro fd bF bt hdfd nfd;have v2:=(v.same s1).same s2;have s4:=(ah.upd (o:=.own fd) hdfd).trans (ah.upd (p:=fd) (o:=.ins T.dS bF []) (by rw [ag (Ne.symm nfd)]; exact bt));have b4:upd (upd H2 bF (.own fd)) fd (.ins T.dS bF []) fd=some (.ins T.dS bF []):=ax;generalize upd (upd H2 bF (.own fd)) fd (.ins T.dS bF [])=H4 at s4 b4 ⊢;refine ⟨bF,_,b4,s4 _ _ cm,fun rl eE=>?_⟩;have s5:=s4.trans (ah.upd (o:=.lst (nV (jB (S.aX.drop (S.aX.idxOf k))))) eE);have b5:upd H4 rl (.lst (nV (jB (S.aX.drop (S.aX.idxOf k))))) fd=some (.ins T.dS bF []):=by rw [ag (aK b4 eE)]; exact b4
  have c5:upd H4 rl (.lst (nV (jB (S.aX.drop (S.aX.idxOf k))))) rl=some (.lst (nV (jB (S.aX.drop (S.aX.idxOf k))))):=ax;have nr:=aK b4 eE;generalize upd H4 rl (.lst (nV (jB (S.aX.drop (S.aX.idxOf k)))))=H5 at s5 b5 c5 ⊢;obtain ⟨va,gL,gE,v6,f0,nx⟩:=v2.tells (t:=.ring []) (F:=ay "leads" (.ref rl) []) bt s5 b5;have nrx:rl≠c.x:=fun e=>by rw [e] at c5; obtain ⟨MZ,pv7,uG,_⟩:=(v2.same s5).fld; rw [uG] at c5; cases c5
  exact ⟨rfl,c.x,_,_,rfl,gL,gE,q.y _ rfl fd _ v6 ⟨f0,bF,rl,by rw [ag (Ne.symm nx),ax],by rw [ag nrx,ag (Ne.symm nr)]; exact c5⟩⟩
inductive pF (c:Wd) (S:Ws) (t:Th) (p:Str):Ws->Option Tl->Prop
 | no:aF (sD t.bb) (.inr p)=none->pF c S t p { S with look:=S.look+1 } (some (.fail "none"))
 | folder {k a tc b r}:aF (sD t.bb) (.inr p)=some (.int ((k:Nat):Int))->c.L[k]?=some a->c.M.ts[k]?=some tc->tc.kd=("folder" : Str)->dh c.M k b r->pF c S t p { S with look:=S.look+1,here:=dM b r } none
 | fin {k a tc}:aF (sD t.bb) (.inr p)=some (.int ((k:Nat):Int))->c.L[k]?=some a->c.M.ts[k]?=some tc->tc.kd≠("folder" : Str)->(tc.kd=("file" : Str)\/S.left=[]/\c.last=false)->pF c S t p { S with look:=S.look+1,place:=some (S.here,p),here:=k } none
 | lead {k a tc S' o}:aF (sD t.bb) (.inr p)=some (.int ((k:Nat):Int))->c.L[k]?=some a->c.M.ts[k]?=some tc->tc.kd≠("folder" : Str)->tc.kd≠("file" : Str)->¬ (S.left=[]/\c.last=false)->mB c { S with look:=S.look+1 } k S' o->pF c S t p S' o
theorem zh {T:Tx K mg} {c:Wc} {S:Ws} {H:Hp} {lf:Addr} {k:Nat} {nm:Str} {v3:Option V} {R:Hp->Prop} {Q:VK} (v2:bc T.cn c S H lf .au) (q:∀ H',bc T.cn c { S with place:=some (S.here,nm),here:=k } H' lf .au->R H') :
  nh (uf T.bB "place" (fh 0) (ko (fD (wg T.bB "here" (fh 0)) (fD (fh 1) fR)))) (uf T.bB "here" (fh 0) (fh 2)) { nx:=fun _ H'=>R H',rt:=Q } [some (V.ref c.x),some (V.str nm),some (V.int (k:Int)),v3] H:=by
 obtain ⟨ia,oF,b7,gI,cb⟩:=v2.fld;refine aj ?_;left;refine (fI b7 cb rfl ⟨fits (by simp),fun p hp=>?_⟩);have w3:=v2.same (ah.upd (o:=.tup [V.int (S.here:Int),V.str nm]) hp);have b3:upd H p (.tup [V.int (S.here:Int),V.str nm]) p=some (.tup [V.int (S.here:Int),V.str nm]):=ax;have p0:=v2.fresh hp;generalize upd H p (.tup [V.int (S.here:Int),V.str nm])=H3 at w3 b3 ⊢;obtain ⟨gB,da,fP,v4⟩:=w3.placed p0 b3;refine ⟨c.x,_,_,rfl,da,fP,?_⟩;generalize upd H3 c.x _=H4 at v4 ⊢;obtain ⟨rn,i8,oB,_,v5⟩:=v4.put "here" (.int (k:Int)) { S with place:=some (S.here,nm),here:=k } .au _;exact ⟨c.x,_,_,rfl,i8,oB,q _ v5⟩
def YB (N:Cn):Sp:=gY fun x nm H Q _=>X7 fun c S lf a t S' o=>xA (c.x=x) (bc N c S H lf .au) (c.L[S.here]?=some a) (c.M.ts[S.here]?=some t) (fF (.str nm)=true) (nm.length<=1000) (S.left.length<=8000) (S.aX.length<=400) (pF c.toWd S t nm S' o) (rZ N c S' lf o (Q .au))
theorem VF:T.uz.k P w mg base 9 (YB T.cn):=by
 refine T.uz.F.ok z9 (fun _ _ _ _ h=>dz h fun _ _ _=>rfl) fun _ A _ s H vs Q E hr h=>dz h fun x nm h=>?_;obtain ⟨c,S,lf,a,t,S',o,rfl,v,ha,aQ,hn,ik,ve,gG,hb,q⟩:=h;refine bD (b:=aV C7) ((al (kE T.aL T.Jo kj (ad 0) am)
 (al (aR 2 z9.nd (bf T.aI T.j5.h (Cb T) hr.m T.j5.b .nil aq (bi T.aL T.fq (ad 0)) (aa (bi T.aL T.fG (ad 0)) (aa (ad 1) ae))))
 (al (aW (aZ qk (ad 2) au) (al (aU (bf T.aL T.hJ.h (ud T) hr.m T.hJ.b .nil aq (ad 0) (aa ap ae)))
 (ai Hb)) ce)
 (al (aR 3 z9.nd (bf T.aI T.f7.h (qo T) hr.m T.f7.b .nil aq (bi T.aL T.fq (ad 0)) (aa (ad 2) ae)))
 (ai (aW (aZ cP (ad 3) (db (.str "folder") T.sv ⟨_,rfl⟩)) (ai (bG T.aL T.fG (ad 0) (bn (xv T) hr.m T.fV.m T.fV.F.kp T.fV.b .nil aq (aa (bi T.aL T.fq (ad 0)) (aa (ad 2) ae))))) (ai (aW (eA (gl (aZ cP (ad 3) (db (.str "file") T.Dp ⟨_,rfl⟩)) (jo (eA (f8 (aZ (GO (K:=K) rfl hr.gg) (bi T.aL T.m5 (ad 0)) (ci ae)) (jz (c9 (cK (bi T.aL T.Fo (ad 0)))))))))) (al (bG T.aL T.vT (ad 0) (dl (aa (bi T.aL T.fG (ad 0)) (aa (ad 1) ae))))
 (ai (bG T.aL T.fG (ad 0) (ad 2)))) (ai (aU (bf T.aL T.sP.h (Zz T) hr.m T.sP.b .nil aq (ad 0) (aa (ad 2) ae))))))))))))) ?_
 refine stI [some (V.ref c.x),some (V.str nm),none,none] ?_;obtain ⟨fs,hx,aP,i9,v1⟩:=v.put "looked_up" (.int ((S.look:Int)+1)) { S with look:=S.look+1 } .au _;refine aj ?_;left;refine ⟨c.x,_,_,_,rfl,hx,i9,_,_,rfl,rfl,_,_,hx,aP,aj ?_⟩;generalize upd H c.x (.ins T.bB c.dx (ay "looked_up" (.int ((S.look:Int)+1)) fs))=H1 at v1 ⊢;obtain ⟨gm,ym,bx,gK,cE⟩:=v1.fld;obtain ⟨mH,hc,hh,qX,ig⟩:=v1.m.h;left;refine (fI bx cE rfl (mI hh ig (fI bx cE rfl ⟨c.A,c.L,c.M,S.here,a,t,v1.m,rfl,rfl,ha,aQ,hn,ik,fun H2 s2=>?_⟩)));have v2:=v1.same s2;obtain ⟨ia,oF,b7,gI,cb⟩:=v2.fld;obtain ⟨hfs2,jc,Mw,hhl2,hsf2⟩:=v2.m.h;by_cases jX:aF (sD t.bb) (.inr nm)=none
 ·have he:S'={ S with look:=S.look+1 }/\o=some (.fail "none"):=by
   cases hb with
   | no _=>exact ⟨rfl,rfl⟩
   | folder h1=>rw [jX] at h1; cases h1
   | fin h1=>rw [jX] at h1; cases h1
   | lead h1=>rw [jX] at h1; cases h1
  obtain ⟨rfl,rfl⟩:=he;rw [jX];refine aj ?_;left;refine ⟨by trivial,bT ?_⟩;refine aj ?_;left;exact (mI b7 cb ⟨c,_,lf,rfl,v2,q⟩)
 obtain ⟨k,ak,tc,hv,cQ,bN⟩:∃ k a tc,aF (sD t.bb) (.inr nm)=some (.int ((k:Nat):Int))/\c.L[k]?=some a/\c.M.ts[k]?=some tc:=by
  cases hb with
  | no h=>exact absurd h jX
  | folder h1 h2 h3=>exact ⟨_,_,_,h1,h2,h3⟩
  | fin h1 h2 h3=>exact ⟨_,_,_,h1,h2,h3⟩
  | lead h1 h2 h3=>exact ⟨_,_,_,h1,h2,h3⟩
 rw [hv];refine aj ?_;left;refine ⟨by trivial,?_⟩;rw [decide_eq_false (by nofun)];refine aY ?_;refine aj ?_;left;refine (fI b7 cb rfl (mI Mw hsf2 ⟨c.A,c.L,c.M,k,ak,tc,v2.m,rfl,rfl,cQ,bN,?_⟩));simp only [ka];cases hb with
 | no h=>exact absurd h jX
 | folder h1 h2 h3 cj aO =>
  rw [hv] at h1; cases jE h1; rw [bN] at h3; cases h3;simp only [cj,decide_true];left;refine (fI b7 cb rfl ⟨c.A,c.L,c.M,k,_,_,ak,_,v2.m,rfl,rfl,cQ,bN,aO,fun H3 s3=>?_⟩);obtain ⟨gB,da,fP,_,v3⟩:=(v2.same s3).put "here" _ { S with look:=S.look+1,here:=dM _ _ } .au _;exact ⟨c.x,_,_,rfl,da,fP,q.n rfl _ v3⟩
 | fin h1 h2 h3 cj hf =>
  rw [hv] at h1; cases jE h1; rw [bN] at h3; cases h3;rw [decide_eq_false cj];refine aY ?_;left;rcases hf with hf | ⟨hle,DN⟩
  ·exact bX (decide_eq_true hf) ((if_pos trivial).mpr (zh v2 (q.n rfl)))
  ·by_cases hf:tc.kd=("file" : Str)
   ·exact bX (decide_eq_true hf) ((if_pos trivial).mpr (zh v2 (q.n rfl)))
   refine bL (decide_eq_false hf) (fI b7 cb rfl ⟨fits (by simp),fun d hd=>?_⟩);have v3:=v2.same (ah.upd (o:=.lst []) hd);have b3:upd H2 d (.lst []) d=some (.lst []):=ax;generalize upd H2 d (.lst [])=H3 at v3 b3 ⊢;obtain ⟨gB,oG,da,fP,dA⟩:=v3.fld;refine ⟨_,[],aC.of v3.ol,aC.of b3,.inl ⟨rfl,?_⟩⟩;refine bX (by rw [show ({ S with look:=S.look+1 }:Ws).left=[] from hle]; rfl) (fI da dA rfl (bX (by rw [DN]; rfl) (zh v3 (q.n rfl))))
 | lead h1 h2 h3 cj dC ik hm =>
  rw [hv] at h1; cases jE h1; rw [bN] at h3; cases h3;rw [decide_eq_false cj];refine aY ?_;left;refine bL (decide_eq_false dC) (fI b7 cb rfl ⟨fits (by simp),fun d hd=>?_⟩);have v3:=v2.same (ah.upd (o:=.lst []) hd);have b3:upd H2 d (.lst []) d=some (.lst []):=ax;generalize upd H2 d (.lst [])=H3 at v3 b3 ⊢;obtain ⟨gB,oG,da,fP,dA⟩:=v3.fld;refine ⟨_,[],aC.of v3.ol,aC.of b3,.inl ⟨rfl,?_⟩⟩;by_cases hle:S.left=[]
  ·refine bX (by rw [show ({ S with look:=S.look+1 }:Ws).left=[] from hle]; rfl) (fI da dA rfl ?_);refine bL (by cases hb:c.last with | false=>exact absurd ⟨hle,hb⟩ ik | true=>rfl) ?_;exact (mI da dA ⟨c,_,lf,k,S',o,rfl,rfl,v3,ve,gG,hm,q⟩)
  ·refine bL (by cases h:S.left with | nil=>exact absurd h hle | cons _ _=>rfl) (aY ?_);exact (mI da dA ⟨c,_,lf,k,S',o,rfl,rfl,v3,ve,gG,hm,q⟩)
structure w8 (c:Wd) (S:Ws) (t:Th):Prop where
 l:∃ a,c.L[S.here]?=some a
 e:c.M.ts[S.here]?=some t
 k:t.kd=("folder" : Str)
 g:fb ("g" : Str) (eG t c.z)=true
def dH (S:Ws):Ws:={ S with step:=S.step+1,asked:=S.asked++[S.here] }
inductive ed (c:Wd) (S:Ws) (p:Str):Ws->Option Tl->Prop
 | flat {a t}:c.L[S.here]?=some a->c.M.ts[S.here]?=some t->t.kd≠("folder" : Str)->ed c S p { S with step:=S.step+1 } (some (.fail "flat"))
 | kK {a t}:c.L[S.here]?=some a->c.M.ts[S.here]?=some t->t.kd=("folder" : Str)->fb ("g" : Str) (eG t c.z)=false->ed c S p (dH S) (some (.fail "shut"))
 | dot {t}:w8 c S t->p=("." : Str)->ed c S p (dH S) none
 | up {t h}:w8 c S t->p=(".." : Str)->vU c S.here h->ed c S p { dH S with here:=h } none
 | go {t S' o}:w8 c S t->p≠(".." : Str)->p≠("." : Str)->fF (.str p)=true->p.length<=1000->pF c (dH S) t p S' o->ed c S p S' o
def Rn (N:Cn):Sp:=gY fun x p H Q _=>X5 fun c S lf S' o=>A7 (c.x=x) (bc N c S H lf .au) (S.asked.length<=8000) (S.left.length<=8000) (S.aX.length<=400) (ed c.toWd S p S' o) (rZ N c S' lf o (Q .au))
theorem VO:T.uy.k P w mg base 10 (Rn T.cn):=by
 refine T.uy.F.ok ZG (fun _ _ _ _ h=>dz h fun _ _ _=>rfl) fun _ A _ s H vs Q E hr h=>dz h fun x p h=>?_;obtain ⟨c,S,lf,S',o,rfl,v,hn,ve,gG,hp,q⟩:=h;obtain ⟨a,t,ha,aQ⟩:∃ a t,c.L[S.here]?=some a/\c.M.ts[S.here]?=some t:=by
  cases hp with
  | flat h1 h2=>exact ⟨_,_,h1,h2⟩
  | kK h1 h2=>exact ⟨_,_,h1,h2⟩
  | dot h=>obtain ⟨a,e⟩:=h.l; exact ⟨a,_,e,h.e⟩
  | up h=>obtain ⟨a,e⟩:=h.l; exact ⟨a,_,e,h.e⟩
  | go h=>obtain ⟨a,e⟩:=h.l; exact ⟨a,_,e,h.e⟩
 refine bD (b:=aV Ap) ((al (kE T.aL T.Ay kj (ad 0) am)
 (al (aW (aZ lK (bf T.aI T.f7.h (qo T) hr.m T.f7.b .nil aq (bi T.aL T.fq (ad 0)) (aa (bi T.aL T.fG (ad 0)) ae)) (db (.str "folder") T.sv ⟨_,rfl⟩)) (al (aU (bf T.aL T.hJ.h (ud T) hr.m T.hJ.b .nil aq (ad 0) (aa ap ae)))
 (ai Hb)) ce)
 (al (aU (fo PySem.F.slot_list_append PySem.F.type_list_append js (bi T.aL T.y3 (ad 0)) (aa (bi T.aL T.fG (ad 0)) ae)))
 (ai (aW (c9 (cK (ef T.aI T.kf.h (BU T) hr.m T.kf.b .nil fW (bi T.aL T.fq (ad 0)) (aa (bi T.aL T.ux (ad 0)) (aa (bi T.aL T.fG (ad 0)) (aa ap ae)))))) (ai (aU (bf T.aL T.hJ.h (ud T) hr.m T.hJ.b .nil aq (ad 0) (aa ap ae)))) (ai (aW (aZ cP (ad 1) ap) (ai (aU (pe T.aL T.tq.h (Qe T) hr.m T.tq.b .nil aq (ad 0)))) (ai (aW (aZ lK (ad 1) ap) (ai (aU (bf T.aL T.uz.h (VF T) hr.m T.uz.b .nil aq (ad 0) (aa (ad 1) ae)))) ce)))))))))) ?_
 refine stI [some (V.ref c.x),some (V.str p)] ?_;obtain ⟨fs,hx,aP,i9,v1⟩:=v.put "step" (.int ((S.step:Int)+1)) { S with step:=S.step+1 } .au _;refine aj ?_;left;refine ⟨c.x,_,_,_,rfl,hx,i9,_,_,rfl,rfl,_,_,hx,aP,aj ?_⟩;generalize upd H c.x (.ins T.bB c.dx (ay "step" (.int ((S.step:Int)+1)) fs))=H1 at v1 ⊢;obtain ⟨gm,ym,bx,gK,cE⟩:=v1.fld;obtain ⟨mH,hc,hh,qX,ig⟩:=v1.m.h;left;refine (fI bx cE rfl (mI hh ig (fI bx cE rfl ⟨c.A,c.L,c.M,S.here,a,t,v1.m,rfl,rfl,ha,aQ,?_⟩)));simp only [ka];by_cases cj:t.kd=("folder" : Str)
 ·simp only [cj,decide_true];refine aY ?_;refine aj ?_;left;refine (fI bx cE rfl ?_);simp only [v1.oa];refine (fI bx cE rfl ?_);have v2:=v1.R7 S.here;refine ⟨Nat.lt_of_lt_of_le (Nat.lt_succ_self _) (rB (by simp; omega)),?_⟩;dsimp only at v2;generalize upd H1 c.av (.lst (nV S.asked++[.int (S.here:Int)]))=H2 at v2 ⊢;obtain ⟨ia,oF,b7,gI,cb⟩:=v2.fld;obtain ⟨mM,gc,gh,mK,fk⟩:=v2.m.h;refine (fI b7 cb rfl (mI gh fk (fI b7 cb rfl (fI b7 cb rfl (zy v2.m (by rw [v2.hz]; rfl) (by decide +kernel) aQ ?_)))));cases hp with
  | flat h1 h2 h3=>rw [aQ] at h2; cases h2; exact absurd cj h3
  | kK h1 h2 h3 h4 =>
   rw [aQ] at h2; cases h2;rw [h4];exact bT (mI b7 cb ⟨c,_,lf,rfl,v2,q⟩)
  | dot hA h5 =>
   have h2:=hA.e; rw [aQ] at h2; cases h2;subst h5;rw [hA.g];exact aY (bL (decide_eq_false (by decide +kernel)) (bL (by rw [decide_eq_true rfl]; rfl) (q.n rfl _ v2)))
  | up hA h5 hu =>
   have h2:=hA.e; rw [aQ] at h2; cases h2;subst h5;rw [hA.g];exact aY (bX (decide_eq_true rfl) (mI b7 cb ⟨c,_,lf,_,rfl,v2,hu,q.n rfl⟩))
  | go hA h5 h6 h7 h8 hb =>
   have h2:=hA.e; rw [aQ] at h2; cases h2;rw [hA.g];exact aY (bL (decide_eq_false h5) (bX (by rw [decide_eq_false h6]; rfl) (mI b7 cb ⟨c,_,lf,a,_,_,_,rfl,v2,ha,aQ,h7,h8,ve,gG,hb,q⟩)))
 ·refine bX (by rw [decide_eq_false cj]; rfl) ?_;refine aj ?_;left;have hf:S'={ S with step:=S.step+1 }/\o=some (.fail "flat"):=by
   cases hp with
   | flat h1 h2 h3=>exact ⟨rfl,rfl⟩
   | kK h1 h2 h3 h4=>rw [aQ] at h2; cases h2; exact absurd h3 cj
   | dot hA=>have h2:=hA.e; rw [aQ] at h2; cases h2; exact absurd hA.k cj
   | up hA=>have h2:=hA.e; rw [aQ] at h2; cases h2; exact absurd hA.k cj
   | go hA=>have h2:=hA.e; rw [aQ] at h2; cases h2; exact absurd hA.k cj
  obtain ⟨rfl,rfl⟩:=hf;exact (mI bx cE ⟨c,_,lf,rfl,v1,q⟩)
theorem BN (c:Nat):∀ (ns:List Str) (n:Nat),(∀ s∈ns,s.length<=8)->ns.foldl (fun n z=>n+z.length+c) n<=n+(8+c) * ns.length
 | [],n,_=>by simp
 | y::r,n,h=>by
  have h1:=h y (by simp);have h2:=BN c r (n+y.length+c) fun s hs=>h s (by simp [hs]);rw [List.foldl_cons,List.length_cons,Nat.mul_add];omega
theorem LA (h:∀ s∈ns,s.length<=8) (hl:ns.length<=100):ns.foldl (fun n z=>n+z.length+(Str.ofString "/").length) 0<=900/\(Str.join (Str.ofString "/") ns).length<=900:=by
 have lj:(Str.ofString "/").length=1:=by decide +kernel
 have h1:=BN 1 ns 0 h;have h2:=StrLaws.join_length_le (Str.ofString "/") ns;have h3:(ns.map (·.length)).sum<=8 * ns.length:=by
  clear h1 h2 hl
  induction ns with
  | nil=>simp
  | cons y r ih =>
   have:=ih fun s hs=>h s (by simp [hs]);have h4:=h y (by simp);rw [List.map_cons,List.sum_cons,List.length_cons];omega
 rw [lj] at h2 ⊢;omega
def gQ (ns:List Str):Str:=Str.ofString "/" ++ Str.join (Str.ofString "/") ns
def VG (N:Cn):Sp:=iU fun x H Q _=>X9 fun c S lf (f:Nat) (a:Ta) (t:Th) (ns:List Str) (bS:List Str) (told:V)=>A9 (c.x=x) (bc N c S H lf told) (c.L[S.here]?=some a) (c.M.ts[S.here]?=some t) (t.kd=("folder" : Str)/\f=S.here/\bS=[]\/t.kd≠("folder" : Str)/\∃ nm:Str,S.place=some (f,nm)/\bS=[nm]/\nm.length<=8) (∃ m,gZ c.M c.L c.root m f ns) (ns.length<=99) (∀ s∈ns,s.length<=8) (∀ H',ah H H'->Q (.str (gQ (ns++bS))) H')
theorem YT:T.tR.k P w mg base 7 (VG T.cn):=by
 refine T.tR.F.ok sy (fun _ _ _ _ h=>eD h fun _ _=>rfl) fun _ A _ s H vs Q E hr h=>eD h fun x h=>?_;obtain ⟨c,S,lf,f,a,t,ns,bS,told,rfl,v,ha,aQ,hk,gP,hl100,Eg,q⟩:=h;refine bD (b:=aV zr) ((al (aR 1 sy.nd (ci ae))
 (al (aR 2 sy.nd (bi T.aL T.fG (ad 0)))
 (al (aW (aZ lK (bf T.aI T.f7.h (qo T) hr.m T.f7.b .nil aq (bi T.aL T.fq (ad 0)) (aa (bi T.aL T.fG (ad 0)) ae)) (db (.str "folder") T.sv ⟨_,rfl⟩)) (al (aR 2 sy.nd (bv (bC (K:=K) rfl) (bi T.aL T.vT (ad 0)) am))
 (ai (aR 1 sy.nd (ci (aa (bv (bC (K:=K) rfl) (bi T.aL T.vT (ad 0)) am) ae))))) ce)
 (ai (aM (cr dQ ap (nK PySem.F.slot_str_join PySem.F.type_str_join (Cw (K:=K) rfl) ap (aa (cr dQ (bn (QZ T) hr.m T.qD.m T.qD.F.kp T.qD.b .nil aq (aa (bi T.aL T.fq (ad 0)) (aa (bi T.aL T.ux (ad 0)) (aa (ad 2) ae)))) (ad 1)) ae))))))))) ?_
 refine stI [some (V.ref c.x),none,none] ?_;refine aj ?_;left;refine ⟨fits (by simp),fun ln yl=>?_⟩;refine c8 (o:=.lst []) yl fun H1 s1 b1=>?_;have v1:=v.same s1;obtain ⟨fs,pv,hx,aP,Nm,sf⟩:=v1.o;obtain ⟨mH,hc,hh,qX,ig⟩:=v1.m.h;refine aj ?_;left;refine (fI hx sf rfl ?_);refine fe (fun σ' H'=>∃ ln',σ'=[some (V.ref c.x),some (V.ref ln'),some (V.int (f:Int))]/\ah H H'/\H' ln'=some (.lst (bS.map V.str))/\bS.length<=1/\∀ s∈bS,s.length<=8) ?_ ?_
 ·left;refine (fI hx sf rfl (mI hh ig (fI hx sf rfl ⟨c.A,c.L,c.M,S.here,a,t,v1.m,rfl,rfl,ha,aQ,?_⟩)));simp only [ka];rcases hk with ⟨cj,rfl,rfl⟩ | ⟨cj,nm,bj,rfl,bZ⟩
  ·refine bL (by rw [decide_eq_true cj]; rfl) ?_;exact ⟨ln,rfl,s1,b1,by simp,fun s hs=>(by cases hs)⟩
  ·refine bX (by rw [decide_eq_false cj]; rfl) ?_;rw [bj] at Nm;obtain ⟨p,rfl,p0,hp⟩:=Nm;refine aj ?_;left;refine (fI hx sf rfl ?_);simp only [bI,hp,df];refine (fI hx sf rfl ?_);simp only [hp,uv];exact ⟨fits (by simp),fun p2 cJ=>⟨p2,rfl,s1.trans (ah.upd cJ),by rw [ax]; rfl,by simp,fun s hs=>by rw [List.mem_singleton.mp hs]; exact bZ⟩⟩
 rintro σ' H2 ⟨l2,rfl,s2,b2,kq,h8⟩;have v2:=v.same s2;obtain ⟨ia,oF,b7,gI,cb⟩:=v2.fld;left;refine (fI b7 cb rfl (fI b7 cb rfl ⟨c.A,c.L,c.M,f,c.root,ns,v2.m,rfl,rfl,v2.hz,gP,by omega,fun l H3 s3 hl=>?_⟩));have c3:=s3 _ _ b2;simp only [hl,c3];have hn8':∀ s∈ns++bS,s.length<=8:=fun s hs=>by
  rcases List.mem_append.mp hs with hs | hs
  ·exact Eg s hs
  ·exact h8 s hs
 obtain ⟨n9,oy⟩:=LA hn8' (by rw [List.length_append]; omega);have lj:(Str.ofString "/").length=1:=by decide +kernel
 refine ⟨fits (by simp only [List.length_map]; omega),fun p hp=>?_⟩;refine ⟨_,aC.of ax,ns++bS,by simp,?_⟩;exact ⟨fits (by omega),fits (by omega),q _ ((s2.trans s3).trans (ah.upd hp))⟩
structure Bd (S:Ws):Prop where
 a:S.asked.length<=S.step
 p:S.step+S.left.length+125 * (40 - S.read)<=8000
 r:S.aX.length<=S.read
 q:S.read<=40
theorem xl (ps:List Str):(cu ps).length=ps.length:=by unfold cu; simp
theorem sW.bd (h:sW c S k S') (a:S.asked.length<=S.step) (p:S.step+S.left.length+125 * (40 - S.read)<=8000) (r:S.aX.length<=S.read) (q:S.read < 40):Bd S':=by
 cases h with
 | @mk _ _ t _ _ _ _ h1 h2 h3 h4 h5 h6 h7 _ _ _ =>
  have e:=xl (cL t);refine ⟨a,?_,by unfold gv; simp; omega,by unfold gv; simp; omega⟩;unfold gv;simp only [List.length_append,List.length_cons,List.length_nil,e];omega
theorem ed.Jy (ba:S.asked.length<=S.step) (bp:S.step+1+S.left.length+125 * (40 - S.read)<=8000) (br:S.aX.length<=S.read) (bq:S.read<=40) (h:ed c S p S1 o):Bd S1:=by
 cases h with
 | flat=>exact ⟨by dsimp only; omega,by dsimp only; omega,br,bq⟩
 | kK=>exact ⟨by unfold dH; simp; omega,by unfold dH; dsimp only; omega,br,bq⟩
 | dot=>exact ⟨by unfold dH; simp; omega,by unfold dH; dsimp only; omega,br,bq⟩
 | up=>exact ⟨by unfold dH; simp; omega,by unfold dH; dsimp only; omega,br,bq⟩
 | go _ _ _ _ _ hb =>
  have a2:(dH S).asked.length<=(dH S).step:=by unfold dH; simp; omega
  have p2:(dH S).step+(dH S).left.length+125 * (40 - (dH S).read)<=8000:=by unfold dH; dsimp only; omega
  cases hb with
  | no=>exact ⟨a2,p2,br,bq⟩
  | folder=>exact ⟨a2,p2,br,bq⟩
  | fin=>exact ⟨a2,p2,br,bq⟩
  | lead _ _ _ _ _ _ hm =>
   cases hm with
   | ring=>exact ⟨a2,p2,br,bq⟩
   | many=>exact ⟨a2,p2,br,bq⟩
   | read _ mX hr=>exact hr.bd a2 p2 br (Nat.lt_of_le_of_ne bq mX)
theorem ed.bd (b:Bd S) (e:S.left=l++[.inr p]) (h:ed c { S with left:=l } p S1 o):Bd S1:=by
 have bp:=b.p;rw [e,List.length_append] at bp;have e1:[Sum.inr (α:=Nat) p].length=1:=rfl;exact ed.Jy (S:={ S with left:=l }) b.a (by dsimp only; omega) b.r b.q h
inductive ee (c:Wd):Nat->Ws->Ws->Option Tl->Prop
 | done {S}:S.left=[]->ee c 0 S S none
 | pop {n S k l r j S' o}:S.left=l++[.inl k]->S.aX=r++[j]->ee c n { S with left:=l,aX:=r } S' o->ee c (n+1) S S' o
 | step {n S p l S1 S' o}:S.left=l++[.inr p]->ed c { S with left:=l } p S1 none->ee c n S1 S' o->ee c (n+1) S S' o
 | fail {S p l S1 y}:S.left=l++[.inr p]->ed c { S with left:=l } p S1 (some y)->ee c 0 S S1 (some y)
abbrev z7 (k:Nat) (ns:List Str):List (Str×V):=ay "way" (.str (gQ ns)) (ay "number" (.int (k:Int)) [])
def sR (M:Hs) (L:List Ta) (root:Nat) (S:Ws) (ns bS:List Str):Prop:=∃ (f:Nat) (a:Ta) (t:Th),L[S.here]?=some a/\M.ts[S.here]?=some t /\
   (t.kd=("folder" : Str)/\f=S.here/\bS=[]\/t.kd≠("folder" : Str)/\∃ nm:Str,S.place=some (f,nm)/\bS=[nm]/\nm.length<=8)/\(∃ m,gZ M L root m f ns)/\ns.length<=99/\(∀ s∈ns,s.length<=8)
def NM (N:Cn):Sp:=iU fun x H Q _=>X6 fun c S lf n S' o=>A6 (c.x=x) (bc N c S H lf .au) (Bd S) (ee c.toWd n S S' o) (∀ y,o=some y->∀ fd H',bc N c S' H' lf (.ref fd)->rS N c.H0 H' S'.step fd y->Q .au H') (o=none->∃ ns bS,sR c.M c.L c.root S' ns bS/\∀ fd bF H',bc N c S' H' lf (.ref fd)->c.H0 fd=none->H' fd=some (.ins N.CG bF (z7 S'.here (ns++bS)))->Q .au H')
theorem P8:T.tW.k P w mg base 11 (NM T.cn):=by
 refine T.tW.F.ok Gu (fun _ _ _ _ h=>eD h fun _ _=>rfl) fun _ A _ s H vs Q E hr h=>eD h fun x h=>?_;obtain ⟨c,S,lf,n,S',o,rfl,v,ej,fM,q1,q2⟩:=h;refine bD (b:=aV z8) ((al (kZ PassesOwn.never (eA (f8 (aZ qk (bi T.aL T.lS (ad 0)) au) (jz (aZ (HN (K:=K) rfl hr.gg) (bi T.aL T.m5 (ad 0)) (ci ae))))) (al (aR 1 Gu.nd (Ge PySem.F.slot_list_pop PySem.F.type_list_pop HK (bi T.aL T.m5 (ad 0))))
 (ai (aW (cK (bn (HS T) hr.m T.ky.m T.ky.F.kp T.ky.b .nil aq (aa (ad 1) ae))) (ai (aU (Ge PySem.F.slot_list_pop PySem.F.type_list_pop HK (bi T.aL T.pk (ad 0))))) (ai (aU (bf T.aL T.uy.h (VO T) hr.m T.uy.b .nil aq (ad 0) (aa (ad 1) ae))))))))
 (ai (aW (aZ qk (bi T.aL T.lS (ad 0)) au) (ai (bG T.aL T.lS (ad 0) (im T.ZO (U4 T) hr.m T.Dm T.tT.b .nil aq (aa (bi T.aL T.fG (ad 0)) (aa (pe T.aL T.tR.h (YT T) hr.m T.tR.b .nil aq (ad 0)) ae))))) ce)))) ?_
 refine stI [some (V.ref c.x),none] ?_;obtain ⟨PV,ly⟩:∃ PV:Nat->St->Hp->Prop,PV=fun m σ' H'=>∃ pv:Option V,σ'=[some (V.ref c.x),pv] /\
   ((∃ n S,m=n+1/\bc T.cn c S H' lf .au/\Bd S/\ee c.toWd n S S' o) \/
     (∃ y fd,m=0/\o=some y/\bc T.cn c S' H' lf (.ref fd)/\rS T.cn c.H0 H' S'.step fd y)):=⟨_,rfl⟩
 refine aj ?_;refine ⟨PV,⟨n+1,by rw [ly]; exact ⟨none,rfl,.inl ⟨n,S,rfl,v,ej,fM⟩⟩⟩,?_⟩;clear v ej fM;intro m σ' H' hI;rw [ly] at hI;obtain ⟨pv,rfl,⟨n,S,hm,v1,ej,fM⟩ | ⟨y,fd,hm,ho,v1,bt⟩⟩:=hI
 ·left;obtain ⟨gm,ym,bx,gK,cE⟩:=v1.fld;refine (fI bx cE rfl ⟨by trivial,bT ?_⟩);refine (fI bx cE rfl ⟨fits (by simp),fun d hd=>?_⟩);have v2:=v1.same (ah.upd (o:=.lst []) hd);have b2:upd H' d (.lst []) d=some (.lst []):=ax;generalize upd H' d (.lst [])=H2 at v2 b2 ⊢;obtain ⟨ia,oF,b7,gI,cb⟩:=v2.fld;refine ⟨_,[],aC.of v2.ol,aC.of b2,.inl ⟨rfl,?_⟩⟩;cases fM with
  | done hle =>
   refine bL (by rw [hle]; rfl) ?_;refine (fI b7 cb rfl ⟨by trivial,bT ?_⟩);obtain ⟨ns,bS,⟨f,a,t,h1,h2,h3,h4,h5,h6⟩,q⟩:=q2 rfl;refine (fI b7 cb rfl (mI b7 cb ⟨c,_,lf,f,a,t,ns,bS,_,rfl,v2,h1,h2,h3,h4,h5,h6,fun H3 s3=>?_⟩));intro fd bF bt hdfd nfd;have s4:=(ah.upd (o:=.own fd) hdfd).trans (ah.upd (p:=fd) (o:=.ins T.dO bF []) (by rw [ag (Ne.symm nfd)]; exact bt));have b4:upd (upd H3 bF (.own fd)) fd (.ins T.dO bF []) fd=some (.ins T.dO bF []):=ax;generalize upd (upd H3 bF (.own fd)) fd (.ins T.dO bF [])=H4 at s4 b4 ⊢;refine ⟨bF,b4,rfl,?_⟩;obtain ⟨va,gL,gE,v6,f0,nx⟩:=(v2.same s3).tells (t:=.ring []) (F:=z7 S'.here (ns++bS)) bt s4 b4;exact ⟨c.x,_,_,rfl,gL,gE,q fd bF _ v6 f0 (by rw [ag (Ne.symm nx)]; exact ax)⟩
  | @pop n _ k l r j _ _ hle iV fM =>
   refine bX (by rw [hle]; cases l <;> rfl) ⟨_,fun _ _ h=>h,?_⟩;refine aj ?_;left;refine (fI b7 cb rfl ?_);simp only [v2.ol];refine ⟨l.map dm,V.int (k:Int),by rw [hle,List.map_append]; rfl,?_⟩;have v3:=v2.uE l;generalize upd H2 lf (.lst (l.map dm))=H3 at v3 ⊢;obtain ⟨gB,oG,da,fP,dA⟩:=v3.fld;refine ⟨⟨_,rfl⟩,bT ?_⟩;refine (fI da dA rfl ?_);simp only [v3.od];refine ⟨nV r,V.int (j:Int),by rw [iV,kU]; rfl,n+1,by omega,?_⟩;have v4:=v3.J4 r;dsimp only at v4;rw [ly];have ba:=ej.a; have bp:=ej.p; have br:=ej.r; have bq:=ej.q;rw [hle,List.length_append] at bp;rw [iV,List.length_append] at br;exact ⟨_,rfl,.inl ⟨n,_,rfl,v4,⟨ba,by dsimp only; omega,by dsimp only; omega,bq⟩,fM⟩⟩
  | @step n _ p l S1 _ _ hle aO fM =>
   refine bX (by rw [hle]; cases l <;> rfl) ⟨_,fun _ _ h=>h,?_⟩;refine aj ?_;left;refine (fI b7 cb rfl ?_);simp only [v2.ol];refine ⟨l.map dm,V.str p,by rw [hle,List.map_append]; rfl,?_⟩;have v3:=v2.uE l;generalize upd H2 lf (.lst (l.map dm))=H3 at v3 ⊢;obtain ⟨gB,oG,da,fP,dA⟩:=v3.fld;refine ⟨⟨_,rfl⟩,aY ?_⟩;have ba:=ej.a; have bp:=ej.p; have br:=ej.r; have bq:=ej.q;rw [hle,List.length_append] at bp;refine (mI da dA ⟨c,_,lf,_,_,rfl,v3,by dsimp only; omega,by dsimp only; omega,by dsimp only; omega,aO,fun _ H4 v4=>⟨n+1,by omega,?_⟩,fun y hy=>by cases hy⟩);rw [ly];exact ⟨_,rfl,.inl ⟨n,S1,rfl,v4,aO.bd ej hle,fM⟩⟩
  | @fail _ p l _ y hle aO =>
   refine bX (by rw [hle]; cases l <;> rfl) ⟨_,fun _ _ h=>h,?_⟩;refine aj ?_;left;refine (fI b7 cb rfl ?_);simp only [v2.ol];refine ⟨l.map dm,V.str p,by rw [hle,List.map_append]; rfl,?_⟩;have v3:=v2.uE l;generalize upd H2 lf (.lst (l.map dm))=H3 at v3 ⊢;obtain ⟨gB,oG,da,fP,dA⟩:=v3.fld;refine ⟨⟨_,rfl⟩,aY ?_⟩;have ba:=ej.a; have bp:=ej.p; have br:=ej.r; have bq:=ej.q;rw [hle,List.length_append] at bp;refine (mI da dA ⟨c,_,lf,_,_,rfl,v3,by dsimp only; omega,by dsimp only; omega,by dsimp only; omega,aO,(fun z=>by cases z),fun y' hy fd H4 v4 hf=>⟨0,by omega,?_⟩⟩);cases hy;rw [ly];exact ⟨_,rfl,.inr ⟨y,fd,rfl,rfl,v4,hf⟩⟩
 ·left;obtain ⟨gm,ym,bx,gK,cE⟩:=v1.fld;refine (fI bx cE rfl ⟨by trivial,?_⟩);refine bL (decide_eq_false (by nofun)) ?_
  first
   | exact (fI bx cE rfl ⟨by trivial,bL (decide_eq_false (by nofun)) (q1 y ho fd _ v1 bt)⟩)
   | exact aY (fI bx cE rfl ⟨by trivial,bL (decide_eq_false (by nofun)) (q1 y ho fd _ v1 bt)⟩)
   | (left; exact (fI bx cE rfl ⟨by trivial,bL (decide_eq_false (by nofun)) (q1 y ho fd _ v1 bt)⟩))
inductive Res
 | found (k:Nat) (ns:List Str)
 | failed (k:Nat) (y:Str)
 | ring (ns:List Nat)
structure End where
 asked:List Nat
 res:Res
def kI (N:Cn) (H:Hp) (fd:Addr):Res->Prop
 | .found k ns=>∃ bF,H fd=some (.ins N.CG bF (z7 k ns))
 | .failed k y=>∃ bF,H fd=some (.ins N.CF bF (C4 k y))
 | .ring ns=>∃ bF rl,H fd=some (.ins N.CR bF (ay "leads" (.ref rl) []))/\H rl=some (.lst (nV ns))
theorem kI.same (s:ah H H'):∀ {r:Res},kI N H fd r->kI N H' fd r
 | .found _ _,⟨d,e⟩=>⟨d,s _ _ e⟩
 | .failed _ _,⟨d,e⟩=>⟨d,s _ _ e⟩
 | .ring _,⟨d,l,e,f⟩=>⟨d,l,s _ _ e,s _ _ f⟩
def wV (step:Nat):Tl->Res
 | .fail y=>.failed step y
 | .ring ns=>.ring ns
theorem rS.r:∀ {t:Tl},rS N H0 H k fd t->kI N H fd (wV k t)
 | .fail _,⟨_,d,e⟩=>⟨d,e⟩
 | .ring _,⟨_,d,l,e,f⟩=>⟨d,l,e,f⟩
structure pf (d:Wd) (fr:Bool) (h:Nat):Prop where
 z:aF (sD d.M.ro) (.inr d.z)=some (.int (d.root:Int))
 ex:∃ (st b:Nat) (r:List Nat) (a:Ta) (t:Th),(fr=true/\st=d.root\/fr=false/\aF (sD d.M.st) (.inr d.z)=some (.int (st:Int)))/\d.L[st]?=some a/\d.M.ts[st]?=some t/\dh d.M st b r/\(∃ m,km d.M d.L d.root m (dM b r) true)/\h=dM b r
inductive lJ (d:Wd) (fr:Bool) (ps:List Str):End->Prop
 | told {h n S' t}:pf d fr h->ps.length<=2500->ee d n ⟨h,none,0,[],cu ps,[],0,0⟩ S' (some t)->lJ d fr ps ⟨S'.asked,wV S'.step t⟩
 | found {h n S' ns bS}:pf d fr h->ps.length<=2500->ee d n ⟨h,none,0,[],cu ps,[],0,0⟩ S' none->sR d.M d.L d.root S' ns bS->lJ d fr ps ⟨S'.asked,.found S'.here (ns++bS)⟩
def rV (N:Cn) (H H':Hp) (e:End) (x:Addr):Prop:=ah H H'/\∃ dx gs fd av,H' x=some (.ins N.CW dx gs)/\gs.lookup ("told" : Str)=some (.ref fd)/\kI N H' fd e.res/\gs.lookup ("asked" : Str)=some (.ref av)/\H' av=some (.lst (nV e.asked))
theorem rV.of (s:ah H H1) (h:rV N H1 H2 e x):rV N H H2 e x:=⟨s.trans h.1,h.2⟩
def TH (N:Cn):Sp:=Gh fun h z fr lp last H Q _=>X6 fun A L M root ps e=>A5 (aG N.CH N.CS N.CT H A L M) (A.a=h) (H lp=some (.lst (ps.map V.str))) (lJ ⟨L,M,z,last,root⟩ fr ps e) (∀ x H',rV N H H' e x->Q (.ref x) H')
theorem F2:T.kN.k P w base 12 (TH T.cn):=by
 refine T.kN.F.ok HP (fun _ _ _ _ h=>Jm h fun _ _ _ _ _ _=>rfl) fun _ A _ s H vs Q E hr h=>Jm h fun hh z fr lp last h=>?_;obtain ⟨AA,L,M,root,ps,e,i,rfl,cY,g,q⟩:=h;obtain ⟨jW,bz,hb,dB,n,S',o,fM,f1,f2⟩:∃ h,aF (sD M.ro) (.inr z)=some (.int (root:Int))/\pf ⟨L,M,z,last,root⟩ fr h/\ps.length<=2500/\∃ n S' o,ee ⟨L,M,z,last,root⟩ n ⟨h,none,0,[],cu ps,[],0,0⟩ S' o/\(∀ y,o=some y->e=⟨S'.asked,wV S'.step y⟩)/\(o=none->∃ ns bS,sR M L root S' ns bS/\e=⟨S'.asked,.found S'.here (ns++bS)⟩):=by
  cases g with
  | told b hp hr=>exact ⟨_,b.z,b,hp,_,_,_,hr,fun y hy=>(by cases hy; rfl),fun z=>(by cases z)⟩
  | found b hp hr ht=>exact ⟨_,b.z,b,hp,_,_,_,hr,fun y hy=>(by cases hy),fun _=>⟨_,_,ht,rfl⟩⟩
 obtain ⟨st,b,r,a,t,aO,ha,ht,jP,rb,rfl⟩:=hb.ex;refine bD (b:=aV Bw) ((al (aR 5 HP.nd (im T.P1 (RQ T) hr.m T.VR T.uB.b .nil aq (aa (ad 0) (aa (ad 1) (aa (ad 4) ae)))))
 (al (aU (bf T.aL T.tE.h (RV T) hr.m T.tE.b .nil aq (ad 5) (aa (ad 2) (aa (ad 3) ae))))
 (al (aU (pe T.aL T.tW.h (P8 T) hr.m T.tW.b .nil aq (ad 5)))
 (ai (aM (ad 5))))))) ?_
 refine stI [some (V.ref AA.a),some (V.str z),some (V.bl fr),some (V.ref lp),some (V.bl last),none] ?_;refine aj ?_;left;intro x dx hx la ndx;have s1:=(ah.upd (o:=.own x) la).trans (ah.upd (p:=x) (o:=.ins T.bB dx []) (by rw [ag (Ne.symm ndx)]; exact hx));have b1:upd (upd H dx (.own x)) x (.ins T.bB dx []) x=some (.ins T.bB dx []):=ax;generalize upd (upd H dx (.own x)) x (.ins T.bB dx [])=H1 at s1 b1 ⊢;refine ⟨AA,L,M,dx,H,root,i,rfl,b1,s1,hx,bz,fun av lf rd H2 v2=>?_⟩;refine ⟨rfl,aj ?_⟩;left;obtain ⟨ia,oF,b7,gI,cb⟩:=v2.fld;refine (mI b7 cb ⟨_,_,lf,st,b,ps,r,a,t,true,rfl,v2,v2.s _ _ cY,aO,ha,ht,jP,rb,fun _ lf' H3 v3=>aj ?_,fun z=>by cases z⟩);left;obtain ⟨gB,oG,da,fP,dA⟩:=v3.fld;refine (mI da dA ⟨_,_,lf',n,S',o,rfl,v3,⟨Nat.zero_le _,by have:=xl ps; dsimp only; omega,Nat.zero_le _,Nat.zero_le _⟩,fM,fun y hy fd H4 v4 bt=>?_,fun ho=>?_⟩)
 ·obtain ⟨rn,Ni,i8,oB,oK⟩:=v4.fld;have he:=f1 y hy;exact q x H4 ⟨v4.s,dx,rn,fd,av,i8,(oK _).trans rfl,by rw [he]; exact bt.r,(oK _).trans rfl,by rw [he]; exact v4.oa⟩
 ·obtain ⟨ns,bS,ht,he⟩:=f2 ho;refine ⟨ns,bS,ht,fun fd bF H4 v4 f0 bt=>?_⟩;obtain ⟨rn,Ni,i8,oB,oK⟩:=v4.fld;exact q x H4 ⟨v4.s,dx,rn,fd,av,i8,(oK _).trans rfl,by rw [he]; exact ⟨bF,bt⟩,(oK _).trans rfl,by rw [he]; exact v4.oa⟩
structure eJ (d:Wd) (t:List Nat) (e:End):Prop where
 l1:1<=t.length
 l2:t.length<=2000
 all:(Tx.words 47 t).all cz=true
 g:lJ d (cA t) (cL t) e
theorem eJ.hz (p:eJ d t e):(aF (sD d.M.ro) (.inr d.z)).isSome=true:=by
 cases p.g with
 | told b=>rw [b.z]; rfl
 | found b=>rw [b.z]; rfl
def Rx (N:Cn):Sp:=qr fun h z pt last H Q _=>X6 fun A L M root t e=>A5 (pt=Tx.S t) (aG N.CH N.CS N.CT H A L M) (A.a=h) (eJ ⟨L,M,z,last,root⟩ t e) (∀ x H',rV N H H' e x->Q (.ref x) H')
theorem Lu:T.kg.k P w base 13 (Rx T.cn):=by
 refine T.kg.F.ok Hg (fun _ _ _ _ h=>jh h fun _ _ _ _ _=>rfl) fun _ A _ s H vs Q E hr h=>jh h fun hh z pt last h=>?_;obtain ⟨AA,L,M,root,t,e,rfl,i,rfl,pg,q⟩:=h;obtain ⟨mH,hc,hh,qX,ig⟩:=i.h;refine bD (b:=aV zU) ((al (aU (ef T.aI T.eL.h (lY T) hr.m T.eL.b .nil fW (ad 0) (aa (ad 1) ae)))
 (al (aR 4 Hg.nd (bn (ke T) hr.m T.cH.m T.cH.F.kp T.cH.b .nil aq (aa (ad 2) ae)))
 (ai (aM (bn (F2 T) hr.m T.kN.m T.kN.F.kp T.kN.b .nil aq (aa (ad 0) (aa (ad 1) (aa (bv (bC (K:=K) rfl) (ad 4) am) (aa (bv (bC (K:=K) rfl) (ad 4) am) (aa (ad 3) ae))))))))))) ?_
 refine stI [some (V.ref AA.a),some (V.str z),some (V.str (Tx.S t)),some (V.bl last),none] ?_;refine aj ?_;left;refine (mI hh ig (ni i pg.hz (aj ?_)));left;refine ⟨t,rfl,pg.l1,pg.l2,pg.all,fun H1 l p s1 _ hl hp=>?_⟩;simp only [bI,hp];left;rw [show cU [V.bl (cA t),V.ref l] 0=some (V.bl (cA t)) from rfl,show cU [V.bl (cA t),V.ref l] 1=some (V.ref l) from rfl];rw [wz] at hl;exact ⟨AA,L,M,root,_,e,i.same s1,rfl,hl,pg.g,fun x H2 f=>q x H2 (f.of s1)⟩
def PL (N:Cn):Sp:=qr fun h z pt last H Q _=>X6 fun A L M root t e=>A5 (pt=Tx.S t) (aG N.CH N.CS N.CT H A L M) (A.a=h) (eJ ⟨L,M,z,last,root⟩ t e) (∀ fd H',ah H H'->kI N H' fd e.res->Q (.ref fd) H')
theorem r6:az P w K mg base aJ 14 T.Ew T.xF ["house","asker","path","last"] (PL T.cn):=by
 refine T.ki.ok SY (fun vs H Q E h=>?_) (fun _ A _ s H vs Q E hr h=>?_)
 ·exact jh h fun _ _ _ _ _=>rfl
 ·refine jh h fun hh z pt last h=>?_;obtain ⟨AA,L,M,root,t,e,rfl,i,rfl,pg,q⟩:=h;refine bD (b:=aV tI) ((ai (aM (bi T.aL T.lS (bn (Lu T) hr.m T.kg.m T.kg.F.kp T.kg.b .nil aq (aa (ad 0) (aa (ad 1) (aa (ad 2) (aa (ad 3) ae))))))))) ?_;refine stI [some (V.ref AA.a),some (V.str z),some (V.str (Tx.S t)),some (V.bl last)] ?_;left;refine ⟨AA,L,M,root,t,e,rfl,i,rfl,pg,fun x H1 ⟨s1,dx,gs,fd,av,hx,yr,bt,sZ,gN⟩=>?_⟩;exact ⟨x,_,_,_,rfl,hx,yr,q fd H1 s1 bt⟩
def S3 (N:Cn):Sp:=qr fun h z pt last H Q _=>X6 fun A L M root t e=>A5 (pt=Tx.S t) (aG N.CH N.CS N.CT H A L M) (A.a=h) (eJ ⟨L,M,z,last,root⟩ t e) (∀ av H',ah H H'->H' av=some (.lst (nV e.asked))->Q (.ref av) H')
theorem FW:az P w K mg base aJ 14 T.ET T.xU ["house","asker","path","last"] (S3 T.cn):=by
 refine T.sX.ok O3 (fun vs H Q E h=>?_) (fun _ A _ s H vs Q E hr h=>?_)
 ·exact jh h fun _ _ _ _ _=>rfl
 ·refine jh h fun hh z pt last h=>?_;obtain ⟨AA,L,M,root,t,e,rfl,i,rfl,pg,q⟩:=h;refine bD (b:=aV tM) ((ai (aM (bi T.aL T.y3 (bn (Lu T) hr.m T.kg.m T.kg.F.kp T.kg.b .nil aq (aa (ad 0) (aa (ad 1) (aa (ad 2) (aa (ad 3) ae))))))))) ?_;refine stI [some (V.ref AA.a),some (V.str z),some (V.str (Tx.S t)),some (V.bl last)] ?_;left;refine ⟨AA,L,M,root,t,e,rfl,i,rfl,pg,fun x H1 ⟨s1,dx,gs,fd,av,hx,yr,bt,sZ,gN⟩=>?_⟩;exact ⟨x,_,_,_,rfl,hx,sZ,q av H1 s1 gN⟩
inductive Rf
 | eY (y:Str)
 | way (r:Res)
def du (N:Cn) (H:Hp) (E:XK):Rf->Prop
 | .eY y=>∀ d H',ah H H'->H' d=some (.xd [("reason",.str y)])->E (.ref N.CD) (some d) H'
 | .way r=>∀ fd d H',ah H H'->kI N H' fd r->H' d=some (.xd [("told",.ref fd)])->E (.ref N.CN) (some d) H'
theorem du.of (s:ah H H1) (h:du N H E r):du N H1 E r:=by
 cases r with
 | eY y=>exact fun d H' s' e=>h d H' (s.trans s') e
 | way k=>exact fun fd d H' s' e1 e2=>h fd d H' (s.trans s') e1 e2
theorem du.raise (h:du N H E (.eY y)) (s:ah H H1) (hd:H1 d=none):E (.ref N.CD) (some d) (upd H1 d (.xd [("reason",.str y)])):=h d _ (s.trans (ah.upd hd)) ax
theorem si:T.kR.k P w mg base 1 (lW T.m3 "reason"):=by
 refine T.kR.F.ok WI (fun vs H Q E h=>?_) (fun _ A _ s H vs Q E hr h=>?_)
 ·unfold lW at h;split at h
  ·rfl
  ·exact h.elim
 ·unfold lW at h;split at h
  ·rename_i ea y;obtain ⟨he,q⟩:=h;refine ⟨_,((ai (JX T.pB (ad 0) (ad 1)))).h,?_⟩;refine stI [some (.ref ea),some y] ?_;walk_at "rd";exact ⟨ea,rfl,he,q⟩
  ·exact h.elim
theorem N7:T.sH.k P w mg base 1 (lW T.mO "told"):=by
 refine T.sH.F.ok SS (fun vs H Q E h=>?_) (fun _ A _ s H vs Q E hr h=>?_)
 ·unfold lW at h;split at h
  ·rfl
  ·exact h.elim
 ·unfold lW at h;split at h
  ·rename_i ea y;obtain ⟨he,q⟩:=h;refine ⟨_,((ai (JX T.HY (ad 0) (ad 1)))).h,?_⟩;refine stI [some (.ref ea),some y] ?_;walk_at "rd";exact ⟨ea,rfl,he,q⟩
  ·exact h.elim
def U5 (N:Cn):Sp:=iU fun fd H Q E=>X1 fun r=>A3 (kI N H fd r) (∀ k ns,r=.found k ns->Q (.int (k:Int)) H) ((∀ k ns,r≠.found k ns)->du N H E (.way r))
theorem Ik:az P w K mg base (cM P w) 3 T.kb.f T.kb.d ["told"] (U5 T.cn):=by
 refine T.kb.F.dP NI (fun _ _ _ _ h=>eD h fun _ _=>rfl) fun _ A _ s H vs Q E hr h=>eD h fun fd h=>?_;obtain ⟨r,bt,q1,q2⟩:=h;refine bD (b:=aV B4) ((al (aW (c9 (cK (cF (rX (K:=K) rfl) T.fQ fZ (aa (ad 0) (aa (db (.ref T.dO) T.Dm rfl) ae))))) (ai (pE pU rfl rfl T.XY T.HY T.S5 (N7 T) hr.m T.sH.b (aa (ad 0) ae))) ce)
 (ai (aM (bi T.jK T.Cy (ad 0)))))) ?_
 refine stI [some (V.ref fd)] ?_;refine aj ?_;left;cases r with
 | found k ns =>
  obtain ⟨bF,hf⟩:=bt;exact ⟨_,_,_,.of (.ins hf T.jK T.q1 T.q2 T.q3 T.q4),.cls T.q5,aY ⟨fd,bF,_,_,rfl,hf,rfl,q1 k ns rfl⟩⟩
 | failed k y =>
  obtain ⟨bF,hf⟩:=id bt;exact ⟨_,_,_,.of (.ins hf T.kC T.q6 T.q2 T.q3 T.q7),.cls T.q8,bT ⟨_,rfl,fun d hd=>q2 (by nofun) fd d _ (ah.upd hd) (bt.same (ah.upd hd)) ax⟩⟩
 | ring ns =>
  obtain ⟨bF,rl,hf,hl⟩:=id bt;exact ⟨_,_,_,.of (.ins hf T.mz T.sC T.q2 T.q3 T.uD),.cls T.Ij,bT ⟨_,rfl,fun d hd=>q2 (by nofun) fd d _ (ah.upd hd) (bt.same (ah.upd hd)) ax⟩⟩
def Tr (N:Cn):Sp:=lI fun h z pt H Q E=>X6 fun A L M root t e=>A6 (pt=Tx.S t) (aG N.CH N.CS N.CT H A L M) (A.a=h) (eJ ⟨L,M,z,true,root⟩ t e) (∀ k ns,e.res=.found k ns->∀ H',ah H H'->Q (.int (k:Int)) H') ((∀ k ns,e.res≠.found k ns)->du N H E (.way e.res))
theorem Lg:az P w K mg base (cM P w) 15 T.kQ.f T.kQ.d ["house","asker","path"] (Tr T.cn):=by
 refine T.kQ.F.dP Of (fun _ _ _ _ h=>gy h fun _ _ _ _=>rfl) fun _ A _ s H vs Q E hr h=>gy h fun hh z pt h=>?_;obtain ⟨AA,L,M,root,t,e,rfl,i,rfl,pg,q1,q2⟩:=h;refine bD (b:=aV zq) ((ai (aM (dR (Ik T) hr.m T.kb.m T.kb.F.kp T.kb.b .nil cS (aa (bn (r6 T) hr.m T.uj T.ki.kp T.rq (.cons (show RelV (.bl true) _ from rfl) .nil) aq (aa (ad 0) (aa (ad 1) (aa (ad 2) ae)))) ae))))) ?_;refine stI [some (V.ref AA.a),some (V.str z),some (V.str (Tx.S t))] ?_;left;refine ⟨AA,L,M,root,t,e,rfl,i,rfl,pg,fun fd H1 s1 bt=>?_⟩;exact ⟨e.res,bt,fun k ns he=>q1 k ns he H1 s1,fun hn=>(q2 hn).of s1⟩
theorem Ym:T.pO.k P w base 4 (n6 T.aH T.aN T.aS Ad.a fun _ _ _ _ _ t H Q=>Q (.bl (decide (t.kd=("folder" : Str)))) H):=by
 refine T.pO.F.ok YX (fun _ _ _ _ h=>cv h fun _ _ _=>rfl) fun _ A _ s H vs Q E hr h=>cv h fun x n h=>?_;obtain ⟨AA,L,M,k,a,t,i,rfl,rfl,ha,aQ,q⟩:=h;obtain ⟨fs,c,hx,aP,sf⟩:=i.h;refine ⟨_,((ai (aM (em cP (bf T.aI T.f7.h (qo T) hr.m T.f7.b .nil aq (ad 0) (aa (ad 1) ae)) (db (.str "folder") T.sv ⟨_,rfl⟩))))).h,?_⟩;refine stI [some (V.ref AA.a),some (V.int (k:Int))] ?_;left;exact (mI hx sf ⟨AA,L,M,k,a,t,i,rfl,rfl,ha,aQ,q⟩)
def Rj (N:Cn):Sp:=lI fun h z pt H Q E=>X6 fun A L M root t e=>A6 (pt=Tx.S t) (aG N.CH N.CS N.CT H A L M) (A.a=h) (eJ ⟨L,M,z,true,root⟩ t e) (∀ k ns,e.res=.found k ns->∃ a t,L[k]?=some a/\M.ts[k]?=some t/\(t.kd=("folder" : Str)->∀ H',ah H H'->Q (.int (k:Int)) H')/\(t.kd≠("folder" : Str)->du N H E (.eY "file"))) ((∀ k ns,e.res≠.found k ns)->du N H E (.way e.res))
theorem Ft:az P w K mg base (cM P w) 16 T.kh.f T.kh.d ["house","asker","path"] (Rj T.cn):=by
 refine T.kh.F.dP Jf (fun _ _ _ _ h=>gy h fun _ _ _ _=>rfl) fun _ A _ s H vs Q E hr h=>gy h fun hh z pt h=>?_;obtain ⟨AA,L,M,root,t,e,rfl,i,rfl,pg,q1,q2⟩:=h;refine bD (b:=aV AY) ((al (aR 3 Jf.nd (dR (Lg T) hr.m T.kQ.m T.kQ.F.kp T.kQ.b .nil cS (aa (ad 0) (aa (ad 1) (aa (ad 2) ae)))))
 (al (aW (c9 (cK (bn (Ym T) hr.m T.pO.m T.pO.F.kp T.pO.b .nil aq (aa (ad 0) (aa (ad 3) ae))))) (ai (pE pU rfl rfl T.tN T.pB T.sQ (si T) hr.m T.kR.b (aa ap ae))) ce)
 (ai (aM (ad 3)))))) ?_
 refine stI [some (V.ref AA.a),some (V.str z),some (V.str (Tx.S t)),none] ?_;refine aj ?_;left;refine ⟨AA,L,M,root,t,e,rfl,i,rfl,pg,fun k ns he H1 s1=>?_,q2⟩;obtain ⟨a,t',ha,ht,r1,r2⟩:=q1 k ns he;refine aj ?_;left;refine ⟨AA,L,M,k,a,t',i.same s1,rfl,rfl,ha,ht,?_⟩;dsimp only;by_cases hk:t'.kd=("folder" : Str)
 ·rw [decide_eq_true hk];exact aY (r1 hk _ s1)
 ·rw [decide_eq_false hk];exact bT ⟨_,rfl,fun d hd=>(r2 hk).raise s1 hd⟩
inductive jF (ps:List (List Nat)):Option (List (List Nat)×List Nat)->Prop
 | nil:ps=[]->jF ps none
 | tZ {q nm}:ps=q++[nm]->isNm nm=false->nm.length<=8->jF ps none
 | Jr {q nm}:ps=q++[nm]->isNm nm=true->jF ps (some (q,nm))
structure eN (t:List Nat):Prop where
 l1:1<=t.length
 l2:t.length<=2000
 all:(Tx.words 47 t).all cz=true
def Wg (N:Cn):Sp:=jD fun pt H Q E=>X2 fun t r=>A5 (pt=Tx.S t) (eN t) (jF (told (Tx.words 47 t) t) r) (∀ x,r=some x->∀ H',ah H H'->Q .au H') (r=none->du N H E (.eY "dots"))
theorem vH {w:List Nat} (h:isNm w=true):47 ∉ w/\w≠[]/\1<=w.length/\w.length<=8:=by
 have hp:cz w=true:=by unfold cz; rw [h]; simp
 obtain ⟨h1,h2,_⟩:=Io h;exact ⟨(o6 hp).1,(o6 hp).2.1,h1,h2⟩
theorem J6 {w:List Nat} {b:Bool} (h:isNm w=b):fF (.str (Tx.S w))=b:=by
 show isNm (Tx.S w).cps.toList=b;rw [Tx.jM]; exact h
theorem zY {w:List Nat} (h:isNm w=true):fF (.str (Tx.S w))=true:=J6 h
theorem O5:az P w K mg base (cM P w) 4 T.pd.f T.pd.d ["path"] (Wg T.cn):=by
 refine T.pd.F.dP JO (fun _ _ _ _ h=>eU h fun _ _=>rfl) fun _ A _ s H vs Q E hr h=>eU h fun pt h=>?_;obtain ⟨t,r,rfl,sp,hs,q1,q2⟩:=h;refine bD (b:=aV Bz) ((al (aR 1 JO.nd (bv (bC (K:=K) rfl) (bn (ke T) hr.m T.cH.m T.cH.F.kp T.cH.b .nil aq (aa (ad 0) ae)) am))
 (ai (aW (eA (gl (aZ (Vl hr.gg) (ad 1) (ci ae)) (jo (c9 (cK (bn (Bl T) hr.m T.iA.m T.iA.F.kp T.iA.b .nil aq (aa (bv (bC (K:=K) rfl) (ad 1) (ii jO am)) ae))))))) (ai (pE pU rfl rfl T.tN T.pB T.sQ (si T) hr.m T.kR.b (aa ap ae))) ce)))) ?_
 refine stI [some (V.str (Tx.S t)),none] ?_;refine aj ?_;left;refine ⟨t,rfl,sp.l1,sp.l2,sp.all,fun H1 l p s1 _ hl hp=>?_⟩;simp only [bI,hp];rw [show cU [V.bl (cA t),V.ref l] 1=some (V.ref l) from rfl];refine ⟨fits (by simp),fun d hd=>?_⟩;refine c8 (o:=.lst []) hd fun H2 s2 b2=>?_;have cm:=s2 _ _ hl;cases hs with
 | nil e =>
  rw [e] at cm;exact ⟨[],[],cm,b2,bX (decide_eq_true rfl) ⟨_,rfl,fun d' hd'=>(q2 rfl).raise (s1.trans s2) hd'⟩⟩
 | @tZ qs nm e hn ve =>
  rw [e] at cm;have gz:H2 l=some (.lst (PV qs++[V.str (Tx.S nm)])):=by rw [cm]; simp [PV]
  refine ⟨qs.map Tx.S++[Tx.S nm],[],by rw [gz]; simp [PV],b2,?_⟩;rw [decide_eq_false (by simp)];refine aY ?_;simp only [gz,kL];refine ⟨⟨_,rfl⟩,by show (Tx.S nm).length<=1000; rw [Tx.cq]; omega,fun H3 s3=>?_⟩;rw [J6 hn];exact bT ⟨_,rfl,fun d' hd'=>(q2 rfl).raise ((s1.trans s2).trans s3) hd'⟩
 | @Jr qs nm e hn =>
  rw [e] at cm;obtain ⟨h1,h2,h3,h4⟩:=vH hn;have gz:H2 l=some (.lst (PV qs++[V.str (Tx.S nm)])):=by rw [cm]; simp [PV]
  refine ⟨qs.map Tx.S++[Tx.S nm],[],by rw [gz]; simp [PV],b2,?_⟩;rw [decide_eq_false (by simp)];refine aY ?_;simp only [gz,kL];refine ⟨⟨_,rfl⟩,by show (Tx.S nm).length<=1000; rw [Tx.cq]; omega,fun H3 s3=>?_⟩;rw [zY hn];exact aY (q1 _ rfl _ ((s1.trans s2).trans s3))
theorem o9 (s:ah H H') (h:H' x=none):H x=none:=by
 cases e:H x with
 | none=>rfl
 | some o=>rw [s _ _ e] at h; cases h
abbrev vt (f:Nat) (nm:List Nat):List (Str×V):=ay "name" (.str (Tx.S nm)) (ay "folder" (.int (f:Int)) [])
inductive kM (d:Wd) (t:List Nat):Sum Rf (Nat×List Nat)->Prop
 | tZ:jF (told (Tx.words 47 t) t) none->kM d t (.inl (.eY "dots"))
 | way {q nm e}:jF (told (Tx.words 47 t) t) (some (q,nm))->q.length<=900->lJ d (cA t) (q.map Tx.S++[("." : Str)]) e->(∀ k ns,e.res≠.found k ns)->kM d t (.inl (.way e.res))
 | KI {q nm e f ns}:jF (told (Tx.words 47 t) t) (some (q,nm))->q.length<=900->lJ d (cA t) (q.map Tx.S++[("." : Str)]) e->e.res=.found f ns->kM d t (.inr (f,nm))
def WG (N:Cn):Sp:=lI fun h z pt H Q E=>X6 fun A L M root t r=>A7 (pt=Tx.S t) (eN t) (aG N.CH N.CS N.CT H A L M) (A.a=h) (kM ⟨L,M,z,true,root⟩ t r) (∀ x,r=.inl x->du N H E x) (∀ f nm,r=.inr (f,nm)->∀ x dx H',H x=none->ah H H'->H' x=some (.ins N.CE dx (vt f nm))->Q (.ref x) H')
theorem Vk:az P w K mg base (cM P w) 13 T.oT.f T.oT.d ["house","asker","path"] (WG T.cn):=by
 refine T.oT.F.dP Au (fun _ _ _ _ h=>gy h fun _ _ _ _=>rfl) fun _ A _ s H vs Q E hr h=>gy h fun hh z pt h=>?_;obtain ⟨AA,L,M,root,t,r,rfl,sp,i,rfl,g,q1,q2⟩:=h;refine bD (b:=aV Cs) ((al (aU (dR (O5 T) hr.m T.pd.m T.pd.F.kp T.pd.b .nil cS (aa (ad 2) ae)))
 (al (aR 3 Au.nd (bn (ke T) hr.m T.cH.m T.cH.F.kp T.cH.b .nil aq (aa (ad 2) ae)))
 (al (aR 4 Au.nd (bn (F2 T) hr.m T.kN.m T.kN.F.kp T.kN.b .nil aq (aa (ad 0) (aa (ad 1) (aa (bv (bC (K:=K) rfl) (ad 3) am) (aa (cr dQ (ge (mm (K:=K) rfl) (bv (bC (K:=K) rfl) (ad 3) am) jC (iu (ii jO am))) (ci (aa ap ae))) (aa dL ae)))))))
 (ai (aM (im T.TV (RT T) hr.m T.RL T.sA.b .nil aq (aa (dR (Ik T) hr.m T.kb.m T.kb.F.kp T.kb.b .nil cS (aa (bi T.aL T.lS (ad 4)) ae)) (aa (bv (bC (K:=K) rfl) (bv (bC (K:=K) rfl) (ad 3) am) (ii jO am)) ae))))))))) ?_
 refine stI [some (V.ref AA.a),some (V.str z),some (V.str (Tx.S t)),none,none] ?_;refine aj ?_;left;have hs:(r=.inl (.eY "dots")/\jF (told (Tx.words 47 t) t) none)\/∃ qs nm e,jF (told (Tx.words 47 t) t) (some (qs,nm))/\qs.length<=900/\lJ ⟨L,M,z,true,root⟩ (cA t) (qs.map Tx.S++[("." : Str)]) e/\((∀ k ns,e.res≠.found k ns)->r=.inl (.way e.res))/\∀ f ns,e.res=.found f ns->r=.inr (f,nm):=by
  cases g with
  | tZ h=>exact .inl ⟨rfl,h⟩
  | way h1 h2 h3 h4=>exact .inr ⟨_,_,_,h1,h2,h3,fun _=>rfl,fun f ns e=>absurd e (h4 f ns)⟩
  | KI h1 h2 h3 h4=>exact .inr ⟨_,_,_,h1,h2,h3,fun k=>absurd h4 (k _ _),fun f ns e=>by rw [h4] at e; cases e; rfl⟩
 rcases hs with ⟨rfl,hs⟩ | ⟨qs,nm,e,hs,hq,g,r1,r2⟩
 ·exact ⟨t,none,rfl,sp,hs,(fun x e=>by cases e),fun _=>q1 _ rfl⟩
 refine ⟨t,_,rfl,sp,hs,fun x _ H1 s1=>aj ?_,fun e=>by cases e⟩;have he:told (Tx.words 47 t) t=qs++[nm]:=by cases hs; assumption
 left;refine ⟨t,rfl,sp.l1,sp.l2,sp.all,fun H2 l p s2 _ hl hp=>aj ?_⟩;rw [he,show PV (qs++[nm])=PV qs++[V.str (Tx.S nm)] from by simp [PV]] at hl;left;simp only [bI,hp];rw [show cU [V.bl (cA t),V.ref l] 1=some (V.ref l) from rfl,show cU [V.bl (cA t),V.ref l] 0=some (V.bl (cA t)) from rfl]
 try dsimp only
 refine ⟨_,aC.of hl,fun p1 ot=>?_⟩;rw [N0];refine ⟨fits (by simp),fun p2 cJ=>?_⟩;have s3:=(ah.upd (o:=.lst (PV qs)) ot).trans (ah.upd (o:=.lst [V.str (Str.ofString ".")]) cJ);have n12:p1≠p2:=aK (ax (o:=.lst (PV qs))) cJ;have b3:upd (upd H2 p1 (.lst (PV qs))) p2 (.lst [V.str (Str.ofString ".")]) p1=some (.lst (PV qs)):=by rw [ag n12,ax]
 have b4:upd (upd H2 p1 (.lst (PV qs))) p2 (.lst [V.str (Str.ofString ".")]) p2=some (.lst [V.str (Str.ofString ".")]):=ax;generalize upd (upd H2 p1 (.lst (PV qs))) p2 (.lst [V.str (Str.ofString ".")])=H3 at s3 b3 b4 ⊢;simp only [b3,b4];refine ⟨fits (by simp; omega),fun p3 ie=>?_⟩;have s4:=s3.trans (ah.upd (o:=.lst (PV qs++[V.str (Str.ofString ".")])) ie);have b5:upd H3 p3 (.lst (PV qs++[V.str (Str.ofString ".")])) p3=some (.lst (PV qs++[V.str (Str.ofString ".")])):=ax;generalize upd H3 p3 (.lst (PV qs++[V.str (Str.ofString ".")]))=H4 at s4 b5 ⊢;refine ⟨AA,L,M,root,qs.map Tx.S++[("." : Str)],e,i.same ((s1.trans s2).trans s4),rfl,by rw [b5]; simp [PV],g,?_⟩;rintro x H5 ⟨s5,dx,gs,fd,av,hx,yr,bt,sZ,gN⟩;have iK:=((s1.trans s2).trans s4).trans s5;refine ⟨x,_,_,_,rfl,hx,yr,_,bt,fun k ns hk=>?_,fun hk=>(q1 _ (r1 hk)).of iK⟩
 ·have qQ:=(s4.trans s5) _ _ hp;have gE:=(s4.trans s5) _ _ hl;simp only [qQ];rw [show cU [V.bl (cA t),V.ref l] 1=some (V.ref l) from rfl];simp only [gE,kL]
  try dsimp only
  intro y dy hy hdy ndy;refine ⟨dy,ax,rfl,?_⟩;rw [mw];exact q2 _ _ (r2 _ _ hk) y dy _ (o9 iK hy) (iK.trans ((ah.upd (o:=.own y) hdy).trans (ah.upd (p:=y) (by rw [ag (Ne.symm ndy)]; exact hy)))) ax
def Ys (N:Cn):Sp:=HA fun h z n r y H Q E=>X5 fun A L M t (k:Nat)=>A8 (n=(k:Int)) (aG N.CH N.CS N.CT H A L M) (A.a=h) ((aF (sD M.ro) (.inr z)).isSome=true) (jJ (.str r)=true) (M.ts[k]?=some t) (fb r (eG t z)=true->Q .au H) (fb r (eG t z)=false->du N H E (.eY y))
theorem NO:az P w K mg base (cM P w) 4 T.qw.f T.qw.d ["house","asker","number","right","reason"] (Ys T.cn):=by
 refine T.qw.F.dP OQ (fun _ _ _ _ h=>Jc h fun _ _ _ _ _ _=>rfl) fun _ A _ s H vs Q E hr h=>Jc h fun hh z n r rs h=>?_;obtain ⟨AA,L,M,t,k,rfl,i,rfl,hz,eF,ht,q1,q2⟩:=h;obtain ⟨mM,gc,gh,mK,fk⟩:=i.h;refine bD (b:=aV Cu) ((ai (aW (c9 (cK (ef T.aI T.kf.h (BU T) hr.m T.kf.b .nil cS (ad 0) (aa (ad 1) (aa (ad 2) (aa (ad 3) ae)))))) (ai (pE pU rfl rfl T.tN T.pB T.sQ (si T) hr.m T.kR.b (aa (ad 4) ae))) ce))) ?_;refine stI [some (V.ref AA.a),some (V.str z),some (V.int (k:Int)),some (V.str r),some (V.str rs)] ?_;left;refine (mI gh fk (zy i hz eF ht ?_));cases hm:fb r (eG t z) with
 | true=>exact aY (q1 hm)
 | false=>exact bT ⟨_,rfl,fun d hd=>(q2 hm).raise (fun _ _ e=>e) hd⟩
def V3 (N:Cn):Sp:=kY fun h z n H Q E=>X5 fun A L M t (k:Nat)=>A7 (n=(k:Int)) (aG N.CH N.CS N.CT H A L M) (A.a=h) ((aF (sD M.ro) (.inr z)).isSome=true) (M.ts[k]?=some t) (fb ("w" : Str) (eG t z)=true->Q .au H) (fb ("w" : Str) (eG t z)=false->du N H E (.eY "kept"))
theorem WH:az P w K mg base (cM P w) 5 T.pq.f T.pq.d ["house","asker","folder"] (V3 T.cn):=by
 refine T.pq.F.dP RN (fun _ _ _ _ h=>fA h fun _ _ _ _=>rfl) fun _ A _ s H vs Q E hr h=>fA h fun hh z n h=>?_;obtain ⟨AA,L,M,t,k,rfl,i,rfl,hz,ht,q1,q2⟩:=h;refine bD (b:=aV BA) ((ai (aU (dR (NO T) hr.m T.qw.m T.qw.F.kp T.qw.b .nil cS (aa (ad 0) (aa (ad 1) (aa (ad 2) (aa ap (aa ap ae))))))))) ?_;refine stI [some (V.ref AA.a),some (V.str z),some (V.int (k:Int))] ?_;left;exact ⟨AA,L,M,t,k,rfl,i,rfl,hz,by decide +kernel,ht,q1,q2⟩
def Yt (N:Cn):Sp:=sG fun h x H Q _=>X8 fun A L M a t dx nm (k:Nat)=>A7 (aG N.CH N.CS N.CT H A L M) (A.a=h) (H x=some (.ins N.CE dx (vt k nm))) (isNm nm=true) (L[k]?=some a) (M.ts[k]?=some t) (∀ H',ah H H'->Q ((aF (sD t.bb) (.inr (Tx.S nm))).getD .au) H')
theorem N8:T.qj.k P w base 5 (Yt T.cn):=by
 refine T.qj.F.ok Uo (fun _ _ _ _ h=>lT h fun _ _ _=>rfl) fun _ A _ s H vs Q E hr h=>lT h fun hh x h=>?_;obtain ⟨AA,L,M,a,t,dx,nm,k,i,rfl,hx,hn,ha,ht,q⟩:=h;obtain ⟨mM,gc,gh,mK,fk⟩:=i.h;obtain ⟨h1,h2,h3,h4⟩:=vH hn;refine bD (b:=aV zC) ((ai (aM (bf T.aI T.j5.h (Cb T) hr.m T.j5.b .nil aq (ad 0) (aa (bi T.nW T.wm (ad 1)) (aa (bi T.nW T.Ds (ad 1)) ae)))))) ?_;refine stI [some (V.ref AA.a),some (V.ref x)] ?_;left;exact (mI gh fk ⟨x,_,_,_,rfl,hx,rfl,x,_,_,_,rfl,hx,rfl,AA,L,M,k,a,t,i,rfl,rfl,ha,ht,zY hn,by rw [Tx.cq]; omega,q⟩)
def S4 (N:Cn):Sp:=sG fun h x H Q E=>X8 fun A L M a t dx nm (k:Nat)=>A8 (aG N.CH N.CS N.CT H A L M) (A.a=h) (H x=some (.ins N.CE dx (vt k nm))) (isNm nm=true) (L[k]?=some a) (M.ts[k]?=some t) (aF (sD t.bb) (.inr (Tx.S nm))=none->∀ H',ah H H'->Q .au H') (∀ c:Int,aF (sD t.bb) (.inr (Tx.S nm))=some (.int c)->du N H E (.eY "there"))
theorem J8 (h:aF (sD l) z=some v):∃ c:Nat,v=.int (c:Int):=by
 unfold aF at h;obtain ⟨kv,h1,rfl⟩:=Option.map_eq_some_iff.mp h;obtain ⟨e,_,rfl⟩:=List.mem_map.mp (List.mem_of_find?_eq_some h1);exact ⟨_,rfl⟩
theorem RW:az P w K mg base (cM P w) 6 T.pH.f T.pH.d ["house","seat"] (S4 T.cn):=by
 refine T.pH.F.dP Tp (fun _ _ _ _ h=>lT h fun _ _ _=>rfl) fun _ A _ s H vs Q E hr h=>lT h fun hh x h=>?_;obtain ⟨AA,L,M,a,t,dx,nm,k,i,rfl,hx,hn,ha,ht,q1,q2⟩:=h;refine bD (b:=aV zp) ((ai (aW (aZ nB (bn (N8 T) hr.m T.qj.m T.qj.F.kp T.qj.b .nil aq (aa (ad 0) (aa (ad 1) ae))) au) (ai (pE pU rfl rfl T.tN T.pB T.sQ (si T) hr.m T.kR.b (aa ap ae))) ce))) ?_;refine stI [some (V.ref AA.a),some (V.ref x)] ?_;left;refine ⟨AA,L,M,a,t,dx,nm,k,i,rfl,hx,hn,ha,ht,fun H1 s1=>?_⟩;cases hv:aF (sD t.bb) (.inr (Tx.S nm)) with
 | none=>exact ⟨by trivial,aY (q1 hv H1 s1)⟩
 | some v =>
  obtain ⟨c,rfl⟩:=J8 hv;exact ⟨by trivial,bT ⟨_,rfl,fun d hd=>(q2 _ hv).raise s1 hd⟩⟩
inductive nJ (d:Wd) (t:List Nat):Sum Rf (Nat×List Nat)->Prop
 | no {x}:kM d t (.inl x)->nJ d t (.inl x)
 | kept {f nm tf}:kM d t (.inr (f,nm))->d.M.ts[f]?=some tf->fb ("w" : Str) (eG tf d.z)=false->nJ d t (.inl (.eY "kept"))
 | there {f nm a tf c}:kM d t (.inr (f,nm))->isNm nm=true->d.L[f]?=some a->d.M.ts[f]?=some tf->fb ("w" : Str) (eG tf d.z)=true->aF (sD tf.bb) (.inr (Tx.S nm))=some (.int (c:Int))->nJ d t (.inl (.eY "there"))
 | free {f nm a tf}:kM d t (.inr (f,nm))->isNm nm=true->d.L[f]?=some a->d.M.ts[f]?=some tf->fb ("w" : Str) (eG tf d.z)=true->aF (sD tf.bb) (.inr (Tx.S nm))=none->nJ d t (.inr (f,nm))
def Vg (N:Cn):Sp:=lI fun h z pt H Q E=>X6 fun A L M root t r=>A8 (pt=Tx.S t) (eN t) (aG N.CH N.CS N.CT H A L M) (A.a=h) ((aF (sD M.ro) (.inr z)).isSome=true) (nJ ⟨L,M,z,true,root⟩ t r) (∀ x,r=.inl x->du N H E x) (∀ f nm,r=.inr (f,nm)->∀ x dx H',H x=none->ah H H'->H' x=some (.ins N.CE dx (vt f nm))->Q (.ref x) H')
theorem B3:az P w K mg base (cM P w) 14 T.iw.f T.iw.d ["house","asker","path"] (Vg T.cn):=by
 refine T.iw.F.dP F5 (fun _ _ _ _ h=>gy h fun _ _ _ _=>rfl) fun _ A _ s H vs Q E hr h=>gy h fun hh z pt h=>?_;obtain ⟨AA,L,M,root,t,r,rfl,sp,i,rfl,En,g,q1,q2⟩:=h;refine bD (b:=aV zw) ((al (aR 3 F5.nd (dR (Vk T) hr.m T.oT.m T.oT.F.kp T.oT.b .nil cS (aa (ad 0) (aa (ad 1) (aa (ad 2) ae)))))
 (al (aU (dR (WH T) hr.m T.pq.m T.pq.F.kp T.pq.b .nil cS (aa (ad 0) (aa (ad 1) (aa (bi T.nW T.wm (ad 3)) ae)))))
 (al (aU (dR (RW T) hr.m T.pH.m T.pH.F.kp T.pH.b .nil cS (aa (ad 0) (aa (ad 3) ae))))
 (ai (aM (ad 3))))))) ?_
 refine stI [some (V.ref AA.a),some (V.str z),some (V.str (Tx.S t)),none] ?_;refine aj ?_;left;cases g with
 | no g=>exact ⟨AA,L,M,root,t,_,rfl,sp,i,rfl,g,fun x e=>(by cases e; exact q1 _ rfl),fun f nm e=>by cases e⟩
 | kept g oH hw =>
  refine ⟨AA,L,M,root,t,_,rfl,sp,i,rfl,g,fun x e=>(by cases e),fun f nm e=>?_⟩;cases e;intro x dx H1 fx s1 hx;refine aj ?_;left;exact ⟨x,_,_,_,rfl,hx,rfl,AA,L,M,_,_,rfl,i.same s1,rfl,En,oH,fun e=>(by rw [hw] at e; cases e),fun _=>(q1 _ rfl).of s1⟩
 | there g hn DF oH hw hv =>
  refine ⟨AA,L,M,root,t,_,rfl,sp,i,rfl,g,fun x e=>(by cases e),fun f nm e=>?_⟩;cases e;intro x dx H1 fx s1 hx;refine aj ?_;left;refine ⟨x,_,_,_,rfl,hx,rfl,AA,L,M,_,_,rfl,i.same s1,rfl,En,oH,fun _=>aj ?_,fun e=>by rw [hw] at e; cases e⟩;left;exact ⟨AA,L,M,_,_,dx,_,_,i.same s1,rfl,hx,hn,DF,oH,fun e=>(by rw [hv] at e; cases e),fun _ _=>(q1 _ rfl).of s1⟩
 | free g hn DF oH hw hv =>
  refine ⟨AA,L,M,root,t,_,rfl,sp,i,rfl,g,fun x e=>(by cases e),fun f nm e=>?_⟩;cases e;intro x dx H1 fx s1 hx;refine aj ?_;left;refine ⟨x,_,_,_,rfl,hx,rfl,AA,L,M,_,_,rfl,i.same s1,rfl,En,oH,fun _=>aj ?_,fun e=>by rw [hw] at e; cases e⟩;left;exact ⟨AA,L,M,_,_,dx,_,_,i.same s1,rfl,hx,hn,DF,oH,fun _ H2 s2=>q2 _ _ rfl x dx H2 fx (s1.trans s2) (s2 _ _ hx),fun _ e=>by rw [hv] at e; cases e⟩
def Vq:Sp:=jD fun z H Q _=>z.length<=60/\Q (.bl true) H
def T1:Sp:=jD fun z H Q _=>z.length<=60/\Q .au H
theorem Y3:T.qq.k P w base 1 Vq:=by
 refine T.qq.F.ok Y2 (fun _ _ _ _ h=>eU h fun _ _=>rfl) fun _ A _ s H vs Q E hr h=>eU h fun z h=>?_;obtain ⟨hz,q⟩:=h;refine ⟨_,((ai (aM (xn (cF jw T.fQ fZ (aa (ad 0) (aa (jf (.ty "str") T.my md rfl) ae))) (Dv.one (em qb (cF (kc (K:=K) rfl) T.jg PySem.boot_len (aa (ad 0) ae)) (db (.int 60) T.NB ⟨_,rfl⟩))))))).h,?_⟩;refine stI [some (V.str z)] ?_;left;refine ⟨by decide,bT ⟨fits (by omega),?_⟩⟩;rw [decide_eq_true (show (z.length:Int)<=60 by omega)];exact q
theorem TL:T.pG.k P w base 2 T1:=by
 refine T.pG.F.ok Po (fun _ _ _ _ h=>eU h fun _ _=>rfl) fun _ A _ s H vs Q E hr h=>eU h fun z h=>?_;obtain ⟨hz,q⟩:=h;refine ⟨_,((ai (aW (c9 (cK (bn (Y3 T) hr.m T.qq.m T.qq.F.kp T.qq.b .nil aq (aa (ad 0) ae)))) (ai fz) ce))).h,?_⟩;refine stI [some (V.str z)] ?_;left;exact ⟨hz,aY q⟩
theorem YO:T.ur.k P w mg base 4 (Xo T.aN T.aS):=by
 refine T.ur.F.ok Zj (fun _ _ _ _ h=>JH h fun _ _ _ _ _ _=>rfl) fun _ A _ s H vs Q E hr h=>JH h fun x ow tx mi re h=>?_;obtain ⟨dt,ml,rs,at',eE,q⟩:=h;obtain ⟨fs,c,hx,aP,sf⟩:=at'.o;refine ⟨_,((ai (aM (bf T.cB T.kG.h (AQ T) hr.m T.kG.b .nil aq (ad 0) (aa (db (.str "file") T.Dp ⟨_,rfl⟩) (aa (ad 1) (aa (ad 3) (aa (ad 4) (aa (ad 2) ae))))))))).h,?_⟩;refine stI [some (.ref x),some ow,some tx,some mi,some re] ?_;left;exact ⟨x,dt,fs,rfl,hx,(sf _).trans rfl,dt,ml,rs,at',eE,q⟩
theorem Rq:T.sS.k P w mg base 3 (n6 T.aH T.aN T.aS Ad.a V8):=by
 refine T.sS.F.ok XC (fun _ _ _ _ h=>cv h fun _ _ _=>rfl) fun _ A _ s H vs Q E hr h=>cv h fun x n h=>?_;obtain ⟨AA,L,M,k,a,t,i,rfl,rfl,ha,aQ,q⟩:=h;obtain ⟨fs,c,hx,aP,sf⟩:=i.h;obtain ⟨gs,c2,ht,en,sg⟩:=i.t;have di:=fX i ha aQ;obtain ⟨ks,ho,j3,so⟩:=di.o;refine ⟨_,((ai (aM (bi T.dF T.y9 (ef T.cB T.dN.h (jA T) hr.m T.dN.b .nil fW (bi T.aI T.gx (ad 0)) (aa (ad 1) ae)))))).h,?_⟩;refine stI [some (V.ref AA.a),some (V.int (k:Int))] ?_;left;exact ⟨AA.a,_,_,.ref AA.t,rfl,hx,(sf _).trans rfl,AA.t,_,_,rfl,ht,(sg _).trans rfl,kH i ha aQ (fI ho so rfl q)⟩
def Pl (CH CS CT:Addr):Sp:=K1 fun x n m r H Q _=>X6 fun A L M (k:Nat) a t=>A6 (aG CH CS CT H A L M) (A.t=x) (n=(k:Int)) (L[k]?=some a) (M.ts[k]?=some t) (∀ H',aG CH CS CT H' A L { M with ts:=M.ts.set k { t with mi:=m,re:=r } }->Kp [A.t,a.th] H H'->Q .au H')
theorem Y8:T.rN.k P w mg base 3 (Pl T.aH T.aN T.aS):=by
 refine T.rN.F.ok G9 (fun _ _ _ _ h=>HI h fun _ _ _ _ _=>rfl) fun _ A _ s H vs Q E hr h=>HI h fun x n m r h=>?_;obtain ⟨AA,L,M,k,a,t,i,rfl,rfl,ha,aQ,q⟩:=h;obtain ⟨fs,c,hx,aP,sf⟩:=i.h;obtain ⟨gs,c2,ht,en,sg⟩:=i.t;have di:=fX i ha aQ;obtain ⟨ks,ho,j3,so⟩:=di.o;have off:=i.nq ha;have n1:AA.t≠a.th:=off _ (by simp [Ad.w]) _ (by simp [Ta.l]);have n2:AA.a≠a.th:=off _ (by simp [Ad.w]) _ (by simp [Ta.l]);have n3:=i.own ha;refine ⟨_,((al (aR 4 G9.nd (ef T.cB T.dN.h (jA T) hr.m T.dN.b .nil fW (ad 0) (aa (ad 1) ae)))
 (al (kE T.cB T.vD kj (ad 0) am)
 (al (bG T.dF T.CM (ad 4) (ad 2))
 (ai (bG T.dF T.B1 (ad 4) (ad 3))))))).h,?_⟩
 refine stI [some (V.ref AA.t),some (V.int (k:Int)),some (V.str m),some (V.str r),none] ?_;refine aj ?_;left;refine (mI ht sg (kH i ha aQ ?_));refine aj ?_;left;refine ⟨AA.t,_,_,.int c2,rfl,ht,(sg _).trans rfl,_,_,rfl,rfl,_,_,ht,by omega,aj ?_⟩;left;refine ⟨a.th,_,_,rfl,by rw [ag (Ne.symm n1)]; exact ho,by omega,?_⟩;left;refine ⟨a.th,_,_,rfl,ax,by rw [fE (u:=.str t.mi) ((so _).trans rfl)]; omega,?_⟩;refine q _ (i.write (t':={ t with mi:=m,re:=r }) ha ⟨fs,c,by rw [ag n2,ag n2,ag i.aT]; exact hx,aP,sf⟩ ⟨_,c2+1,by rw [ag n1,ag n1,ax],by rw [fE (u:=.int c2) ((sg _).trans rfl)]; exact en,fun f=>by rw [(sg.put "changes" (.int (c2+1))) f]; rfl⟩ ⟨⟨_,ax,?_,fun f=>((so.put "mine" (.str m)).put "rest" (.str r) f).trans rfl⟩,?_,?_⟩ (fun b o hb e=>?_)) (fun b o hb e=>?_)
 ·rw [fE (u:=.str t.re) (by rw [eB,if_neg (by decide)]; exact (so _).trans rfl),fE (u:=.str t.mi) ((so _).trans rfl)]; exact j3
 ·rw [ag (Ne.symm n3.1),ag (Ne.symm n3.1),ag (Ne.symm (off _ (by simp [Ad.w]) _ (by simp [Ta.l])))]; exact di.nm
 ·rw [ag (Ne.symm n3.2.1),ag (Ne.symm n3.2.1),ag (Ne.symm (off _ (by simp [Ad.w]) _ (by simp [Ta.l])))]; exact di.pl
 ·simp only [List.mem_cons,List.not_mem_nil,or_false,not_or] at hb;rw [ag hb.2.2.1,ag hb.2.2.1,ag hb.2.1]; exact e
 ·simp only [List.mem_cons,List.not_mem_nil,or_false,not_or] at hb;rw [ag hb.2,ag hb.2,ag hb.1]; exact e
section
variable {CH CS CT:Addr} {H H':Hp} {A:Ad} {L:List Ta} {M:Hs}
theorem aG.some (i:aG CH CS CT H A L M):∀ b∈A.w++L.flatMap Ta.l,∃ o,H b=.some o:=fun b hb=>by
 rcases List.mem_append.mp hb with h | h
 ·simp only [Ad.w,List.mem_cons,List.not_mem_nil,or_false] at h;rcases h with rfl | rfl | rfl | rfl | rfl | rfl | rfl | rfl
  ·obtain ⟨_,_,e,_⟩:=i.h; exact ⟨_,e⟩
  ·obtain ⟨_,_,e,_⟩:=i.t; exact ⟨_,e⟩
  ·exact ⟨_,i.ml⟩
  ·exact ⟨_,i.ro⟩
  ·exact ⟨_,i.st⟩
  ·exact ⟨_,i.tr⟩
  ·exact ⟨_,i.ov⟩
  ·exact ⟨_,i.un⟩
 ·obtain ⟨a,ha,hb⟩:=List.mem_flatMap.mp h;obtain ⟨k,hk⟩:=List.getElem?_of_mem ha;have b8:k < M.ts.length:=by rw [<- i.len]; exact (List.getElem?_eq_some_iff.mp hk).1
  obtain ⟨a',e1,t⟩:=i.th k _ (List.getElem?_eq_getElem b8);rw [hk] at e1;cases e1;simp only [Ta.l,List.mem_cons,List.not_mem_nil,or_false] at hb;rcases hb with rfl | rfl | rfl
  ·obtain ⟨_,e,_⟩:=t.o; exact ⟨_,e⟩
  ·exact ⟨_,t.nm⟩
  ·exact ⟨_,t.pl⟩
theorem aG.add {th dw nm pl:Addr} {ks:List (Str×V)} {kd ow mi re tx:Str} (i:aG CH CS CT H A L M) (f1:H th=none) (f2:H nm=none) (f3:H pl=none) (at':kX CS H' A.t A.dt A.ml ((L.map fun a=>V.ref a.th)++[.ref th])) (aQ:H' th=Option.some (.ins CT dw ks)) (kl:ks.length<=40)
  (sk:cZ ks (rW (.int (L.length:Nat)) (.str kd) (.str ow) (.str mi) (.str re) (.str tx) (.ref nm) (.ref pl))) (bZ:H' nm=Option.some (.dK [])) (bj:H' pl=Option.some (.dT [])) (kp:Kp [A.t,A.ml] H H') :
  aG CH CS CT H' A (L++[⟨th,dw,nm,pl⟩]) { M with ts:=M.ts++[⟨kd,ow,mi,re,tx,[],[]⟩] }:=by
 have nd:=i.nd;have sm:=i.some;have nw:∀ b∈A.w++L.flatMap Ta.l,b≠th/\b≠nm/\b≠pl:=fun b hb=>by
  obtain ⟨o,e⟩:=sm b hb;exact ⟨aK e f1,aK e f2,aK e f3⟩
 have vc:th≠nm:=bU aQ bZ (by nofun);have ra:th≠pl:=bU aQ bj (by nofun);have h23:nm≠pl:=bU bZ bj (by nofun);have n0:=nd;rw [List.nodup_append] at n0;obtain ⟨n1,n2,n3⟩:=n0;simp only [Ad.w,List.nodup_cons,List.mem_cons,List.not_mem_nil,or_false,not_or] at n1;have kA:∀ b∈[A.a,A.ro,A.st,A.tr,A.ov,A.un],b ∉ [A.t,A.ml]:=by
  intro b hb hm;simp only [List.mem_cons,List.not_mem_nil,or_false] at hb hm;rcases hb with rfl | rfl | rfl | rfl | rfl | rfl <;> rcases hm with h | h
  ·exact n1.1.1 h
  ·exact n1.1.2.1 h
  ·exact n1.2.1.2.1 h.symm
  ·exact n1.2.2.1.1 h.symm
  ·exact n1.2.1.2.2.1 h.symm
  ·exact n1.2.2.1.2.1 h.symm
  ·exact n1.2.1.2.2.2.1 h.symm
  ·exact n1.2.2.1.2.2.1 h.symm
  ·exact n1.2.1.2.2.2.2.1 h.symm
  ·exact n1.2.2.1.2.2.2.1 h.symm
  ·exact n1.2.1.2.2.2.2.2 h.symm
  ·exact n1.2.2.1.2.2.2.2 h.symm
 refine ⟨?_,at'.o,?_,by simp [i.len],fun j t e=>?_,kp _ _ (kA _ (by simp)) i.ro,kp _ _ (kA _ (by simp)) i.st,kp _ _ (kA _ (by simp)) i.tr,kp _ _ (kA _ (by simp)) i.ov,kp _ _ (kA _ (by simp)) i.un,?_⟩
 ·obtain ⟨fs,c,e,r⟩:=i.h;exact ⟨fs,c,kp _ _ (kA _ (by simp)) e,r⟩
 ·rw [at'.ml]; simp
 ·have e':(M.ts++[(⟨kd,ow,mi,re,tx,[],[]⟩:Th)])[j]?=.some t:=e;by_cases hj:j < M.ts.length
  ·rw [List.getElem?_append_left hj] at e';obtain ⟨a,e1,h1⟩:=i.th j t e';refine ⟨a,by rw [List.getElem?_append_left (by rw [i.len]; exact hj)]; exact e1,h1.keep kp fun b hb hm=>?_⟩;have jY:=jN e1 hb;simp only [List.mem_cons,List.not_mem_nil,or_false] at hm;rcases hm with rfl | rfl
   ·exact n3 _ (by simp [Ad.w]) _ jY rfl
   ·exact n3 _ (by simp [Ad.w]) _ jY rfl
  ·rw [List.getElem?_append_right (by omega)] at e';have hj0:j - M.ts.length=0:=by
    rcases Nat.eq_zero_or_pos (j - M.ts.length) with h | h
    ·exact h
    ·rw [List.getElem?_eq_none (by simp; omega)] at e'; cases e'
   rw [hj0] at e';cases e';have EI:j=L.length:=by rw [i.len]; omega
   subst EI;exact ⟨_,by rw [List.getElem?_append_right (Nat.le_refl _),Nat.sub_self]; rfl,⟨⟨ks,aQ,kl,sk⟩,bZ,bj⟩⟩
 ·rw [List.flatMap_append,<- List.append_assoc,List.nodup_append];refine ⟨nd,?_,fun b hb c hc e=>?_⟩
  ·simp only [List.flatMap_cons,List.flatMap_nil,List.append_nil,Ta.l,List.nodup_cons,List.mem_cons,List.not_mem_nil,or_false,not_or,not_false_eq_true,List.nodup_nil,and_true];exact ⟨⟨vc,ra⟩,h23⟩
  ·obtain ⟨q1,q2,q3⟩:=nw b hb;simp only [List.flatMap_cons,List.flatMap_nil,List.append_nil,Ta.l,List.mem_cons,List.not_mem_nil,or_false] at hc;rcases hc with h | h | h
   ·exact q1 (e.trans h)
   ·exact q2 (e.trans h)
   ·exact q3 (e.trans h)
end
def HC (CH CS CT CE:Addr):Sp:=EZ fun h x n H Q _=>KC fun A L M (f:Nat) (k:Nat) af tf ak tk dx nm=>C0 (aG CH CS CT H A L M) (A.a=h) (H x=some (.ins CE dx (ay "name" (.str nm) (ay "folder" (.int (f:Int)) [])))) (n=(k:Int)) (L[f]?=some af) (M.ts[f]?=some tf) (L[k]?=some ak) (M.ts[k]?=some tk) (f≠k) (aF (sD tf.bb) (.inr nm)=none) (tf.bb.length<=500) (tk.cC=[]) (∀ H',aG CH CS CT H' A L { M with ts:=(M.ts.set f { tf with bb:=tf.bb++[(nm,k)] }).set k { tk with cC:=[(f,nm)] } }->Kp [A.t,af.nm,ak.pl] H H'->Q (.int (k:Int)) H')
theorem zN:T.iB.k P w base 6 (HC T.aH T.aN T.aS T.lC):=by
 refine T.iB.F.ok Qy (fun _ _ _ _ h=>JK h fun _ _ _ _=>rfl) fun _ A _ s H vs Q E hr h=>JK h fun hh x n h=>?_;obtain ⟨AA,L,M,f,k,af,tf,ak,tk,dx,nm,i,rfl,hx,rfl,gO,bK,iE,eC,dY,hv,hl,bj,q⟩:=h;obtain ⟨mM,gc,gh,mK,fk⟩:=i.h;obtain ⟨gs,c2,ht,en,sg⟩:=i.t;refine bD (b:=aV Dj) ((al (aU (bf T.cB T.rK.h (Q9 T) hr.m T.rK.b .nil aq (bi T.aI T.gx (ad 0)) (aa (bi T.nW T.wm (ad 1)) (aa (bi T.nW T.Ds (ad 1)) (aa (ad 2) ae)))))
 (ai (aM (ad 2))))) ?_
 refine stI [some (V.ref AA.a),some (V.ref x),some (V.int (k:Int))] ?_;refine aj ?_;left;exact (fI gh fk rfl (mI ht sg ⟨x,_,_,_,rfl,hx,rfl,x,_,_,_,rfl,hx,rfl,AA,L,M,f,k,af,tf,ak,tk,i,rfl,rfl,rfl,gO,bK,iE,eC,dY,hv,hl,bj,q⟩))
def tD (CH CS CT:Addr) (A:Ad) (L:List Ta) (M:Hs) (f:Nat) (t0:Th) (a0:Ta) (nm kd ow mi re tx:Str) (H:Hp) (Q:VK):Prop :=
 ∀ a H',aG CH CS CT H' A (L++[a]) { M with ts:=M.ts.set f { t0 with bb:=t0.bb++[(nm,M.ts.length)] }++[⟨kd,ow,mi,re,tx,[],[(f,nm)]⟩] }->Kp [A.t,A.ml,a0.nm] H H'->Q (.int (M.ts.length:Nat)) H'
theorem GZ {α:Type} {y b:α}:∀ r:List α,(r++[y]).set r.length b=r++[b]
 | []=>rfl
 | c::r=>by simp only [List.cons_append,List.length_cons,List.set_cons_succ]; rw [GZ r]
theorem Vz {α:Type}:∀ {xs:List α} {f:Nat} {y a b:α},f < xs.length->((xs++[y]).set f a).set xs.length b=xs.set f a++[b]:=fun {xs f y a b} h=>by
 rw [List.set_append_left _ _ h];have:=GZ (y:=y) (b:=b) (xs.set f a)
 rwa [List.length_set] at this
theorem AX {CH CS CT CE:Addr} {H:Hp} {A:Ad} {L:List Ta} {M:Hs} {f:Nat} {z nm kd mi re tx:Str} {a0:Ta} {t0:Th} {x dx:Addr} {Q:VK} {E:XK} (i:aG CH CS CT H A L M) (iH:L[f]?=some a0) (gA:M.ts[f]?=some t0) (hx:H x=some (.ins CE dx (ay "name" (.str nm) (ay "folder" (.int (f:Int)) [])))) (hv:aF (sD t0.bb) (.inr nm)=none) (hl:t0.bb.length<=400)
  (nx1:x≠A.t) (mp:tD CH CS CT A L M f t0 a0 nm kd z mi re tx H Q):tm CS CT A.t A.dt A.ml (L.map fun a=>V.ref a.th) (.str kd) (.str z) (.str mi) (.str re) (.str tx) H (fun v H'=>HC CH CS CT CE [.ref A.a,.ref x,v] H' Q E):=by
 intro th dw nm' pl ks H' f1 f2 f3 at' aQ kl sk bZ bj kp;have nx2:x≠A.ml:=bU hx i.ml (by nofun);have hlen:(L.map fun a=>V.ref a.th).length=L.length:=List.length_map _;rw [hlen] at sk ⊢;have i2:=i.add f1 f2 f3 at' aQ kl sk bZ bj kp;have h0:f < M.ts.length:=(List.getElem?_eq_some_iff.mp gA).1;have Ed:=i.len;have e0:(M.ts++[(⟨kd,z,mi,re,tx,[],[]⟩:Th)])[f]?=some t0:=by rw [List.getElem?_append_left h0]; exact gA
 have ek:(M.ts++[(⟨kd,z,mi,re,tx,[],[]⟩:Th)])[L.length]?=some ⟨kd,z,mi,re,tx,[],[]⟩:=by rw [Ed,List.getElem?_append_right (Nat.le_refl _),Nat.sub_self]; rfl
 refine ⟨A,L++[⟨th,dw,nm',pl⟩],_,f,L.length,a0,t0,⟨th,dw,nm',pl⟩,⟨kd,z,mi,re,tx,[],[]⟩,dx,nm,i2,rfl,kp _ _ (by simp [nx1,nx2]) hx,rfl,by rw [List.getElem?_append_left (by omega)]; exact iH,e0,by rw [List.getElem?_append_right (Nat.le_refl _),Nat.sub_self]; rfl,ek,by omega,hv,by omega,rfl,fun H2 i3 k3=>?_⟩;have:=mp ⟨th,dw,nm',pl⟩ H2 (by
  have e:=i3;dsimp only at e;rw [Ed] at e;rw [Vz h0] at e;exact e) (fun b o hb e=>?_)
 ·rw [Ed]; exact this
 ·simp only [List.mem_cons,List.not_mem_nil,or_false,not_or] at hb;have nbp:b≠pl:=aK e f3;exact k3 _ _ (by simp [hb.1,hb.2.2,nbp]) (kp _ _ (by simp [hb.1,hb.2.1]) e)
theorem zG (i:aG CH CS CT H A L M):kX CS H A.t A.dt A.ml (L.map fun a=>V.ref a.th):=⟨i.t,i.ml⟩
theorem tD.of (s:ah H H1) (m:tD CH CS CT A L M f t0 a0 nm kd ow mi re tx H Q):tD CH CS CT A L M f t0 a0 nm kd ow mi re tx H1 Q:=fun a H' i k=>m a H' i ((Kp.of s).trans k)
def RK (K:PySem.W.Frag):Sp:=jD fun pt H Q _=>X1 fun t=>A4 (pt=Tx.S t) (eN t) (t.length<=120) (∀ H',ah H H'->Q .au H')
theorem Sd:T.pK.k P w base 4 (RK K):=by
 refine T.pK.F.ok Uq (fun _ _ _ _ h=>eU h fun _ _=>rfl) fun _ A _ s H vs Q E hr h=>eU h fun pt h=>?_;obtain ⟨t,rfl,pt,hl,q⟩:=h;refine bD (b:=aV y8) ((al (aU (bn (ke T) hr.m T.cH.m T.cH.F.kp T.cH.b .nil aq (aa (ad 0) ae)))
 (ai (aW (aZ tV (cF (kc (K:=K) rfl) T.jg PySem.boot_len (aa (ad 0) ae)) (db (.int 120) T.VS ⟨_,rfl⟩)) (ai fz) ce)))) ?_
 refine stI [some (V.str (Tx.S t))] ?_;refine aj ?_;left;refine ⟨t,rfl,pt.l1,pt.l2,pt.all,fun H1 l p s1 _ _ _=>?_⟩;left;refine ⟨by rw [Tx.cq]; exact fits (by omega),?_⟩;rw [Tx.cq,decide_eq_false (show ¬ (t.length:Int) > 120 by omega)];exact aY (q _ s1)
theorem Oj:T.rQ.k P w mg base 4 (T7 T.aN T.aS):=by
 refine T.rQ.F.ok Vn (fun _ _ _ _ h=>lG h fun _ _ _ _=>rfl) fun _ A _ s H vs Q E hr h=>lG h fun x ow tx h=>?_;obtain ⟨dt,ml,rs,at',eE,q⟩:=h;obtain ⟨fs,c,hx,aP,sf⟩:=at'.o;refine ⟨_,((ai (aM (bf T.cB T.kG.h (AQ T) hr.m T.kG.b .nil aq (ad 0) (aa (db (.str "lead") T.Zr ⟨_,rfl⟩) (aa (ad 1) (aa ap (aa ap (aa (ad 2) ae))))))))).h,?_⟩;refine stI [some (.ref x),some ow,some tx] ?_;left;exact ⟨x,dt,fs,rfl,hx,(sf _).trans rfl,dt,ml,rs,at',eE,q⟩
structure wa (N:Cn) (H:Hp) (A:Ad) (L:List Ta) (M:Hs) (z:Str) (t:List Nat) (kd mi re tx:Str) (Q:VK) (E:XK):Prop where
 i:aG N.CH N.CS N.CT H A L M
 p:eN t
 hz:(aF (sD M.ro) (.inr z)).isSome=true
 lH:mi∈iN
 iV:re∈iN
 hL:L.length<=400
 hl:∀ (f:Nat) t0,M.ts[f]?=some t0->t0.bb.length<=400
 r:∃ root r,nJ ⟨L,M,z,true,root⟩ t r/\(∀ x,r=.inl x->du N H E x)/\∀ f nm a0 t0,r=.inr (f,nm)->L[f]?=some a0->M.ts[f]?=some t0->tD N.CH N.CS N.CT A L M f t0 a0 (Tx.S nm) kd z mi re tx H Q
def WD (N:Cn):Sp:=zl fun h z pt mi re H Q E=>X4 fun A L M t=>A3 (pt=Tx.S t) (wa N H A L M z t "folder" mi re "" Q E) (A.a=h)
def V2 (N:Cn):Sp:=G8 fun h z pt tx mi re H Q E=>X4 fun A L M t=>A4 (pt=Tx.S t) (wa N H A L M z t "file" mi re tx Q E) (A.a=h) (tx.length<=60)
theorem Xn:az P w K mg base (cM P w) 15 T.DY T.uV ["house","asker","path","mine","rest"] (WD T.cn):=by
 refine T.xj.dP Fw (fun vs H Q E h=>?_) (fun _ A _ s H vs Q E hr h=>?_)
 ·exact xx h fun _ _ _ _ _ _=>rfl
 ·refine xx h fun hh z pt mi re h=>?_;obtain ⟨AA,L,M,t,rfl,pr,rfl⟩:=h;obtain ⟨mM,gc,gh,mK,fk⟩:=pr.i.h;obtain ⟨root,r,eF,q1,q2⟩:=pr.r;refine bD (b:=aV qc) ((al (aU (ef T.aI T.eL.h (lY T) hr.m T.eL.b .nil cS (ad 0) (aa (ad 1) ae)))
  (al (aU (bn (ke T) hr.m T.cH.m T.cH.F.kp T.cH.b .nil aq (aa (ad 2) ae)))
  (al (aU (bn (qi T) hr.m T.eg.m T.eg.F.kp T.eg.b .nil aq (aa (ad 3) ae)))
  (al (aU (bn (qi T) hr.m T.eg.m T.eg.F.kp T.eg.b .nil aq (aa (ad 4) ae)))
  (al (aR 5 Fw.nd (dR (B3 T) hr.m T.iw.m T.iw.F.kp T.iw.b .nil cS (aa (ad 0) (aa (ad 1) (aa (ad 2) ae)))))
  (ai (aM (bn (zN T) hr.m T.iB.m T.iB.F.kp T.iB.b .nil aq (aa (ad 0) (aa (ad 5) (aa (bf T.cB T.nQ.h (G2 T) hr.m T.nQ.b .nil aq (bi T.aI T.gx (ad 0)) (aa (ad 1) (aa (ad 3) (aa (ad 4) ae)))) ae)))))))))))) ?_
  refine stI [some (V.ref AA.a),some (V.str z),some (V.str (Tx.S t)),some (V.str mi),some (V.str re),none] ?_;refine aj ?_;left;refine (mI gh fk (ni pr.i pr.hz (aj ?_)));left;refine ⟨t,rfl,pr.p.l1,pr.p.l2,pr.p.all,fun H1 l p s1 _ hl hp=>aj ?_⟩;left;refine ⟨pr.lH,aj ?_⟩;left;refine ⟨pr.iV,aj ?_⟩;left;refine ⟨AA,L,M,root,t,r,rfl,pr.p,pr.i.same s1,rfl,pr.hz,eF,fun x e=>(q1 x e).of s1,fun f nm e x dx H2 fx s2 hx=>?_⟩;left;have i2:=pr.i.same (s1.trans s2);obtain ⟨EV,EF,mV,EE,mF⟩:=i2.h;obtain ⟨gs,c2,ht,en,sg⟩:=i2.t;obtain ⟨_,_,lB,_⟩:=(pr.i.same s1).t;subst e;cases eF with
  | free g hn iH gA hw hv =>
   refine (fI mV mF rfl (mI ht sg ⟨AA.dt,AA.ml,_,zG i2,by rw [List.length_map]; have:=pr.hL; omega,AX i2 iH gA hx hv (pr.hl _ _ gA) (Ne.symm (aK lB fx)) ((q2 _ _ _ _ rfl iH gA).of (s1.trans s2))⟩))
theorem T3:az P w K mg base (cM P w) 15 T.DP T.u3 ["house","asker","path","text","mine","rest"] (V2 T.cn):=by
 refine T.wq.dP Gg (fun vs H Q E h=>?_) (fun _ A _ s H vs Q E hr h=>?_)
 ·exact JJ h fun _ _ _ _ _ _ _=>rfl
 ·refine JJ h fun hh z pt tx mi re h=>?_;obtain ⟨AA,L,M,t,rfl,pr,rfl,jR⟩:=h;obtain ⟨mM,gc,gh,mK,fk⟩:=pr.i.h;obtain ⟨root,r,eF,q1,q2⟩:=pr.r;refine bD (b:=aV pW) ((al (aU (ef T.aI T.eL.h (lY T) hr.m T.eL.b .nil cS (ad 0) (aa (ad 1) ae)))
  (al (aU (bn (ke T) hr.m T.cH.m T.cH.F.kp T.cH.b .nil aq (aa (ad 2) ae)))
  (al (aU (bn (qi T) hr.m T.eg.m T.eg.F.kp T.eg.b .nil aq (aa (ad 4) ae)))
  (al (aU (bn (qi T) hr.m T.eg.m T.eg.F.kp T.eg.b .nil aq (aa (ad 5) ae)))
  (al (aU (bn (TL T) hr.m T.pG.m T.pG.F.kp T.pG.b .nil aq (aa (ad 3) ae)))
  (al (aR 6 Gg.nd (dR (B3 T) hr.m T.iw.m T.iw.F.kp T.iw.b .nil cS (aa (ad 0) (aa (ad 1) (aa (ad 2) ae)))))
  (ai (aM (bn (zN T) hr.m T.iB.m T.iB.F.kp T.iB.b .nil aq (aa (ad 0) (aa (ad 6) (aa (bf T.cB T.ur.h (YO T) hr.m T.ur.b .nil aq (bi T.aI T.gx (ad 0)) (aa (ad 1) (aa (ad 3) (aa (ad 4) (aa (ad 5) ae))))) ae))))))))))))) ?_
  refine stI [some (V.ref AA.a),some (V.str z),some (V.str (Tx.S t)),some (V.str tx),some (V.str mi),some (V.str re),none] ?_;refine aj ?_;left;refine (mI gh fk (ni pr.i pr.hz (aj ?_)));left;refine ⟨t,rfl,pr.p.l1,pr.p.l2,pr.p.all,fun H1 l p s1 _ hl hp=>aj ?_⟩;left;refine ⟨pr.lH,aj ?_⟩;left;refine ⟨pr.iV,aj ?_⟩;left;refine ⟨jR,aj ?_⟩;left;refine ⟨AA,L,M,root,t,r,rfl,pr.p,pr.i.same s1,rfl,pr.hz,eF,fun x e=>(q1 x e).of s1,fun f nm e x dx H2 fx s2 hx=>?_⟩;left;have i2:=pr.i.same (s1.trans s2);obtain ⟨EV,EF,mV,EE,mF⟩:=i2.h;obtain ⟨gs,c2,ht,en,sg⟩:=i2.t;obtain ⟨_,_,lB,_⟩:=(pr.i.same s1).t;subst e;cases eF with
  | free g hn iH gA hw hv =>
   refine (fI mV mF rfl (mI ht sg ⟨AA.dt,AA.ml,_,zG i2,by rw [List.length_map]; have:=pr.hL; omega,AX i2 iH gA hx hv (pr.hl _ _ gA) (Ne.symm (aK lB fx)) ((q2 _ _ _ _ rfl iH gA).of (s1.trans s2))⟩))
def Pj (N:Cn):Sp:=GR fun h z pt tx H Q E=>X5 fun A L M t tl=>A6 (pt=Tx.S t) (tx=Tx.S tl) (wa N H A L M z t "lead" "" "" tx Q E) (A.a=h) (eN tl) (tl.length<=120)
theorem Pt:az P w K mg base (cM P w) 15 T.qp.f T.qp.d ["house","asker","path","lead"] (Pj T.cn):=by
 refine T.qp.F.dP FH (fun _ _ _ _ h=>G6 h fun _ _ _ _ _=>rfl) fun _ A _ s H vs Q E hr h=>G6 h fun hh z pt tx h=>?_;obtain ⟨AA,L,M,t,tl,rfl,rfl,pr,rfl,oI,My⟩:=h;obtain ⟨mM,gc,gh,mK,fk⟩:=pr.i.h;obtain ⟨root,r,eF,q1,q2⟩:=pr.r;refine bD (b:=aV Be) ((al (aU (ef T.aI T.eL.h (lY T) hr.m T.eL.b .nil cS (ad 0) (aa (ad 1) ae)))
 (al (aU (bn (ke T) hr.m T.cH.m T.cH.F.kp T.cH.b .nil aq (aa (ad 2) ae)))
 (al (aU (bn (Sd T) hr.m T.pK.m T.pK.F.kp T.pK.b .nil aq (aa (ad 3) ae)))
 (al (aR 4 FH.nd (dR (B3 T) hr.m T.iw.m T.iw.F.kp T.iw.b .nil cS (aa (ad 0) (aa (ad 1) (aa (ad 2) ae)))))
 (ai (aM (bn (zN T) hr.m T.iB.m T.iB.F.kp T.iB.b .nil aq (aa (ad 0) (aa (ad 4) (aa (bf T.cB T.rQ.h (Oj T) hr.m T.rQ.b .nil aq (bi T.aI T.gx (ad 0)) (aa (ad 1) (aa (ad 3) ae))) ae))))))))))) ?_
 refine stI [some (V.ref AA.a),some (V.str z),some (V.str (Tx.S t)),some (V.str (Tx.S tl)),none] ?_;refine aj ?_;left;refine (mI gh fk (ni pr.i pr.hz (aj ?_)));left;refine ⟨t,rfl,pr.p.l1,pr.p.l2,pr.p.all,fun H1 l p s1 _ hl hp=>aj ?_⟩;left;refine ⟨tl,rfl,oI,My,fun H1' s1'=>aj ?_⟩
 replace s1:=s1.trans s1'
 clear hl hp;generalize H1'=H1 at s1 ⊢;left;refine ⟨AA,L,M,root,t,r,rfl,pr.p,pr.i.same s1,rfl,pr.hz,eF,fun x e=>(q1 x e).of s1,fun f nm e x dx H2 fx s2 hx=>?_⟩;left;have i2:=pr.i.same (s1.trans s2);obtain ⟨EV,EF,mV,EE,mF⟩:=i2.h;obtain ⟨gs,c2,ht,en,sg⟩:=i2.t;obtain ⟨_,_,lB,_⟩:=(pr.i.same s1).t;subst e;cases eF with
 | free g hn iH gA hw hv =>
  refine (fI mV mF rfl (mI ht sg ⟨AA.dt,AA.ml,_,zG i2,by rw [List.length_map]; have:=pr.hL; omega,AX i2 iH gA hx hv (pr.hl _ _ gA) (Ne.symm (aK lB fx)) ((q2 _ _ _ _ rfl iH gA).of (s1.trans s2))⟩))
inductive ph (d:Wd) (t:List Nat):Sum Rf Nat->Prop
 | way {e}:eJ d t e->(∀ k ns,e.res≠.found k ns)->ph d t (.inl (.way e.res))
 | file {e k ns a th}:eJ d t e->e.res=.found k ns->d.L[k]?=some a->d.M.ts[k]?=some th->th.kd≠("folder" : Str)->ph d t (.inl (.eY "file"))
 | ok {e k ns a th}:eJ d t e->e.res=.found k ns->d.L[k]?=some a->d.M.ts[k]?=some th->th.kd=("folder" : Str)->ph d t (.inr k)
def Y7 (N:Cn):Sp:=lI fun x z pt H Q E=>X6 fun A L M root t r=>A7 (pt=Tx.S t) (aG N.CH N.CS N.CT H A L M) (A.a=x) (ph ⟨L,M,z,true,root⟩ t r) (M.st.length<=40) (∀ x,r=.inl x->du N H E x) (∀ k,r=.inr k->∀ H',aG N.CH N.CS N.CT H' A L { M with st:=de M.st z k }->Kp [A.a,A.st] H H'->Q .au H')
theorem OS:az P w K mg base (cM P w) 17 T.qd.f T.qd.d ["house","asker","path"] (Y7 T.cn):=by
 refine T.qd.F.dP R5 (fun _ _ _ _ h=>gy h fun _ _ _ _=>rfl) fun _ A _ s H vs Q E hr h=>gy h fun x z pt h=>?_;obtain ⟨AA,L,M,root,t,r,rfl,i,rfl,eF,hl,q1,q2⟩:=h;obtain ⟨fs,c,hx,aP,sf⟩:=i.h;refine bD (b:=aV Cp) ((ai (aU (bf T.aI T.iQ.h (Kz T) hr.m T.iQ.b .nil aq (ad 0) (aa (ad 1) (aa (dR (Ft T) hr.m T.kh.m T.kh.F.kp T.kh.b .nil cS (aa (ad 0) (aa (ad 1) (aa (ad 2) ae)))) ae)))))) ?_;refine stI [some (V.ref AA.a),some (V.str z),some (V.str (Tx.S t))] ?_;left;have hq:∃ e,eJ ⟨L,M,z,true,root⟩ t e/\((∀ k ns,e.res≠.found k ns)->r=.inl (.way e.res))/\∀ k ns,e.res=.found k ns->∃ a th,L[k]?=some a/\M.ts[k]?=some th/\(th.kd=("folder" : Str)->r=.inr k)/\(th.kd≠("folder" : Str)->r=.inl (.eY "file")):=by
  cases eF with
  | way h1 h2=>exact ⟨_,h1,fun _=>rfl,fun k ns e=>absurd e (h2 k ns)⟩
  | file h1 h2 h3 h4 h5=>exact ⟨_,h1,fun k=>absurd h2 (k _ _),fun k ns e=>by rw [h2] at e; cases e; exact ⟨_,_,h3,h4,fun z=>absurd z h5,fun _=>rfl⟩⟩
  | ok h1 h2 h3 h4 h5=>exact ⟨_,h1,fun k=>absurd h2 (k _ _),fun k ns e=>by rw [h2] at e; cases e; exact ⟨_,_,h3,h4,fun _=>rfl,fun z=>absurd h5 z⟩⟩
 obtain ⟨e,pg,g1,g2⟩:=hq;refine (mI hx sf ⟨AA,L,M,root,t,e,rfl,i,rfl,pg,fun k ns he=>?_,fun hn=>q1 _ (g1 hn)⟩)
 ·obtain ⟨a,th,ha,aQ,r1,r2⟩:=g2 k ns he;exact ⟨a,th,ha,aQ,fun hk H1 s1=>⟨AA,L,M,k,i.same s1,rfl,rfl,hl,fun H' i' k'=>q2 _ (r1 hk) H' i' ((Kp.of s1).trans k')⟩,fun hk=>q1 _ (r2 hk)⟩
inductive vm (d:Wd) (t:List Nat):Sum Rf Nat->Prop
 | way {e}:eJ d t e->(∀ k ns,e.res≠.found k ns)->vm d t (.inl (.way e.res))
 | TC {e k ns a th}:eJ d t e->e.res=.found k ns->d.L[k]?=some a->d.M.ts[k]?=some th->th.ow≠d.z->vm d t (.inl (.eY "mine"))
 | ok {e k ns a th}:eJ d t e->e.res=.found k ns->d.L[k]?=some a->d.M.ts[k]?=some th->th.ow=d.z->vm d t (.inr k)
def W8 (N:Cn):Sp:=zl fun h z pt m r H Q E=>X6 fun A L M root t x=>A8 (pt=Tx.S t) (aG N.CH N.CS N.CT H A L M) (A.a=h) (vm ⟨L,M,z,true,root⟩ t x) (m∈iN) (r∈iN) (∀ y,x=.inl y->du N H E y) (∀ k a th,x=.inr k->L[k]?=some a->M.ts[k]?=some th ->
   ∀ H',aG N.CH N.CS N.CT H' A L { M with ts:=M.ts.set k { th with mi:=m,re:=r } }->Kp [A.t,a.th] H H'->Q .au H')
theorem Ur:az P w K mg base (cM P w) 16 T.qa.f T.qa.d ["house","asker","path","mine","rest"] (W8 T.cn):=by
 refine T.qa.F.dP Jt (fun _ _ _ _ h=>xx h fun _ _ _ _ _ _=>rfl) fun _ A _ s H vs Q E hr h=>xx h fun hh z pt m r h=>?_;obtain ⟨AA,L,M,root,tt,x,rfl,i,rfl,hx,hm,hr',q1,q2⟩:=h;obtain ⟨e,pa,g1,g2⟩:∃ e,eJ ⟨L,M,z,true,root⟩ tt e/\((∀ k ns,e.res≠.found k ns)->x=.inl (.way e.res))/\∀ k ns,e.res=.found k ns->∃ a th,L[k]?=some a/\M.ts[k]?=some th/\(th.ow=z->x=.inr k)/\(th.ow≠z->x=.inl (.eY "mine")):=by
  cases hx with
  | way h1 h2=>exact ⟨_,h1,fun _=>rfl,fun k ns e=>absurd e (h2 k ns)⟩
  | TC h1 h2 h3 h4 h5=>exact ⟨_,h1,fun k=>absurd h2 (k _ _),fun k ns e=>by rw [h2] at e; cases e; exact ⟨_,_,h3,h4,fun z=>absurd z h5,fun _=>rfl⟩⟩
  | ok h1 h2 h3 h4 h5=>exact ⟨_,h1,fun k=>absurd h2 (k _ _),fun k ns e=>by rw [h2] at e; cases e; exact ⟨_,_,h3,h4,fun _=>rfl,fun z=>absurd h5 z⟩⟩
 obtain ⟨mM,gc,gh,mK,fk⟩:=i.h;refine bD (b:=aV yI) ((al (aU (ef T.aI T.eL.h (lY T) hr.m T.eL.b .nil cS (ad 0) (aa (ad 1) ae)))
 (al (aU (bn (ke T) hr.m T.cH.m T.cH.F.kp T.cH.b .nil aq (aa (ad 2) ae)))
 (al (aU (bn (qi T) hr.m T.eg.m T.eg.F.kp T.eg.b .nil aq (aa (ad 3) ae)))
 (al (aU (bn (qi T) hr.m T.eg.m T.eg.F.kp T.eg.b .nil aq (aa (ad 4) ae)))
 (al (aR 5 Jt.nd (dR (Lg T) hr.m T.kQ.m T.kQ.F.kp T.kQ.b .nil cS (aa (ad 0) (aa (ad 1) (aa (ad 2) ae)))))
 (al (aW (aZ lK (bf T.aI T.sS.h (Rq T) hr.m T.sS.b .nil aq (ad 0) (aa (ad 5) ae)) (ad 1)) (ai (pE pU rfl rfl T.tN T.pB T.sQ (si T) hr.m T.kR.b (aa ap ae))) ce)
 (ai (aU (bf T.cB T.rN.h (Y8 T) hr.m T.rN.b .nil aq (bi T.aI T.gx (ad 0)) (aa (ad 5) (aa (ad 3) (aa (ad 4) ae))))))))))))) ?_
 refine stI [some (V.ref AA.a),some (V.str z),some (V.str (Tx.S tt)),some (V.str m),some (V.str r),none] ?_;refine aj ?_;left;refine (mI gh fk (ni i pa.hz (aj ?_)));left;refine ⟨tt,rfl,pa.l1,pa.l2,pa.all,fun H1 l p s1 _ hl hp=>aj ?_⟩;left;refine ⟨hm,aj ?_⟩;left;refine ⟨hr',aj ?_⟩;left;refine ⟨AA,L,M,root,tt,e,rfl,i.same s1,rfl,pa,fun k ns he H2 s2=>aj ?_,fun hn=>(q1 _ (g1 hn)).of s1⟩
 ·left;have i2:=i.same (s1.trans s2);obtain ⟨EV,EF,mV,EE,mF⟩:=i2.h;obtain ⟨gs,c2,mL,en,sg⟩:=i2.t;obtain ⟨a,t,ha,ht,g3,g4⟩:=g2 k ns he;refine (mI mV mF ⟨AA,L,M,k,a,t,i2,rfl,rfl,ha,ht,?_⟩);show (if (!decide (t.ow=z))=true then _ else _);by_cases how:t.ow=z
  ·rw [decide_eq_true how];exact aY (fI mV mF rfl (mI mL sg ⟨AA,L,M,k,a,t,i2,rfl,rfl,ha,ht,fun H3 i3 k3=>q2 k a t (g3 how) ha ht H3 i3 ((Kp.of (s1.trans s2)).trans k3)⟩))
  ·rw [decide_eq_false how];exact bT ⟨_,rfl,fun d hd=>(q1 _ (g4 how)).raise (s1.trans s2) hd⟩
def X0 (N:Cn):Sp:=lI fun x z pt H Q E=>X6 fun A L M root t r=>A8 (pt=Tx.S t) (aG N.CH N.CS N.CT H A L M) (A.a=x) (ph ⟨L,M,z,true,root⟩ t r) (M.st.length<=40) (M.ro.length<=40) (∀ x,r=.inl x->du N H E x) (∀ k,r=.inr k->∀ H',aG N.CH N.CS N.CT H' A L { M with ro:=de M.ro z k,st:=de M.st z k }->Kp [A.a,A.ro,A.st] H H'->Q .au H')
theorem Tn:az P w K mg base (cM P w) 17 T.oP.f T.oP.d ["house","asker","path"] (X0 T.cn):=by
 refine T.oP.F.dP Jj (fun _ _ _ _ h=>gy h fun _ _ _ _=>rfl) fun _ A _ s H vs Q E hr h=>gy h fun x z pt h=>?_;obtain ⟨AA,L,M,root,t,r,rfl,i,rfl,eF,hl,hlr,q1,q2⟩:=h;refine bD (b:=aV B5) ((al (aR 3 Jj.nd (dR (Ft T) hr.m T.kh.m T.kh.F.kp T.kh.b .nil cS (aa (ad 0) (aa (ad 1) (aa (ad 2) ae)))))
 (al (aU (bf T.aI T.kD.h (Yc T) hr.m T.kD.b .nil aq (ad 0) (aa (ad 1) (aa (ad 3) ae))))
 (ai (aU (bf T.aI T.iQ.h (Kz T) hr.m T.iQ.b .nil aq (ad 0) (aa (ad 1) (aa (ad 3) ae)))))))) ?_
 refine stI [some (V.ref AA.a),some (V.str z),some (V.str (Tx.S t)),none] ?_;obtain ⟨e,pg,g1,g2⟩:∃ e,eJ ⟨L,M,z,true,root⟩ t e/\((∀ k ns,e.res≠.found k ns)->r=.inl (.way e.res))/\∀ k ns,e.res=.found k ns->∃ a th,L[k]?=some a/\M.ts[k]?=some th/\(th.kd=("folder" : Str)->r=.inr k)/\(th.kd≠("folder" : Str)->r=.inl (.eY "file")):=by
  cases eF with
  | way h1 h2=>exact ⟨_,h1,fun _=>rfl,fun k ns e=>absurd e (h2 k ns)⟩
  | file h1 h2 h3 h4 h5=>exact ⟨_,h1,fun k=>absurd h2 (k _ _),fun k ns e=>by rw [h2] at e; cases e; exact ⟨_,_,h3,h4,fun z=>absurd z h5,fun _=>rfl⟩⟩
  | ok h1 h2 h3 h4 h5=>exact ⟨_,h1,fun k=>absurd h2 (k _ _),fun k ns e=>by rw [h2] at e; cases e; exact ⟨_,_,h3,h4,fun _=>rfl,fun z=>absurd h5 z⟩⟩
 refine aj ?_;left;refine ⟨AA,L,M,root,t,e,rfl,i,rfl,pg,fun k ns he=>?_,fun hn=>q1 _ (g1 hn)⟩
 ·obtain ⟨a,th,ha,aQ,r1,r2⟩:=g2 k ns he;refine ⟨a,th,ha,aQ,fun hk H1 s1=>aj ?_,fun hk=>q1 _ (r2 hk)⟩;have i1:=i.same s1;obtain ⟨gm,c1,bx,gK,cE⟩:=i1.h;left;refine (mI bx cE ⟨AA,L,M,k,i1,rfl,rfl,hlr,fun H2 i2 k2=>?_⟩);obtain ⟨ia,c2,b7,gI,cb⟩:=i2.h;left;exact (mI b7 cb ⟨AA,L,_,k,i2,rfl,rfl,hl,fun H3 i3 k3=>q2 _ (r1 hk) H3 i3 ((Kp.of s1).trans ((k2.more (by simp)).trans (k3.more (by simp))))⟩)
def AS:List Str:=["ann","bo","cy"]
inductive cG (M:Hs) (r:Nat):Nat->Prop
 | refl:cG M r r
 | up {k f nm t}:M.ts[k]?=some t->t.cC=[(f,nm)]->cG M r f->cG M r k
structure tj (M:Hs) (k:Nat) (t:Th):Prop where
 nl:t.bb.length<=M.ts.length
 kd:t.kd=("folder" : Str)\/t.kd=("file" : Str)\/t.kd=("lead" : Str)
 ld:t.kd=("lead" : Str)->∃ tl,t.tx=Tx.S tl/\eN tl/\tl.length<=120
 pl:k=0/\t.cC=[]\/∃ (f:Nat) (nm:Str) (tf:Th),f < k/\t.cC=[(f,nm)]/\nm.length<=8/\M.ts[f]?=some tf/\tf.kd=("folder" : Str)
 ch:∀ z v,aF (sD t.bb) (.inr z)=some v->∃ (c:Nat) (tc:Th),v=.int (c:Int)/\M.ts[c]?=some tc/\tc.cC=[(k,z)]
structure Cq (M:Hs) (z:Str) (r k:Nat):Prop where
 ro:aF (sD M.ro) (.inr z)=some (.int (r:Int))
 st:aF (sD M.st) (.inr z)=some (.int (k:Int))
 b:cG M r k
 tr:∃ t,M.ts[r]?=some t/\t.kd=("folder" : Str)
 tk:∃ t,M.ts[k]?=some t/\t.kd=("folder" : Str)
structure Gd (M:Hs):Prop where
 tr:M.tr=[(("main" : Str),0)]
 ov:M.ov=[]
 un:M.un=[]
 as:∀ z∈AS,∃ r k,Cq M z r k
 rl:M.ro.length<=3
 sl:M.st.length<=3
 t0:∃ t,M.ts[0]?=some t/\t.kd=("folder" : Str)
 th:∀ k t,M.ts[k]?=some t->tj M k t
def l8 (p:Str):Prop:=p=("." : Str)\/p=(".." : Str)\/fF (.str p)=true/\p.length<=8
theorem Gv (h:cz wd=true):l8 (Tx.S wd):=by
 unfold cz at h;simp only [Bool.or_eq_true,decide_eq_true_eq] at h;rcases h with (rfl | rfl) | h
 ·exact .inl (by decide +kernel)
 ·exact .inr (.inl (by decide +kernel))
 ·exact .inr (.inr ⟨zY h,by rw [Tx.cq]; exact (vH h).2.2.2⟩)
theorem P0 {t:Th} (h:t.kd=("file" : Str)\/t.kd=("lead" : Str)):t.kd≠("folder" : Str):=by rcases h with h | h <;> rw [h] <;> decide +kernel
theorem Y1 {t:Th} (h:t.kd=("lead" : Str)):t.kd≠("file" : Str):=by rw [h]; decide +kernel
section
variable {M:Hs} {L:List Ta} {z:Str} {r:Nat}
theorem adr (hL:L.length=M.ts.length) {k:Nat} {t:Th} (h:M.ts[k]?=some t):∃ a,L[k]?=some a :=
 ⟨_,List.getElem?_eq_getElem (by rw [hL]; exact (List.getElem?_eq_some_iff.mp h).1)⟩
theorem Gd.dq (g:Gd M) (k:Nat):dh M k k [] :=
 ⟨⟨0,by unfold kT; rw [g.un]; exact ⟨rfl,rfl⟩⟩,0,by unfold jv; rw [g.ov]; exact ⟨rfl,rfl⟩,Nat.zero_le _⟩
theorem Gd.j8 (g:Gd M) {k b:Nat} {r:List Nat} (h:dh M k b r):b=k/\r=[]:=by
 obtain ⟨⟨n,h1⟩,n2,h2,_⟩:=h;refine ⟨?_,?_⟩
 ·cases n with
  | zero=>exact h1.2
  | succ n=>obtain ⟨k',e,_⟩:=h1; rw [g.un] at e; cases e
 ·cases n2 with
  | zero=>exact h2.2
  | succ n=>obtain ⟨k',r,e,_⟩:=h2; rw [g.ov] at e; cases e
theorem ji:gb r [k]=decide (k=r):=by
 unfold gb;by_cases h:k=r
 ·simp [h]
 ·simp [h]
theorem Gd.par (g:Gd M) (ht:M.ts[k]?=some t) (hb:cG M r k) (hk:k≠r):∃ (f:Nat) (nm:Str) (tf:Th),f < k/\t.cC=[(f,nm)]/\nm.length<=8/\M.ts[f]?=some tf/\tf.kd=("folder" : Str)/\cG M r f:=by
 cases hb with
 | refl=>exact absurd rfl hk
 | up h1 h2 h3 =>
  rw [ht] at h1; cases h1;rcases (g.th k t ht).pl with ⟨_,e⟩ | ⟨f,nm,tf,hf,hp,hl,bK,dC⟩
  ·rw [e] at h2; cases h2
  ·rw [hp] at h2; cases h2;exact ⟨_,_,tf,hf,hp,hl,bK,dC,h3⟩
theorem Gd.seen (g:Gd M) (hL:L.length=M.ts.length):∀ (n k:Nat) (t:Th),k<=n->M.ts[k]?=some t->cG M r k->km M L r n k true
 | n,k,t,hk,ht,hb=>by
  obtain ⟨a,ha⟩:=adr hL ht;unfold km;refine ⟨k,[],a,t,ha,ht,g.dq k,?_⟩;rw [if_pos (show k=dM k [] from rfl),ji];by_cases h0:k=r
  ·rw [if_pos (decide_eq_true h0)]
  ·rw [if_neg (by rw [decide_eq_false h0]; nofun)];obtain ⟨f,nm,tf,hf,hp,_,bK,_,hb'⟩:=g.par ht hb h0;refine ⟨a,t,ha,ht,.inr ⟨f,nm,hp,?_⟩⟩
   match n,hk with
   | 0,hk=>omega
   | n+1,hk=>exact g.seen hL n f tf (by omega) bK hb'
theorem Gd.nm (g:Gd M) (hL:L.length=M.ts.length):∀ (n k:Nat) (t:Th),k<=n->M.ts[k]?=some t->cG M r k->∃ ns,gZ M L r n k ns/\ns.length<=k/\∀ s∈ns,s.length<=8
 | n,k,t,hk,ht,hb=>by
  obtain ⟨a,ha⟩:=adr hL ht;by_cases h0:k=r
  ·refine ⟨[],?_,Nat.zero_le _,fun _ h=>by cases h⟩;unfold gZ;exact ⟨k,[],a,t,ha,ht,g.dq k,by rw [ji,if_pos (decide_eq_true h0)]⟩
  ·obtain ⟨f,nm,tf,hf,hp,hl,bK,_,hb'⟩:=g.par ht hb h0
   match n,hk with
   | 0,hk=>omega
   | n+1,hk =>
    obtain ⟨ns,h1,h2,h3⟩:=g.nm hL n f tf (by omega) bK hb';refine ⟨ns++[nm],?_,by rw [List.length_append]; simp; omega,fun s hs=>?_⟩
    ·unfold gZ;refine ⟨k,[],a,t,ha,ht,g.dq k,?_⟩;rw [ji,if_neg (by rw [decide_eq_false h0]; nofun)];exact ⟨a,t,f,nm,ha,ht,hp,ns,rfl,h1⟩
    ·rcases List.mem_append.mp hs with hs | hs
     ·exact h3 s hs
     ·rw [List.mem_singleton.mp hs]; exact hl
theorem FL:fF (.str ("." : Str))=false/\fF (.str (".." : Str))=false:=by decide +kernel
end
def Val (M:Hs) (r:Nat) (S:Ws):Prop:=∃ t,M.ts[S.here]?=some t/\(t.kd=("folder" : Str)/\cG M r S.here\/t.kd≠("folder" : Str)/\∃ (f:Nat) (nm:Str) (tf:Th),S.place=some (f,nm)/\nm.length<=8/\M.ts[f]?=some tf/\cG M r f)
def dv:List (Sum Nat Str)->Nat
 | []=>0
 | .inl _::r=>dv r+1
 | .inr _::r=>dv r
theorem iz:∀ (a b:List (Sum Nat Str)),dv (a++b)=dv a+dv b
 | [],b=>by simp [dv]
 | .inl _::a,b=>by show dv (a++b)+1=dv a+1+dv b; rw [iz a b]; omega
 | .inr _::a,b=>iz a b
theorem zc (c:Nat) (t:List Nat):(Tx.words c t).length<=t.length+1:=Nat.le_trans (List.length_filter_le _ _) (Tx.vQ c t)
theorem Iu:∀ ps:List Str,dv (ps.map Sum.inr)=0
 | []=>rfl
 | _::r=>Iu r
theorem we (ps:List Str):dv (cu ps)=0:=by
 unfold cu;rw [<- List.map_reverse];exact Iu _
structure m7 (d:Wd) (S:Ws):Prop where
 v:Val d.M d.root S
 ps:∀ p,Sum.inr p∈S.left->l8 p
 cn:dv S.left=S.aX.length
 rl:S.read<=40
def mu (S:Ws):Nat:=126 * (40 - S.read)+S.left.length
theorem vn (h:(Tx.words 47 t).all cz=true):∀ p∈cL t,l8 p:=fun p hp=>by
 obtain ⟨x,hx,rfl⟩:=List.mem_map.mp hp;exact Gv (List.all_eq_true.mp (B0 (t:=t) h) x hx)
theorem xD (h:Sum.inr p∈cu ps):p∈ps:=by
 unfold cu at h;obtain ⟨q,hq,e⟩:=List.mem_map.mp (List.mem_reverse.mp h);cases e; exact hq
section
variable {d:Wd}
theorem Zu (g:Gd d.M) (hL:d.L.length=d.M.ts.length) (hr:∃ t,d.M.ts[d.root]?=some t/\t.kd=("folder" : Str)) {S:Ws} {p:Str} (w:m7 d S) (hp:l8 p):∃ S' o,ed d S p S' o/\(o=none->m7 d S'/\mu S'<=mu S):=by
 obtain ⟨t,ht,hk⟩:=w.v;obtain ⟨a,ha⟩:=adr hL ht;by_cases cj:t.kd=("folder" : Str)
 ·have hb:cG d.M d.root S.here:=by
   rcases hk with h | h
   ·exact h.2
   ·exact absurd cj h.1
  cases hm:fb ("g" : Str) (eG t d.z) with
  | false=>exact ⟨_,_,.kK ha ht cj hm,nofun⟩
  | true =>
   have hA:w8 d S t:=⟨⟨a,ha⟩,ht,cj,hm⟩;rcases hp with hp | hp | ⟨hp,hp8⟩
   ·exact ⟨_,_,.dot hA hp,fun _=>⟨⟨⟨t,ht,.inl ⟨cj,hb⟩⟩,w.ps,w.cn,w.rl⟩,Nat.le_refl _⟩⟩
   ·by_cases h0:S.here=d.root
    ·exact ⟨_,_,.up hA hp (.g8 ha ht (g.dq _) (by rw [ji]; exact decide_eq_true h0)),fun _=>⟨⟨⟨t,ht,.inl ⟨cj,hb⟩⟩,w.ps,w.cn,w.rl⟩,Nat.le_refl _⟩⟩
    ·obtain ⟨f,nm,tf,hf,bj,hl,bK,dC,hb'⟩:=g.par ht hb h0;obtain ⟨af,gO⟩:=adr hL bK;exact ⟨_,_,.up hA hp (.up ha ht (g.dq _) (by rw [ji]; exact decide_eq_false h0) ha ht bj gO bK (g.dq f)),fun _=>⟨⟨⟨tf,bK,.inl ⟨dC,hb'⟩⟩,w.ps,w.cn,w.rl⟩,Nat.le_refl _⟩⟩
   ·have n1:p≠(".." : Str):=fun e=>by rw [e,FL.2] at hp; cases hp
    have n2:p≠("." : Str):=fun e=>by rw [e,FL.1] at hp; cases hp
    cases hv:aF (sD t.bb) (.inr p) with
    | none=>exact ⟨_,_,.go hA n1 n2 hp (by omega) (.no hv),nofun⟩
    | some u =>
     obtain ⟨k,tc,rfl,bN,yw⟩:=(g.th _ t ht).ch _ _ hv;obtain ⟨ac,cQ⟩:=adr hL bN;by_cases dD:tc.kd=("folder" : Str)
     ·exact ⟨_,_,.go hA n1 n2 hp (by omega) (.folder hv cQ bN dD (g.dq k)),fun _=>⟨⟨⟨tc,bN,.inl ⟨dD,.up bN yw hb⟩⟩,w.ps,w.cn,w.rl⟩,Nat.le_refl _⟩⟩
     by_cases hf:tc.kd=("file" : Str)\/S.left=[]/\d.last=false
     ·exact ⟨_,_,.go hA n1 n2 hp (by omega) (.fin hv cQ bN dD hf),fun _=>⟨⟨⟨tc,bN,.inr ⟨dD,_,_,t,rfl,hp8,ht,hb⟩⟩,w.ps,w.cn,w.rl⟩,Nat.le_refl _⟩⟩
     have fm:tc.kd=("lead" : Str):=by
      rcases (g.th _ tc bN).kd with h | h | h
      ·exact absurd h dD
      ·exact absurd (.inl h) hf
      ·exact h
     have eQ:tc.kd≠("file" : Str):=fun z=>hf (.inl z);have ik:¬ (S.left=[]/\d.last=false):=fun z=>hf (.inr z);by_cases hm1:k∈S.aX
     ·exact ⟨_,_,.go hA n1 n2 hp (by omega) (.lead hv cQ bN dD eQ ik (.ring hm1)),nofun⟩
     by_cases mW:S.read=40
     ·exact ⟨_,_,.go hA n1 n2 hp (by omega) (.lead hv cQ bN dD eQ ik (.many hm1 mW)),nofun⟩
     obtain ⟨tl,e1,e2,e3⟩:=(g.th _ tc bN).ld fm;obtain ⟨tr,cR,oE⟩:=hr;obtain ⟨ar,uQ⟩:=adr hL cR;have hlen:(cL tl).length<=124:=by
      have h1:=@vX (Tx.words 47 tl) tl;have h2:=zc 47 tl;unfold cL;rw [List.length_map];omega
     have rj:=xl (cL tl);have eE:=w.rl;refine ⟨_,_,.go hA n1 n2 hp (by omega) (.lead hv cQ bN dD eQ ik (.read hm1 mW (.mk cQ bN e1 e2.l1 e2.l2 e2.all hlen uQ cR (g.dq _)))),fun _=>⟨⟨?_,fun q hq=>?_,?_,?_⟩,?_⟩⟩
     ·unfold gv;by_cases hrt:cA tl=true
      ·rw [if_pos hrt];exact ⟨tr,cR,.inl ⟨oE,.refl⟩⟩
      ·rw [if_neg hrt];exact ⟨t,ht,.inl ⟨cj,hb⟩⟩
     ·unfold gv at hq;rcases List.mem_append.mp hq with hq | hq
      ·rcases List.mem_append.mp hq with hq | hq
       ·exact w.ps q hq
       ·cases List.mem_singleton.mp hq
      ·exact vn e2.all q (xD hq)
     ·unfold gv;show dv ((S.left++[.inl k])++cu (cL tl))=(S.aX++[k]).length;rw [iz,iz,we,w.cn,List.length_append];rfl
     ·unfold gv;show S.read+1<=40;omega
     ·unfold gv mu dH;simp only [List.length_append,List.length_cons,List.length_nil,rj];omega
 ·exact ⟨_,_,.flat ha ht cj,nofun⟩
theorem Ao (g:Gd d.M) (hL:d.L.length=d.M.ts.length) (hr:∃ t,d.M.ts[d.root]?=some t/\t.kd=("folder" : Str)):∀ (n:Nat) {S:Ws},mu S<=n->m7 d S->∃ m S' o,ee d m S S' o/\(o=none->Val d.M d.root S')
 | n,S,hn,w=>by
  rcases List.eq_nil_or_concat S.left with e | ⟨l,x,e⟩
  ·exact ⟨_,_,_,.done e,fun _=>w.v⟩
  rw [List.concat_eq_append] at e;have hlen:S.left.length=l.length+1:=by rw [e,List.length_append]; rfl
  have dB:∀ p,Sum.inr p∈l->l8 p:=fun p hp=>w.ps p (by rw [e]; exact List.mem_append_left _ hp);have iF:=w.cn;rw [e,iz] at iF
  match n,hn with
  | 0,hn=>unfold mu at hn; omega
  | n+1,hn =>
   cases x with
   | inl k =>
    have h1:dv [Sum.inl (β:=Str) k]=1:=rfl;rw [h1] at iF;rcases List.eq_nil_or_concat S.aX with er | ⟨r,j,er⟩
    ·rw [er] at iF; simp at iF
    rw [List.concat_eq_append] at er;rw [er,List.length_append] at iF;obtain ⟨m,S',o,h2,h3⟩:=Ao g hL hr n (S:={ S with left:=l,aX:=r }) (by unfold mu at hn ⊢; dsimp only; omega) ⟨w.v,dB,by show dv l=r.length; simp at iF; omega,w.rl⟩;exact ⟨_,_,_,.pop e er h2,h3⟩
   | inr p =>
    have h1:dv [Sum.inr (α:=Nat) p]=0:=rfl;rw [h1] at iF;obtain ⟨S1,o,h2,h3⟩:=Zu g hL hr (S:={ S with left:=l }) (p:=p) ⟨w.v,dB,iF,w.rl⟩ (w.ps p (by rw [e]; simp));cases o with
    | some y=>exact ⟨_,_,_,.fail e h2,nofun⟩
    | none =>
     obtain ⟨w1,hm⟩:=h3 rfl;obtain ⟨m,S',o,h4,h5⟩:=Ao g hL hr n (S:=S1) (by unfold mu at hn hm ⊢; dsimp only at hm; omega) w1;exact ⟨_,_,_,.step e h2 h4,h5⟩
theorem ed.VA (h:ed d S p S' o) (e:S.left=x::r):∃ r',S'.left=x::r':=by
 cases h with
 | flat=>exact ⟨_,e⟩
 | kK=>exact ⟨_,e⟩
 | dot=>exact ⟨_,e⟩
 | up=>exact ⟨_,e⟩
 | go _ _ _ _ _ hb =>
  cases hb with
  | no=>exact ⟨_,e⟩
  | folder=>exact ⟨_,e⟩
  | fin=>exact ⟨_,e⟩
  | lead _ _ _ _ _ _ hm =>
   cases hm with
   | ring=>exact ⟨_,e⟩
   | many=>exact ⟨_,e⟩
   | read _ _ hr =>
    cases hr;unfold gv;dsimp only;exact ⟨_,by rw [show (dH S).left=x::r from e]; rfl⟩
theorem Ux (h:ee d n S S' o):o=none->∀ {r},S.left=.inr ("." : Str)::r->∃ t,d.M.ts[S'.here]?=some t/\t.kd=("folder" : Str):=by
 induction h with
 | done e=>intro _ r e'; rw [e] at e'; cases e'
 | @pop n S k l r j S' o e er _ ih =>
  intro ho r' e';rw [e] at e'
  match l,e' with
  | [],e'=>cases e'
  | y::l,e' =>
   rw [List.cons_append] at e';injection e' with e1 e2;exact ih ho (by rw [e1])
 | @step n S p l S1 S' o e hs hr ih =>
  intro ho r' e';rw [e] at e'
  match l,e' with
  | [],e' =>
   have ep:p=("." : Str):=by injection e' with e1 e2; exact Sum.inr.inj e1
   subst ep;cases hs with
   | dot hA _ =>
    cases hr with
    | done _=>exact ⟨_,hA.e,hA.k⟩
    | pop e1=>exact absurd e1 (by unfold dH; simp)
    | step e1=>exact absurd e1 (by unfold dH; simp)
    | fail e1=>exact absurd e1 (by unfold dH; simp)
   | up _ h5=>exact absurd h5 (by decide +kernel)
   | go _ _ h6=>exact absurd rfl h6
  | y::l,e' =>
   rw [List.cons_append] at e';injection e' with e1 e2;obtain ⟨r2,e3⟩:=hs.VA (x:=y) (r:=l) rfl;exact ih ho (by rw [e3,e1])
 | fail=>intro ho; cases ho
theorem Rv (g:Gd d.M) (hL:d.L.length=d.M.ts.length) (hn:d.M.ts.length<=90) {S:Ws} (v:Val d.M d.root S):∃ ns bS,sR d.M d.L d.root S ns bS:=by
 obtain ⟨t,ht,hk⟩:=v;obtain ⟨a,ha⟩:=adr hL ht;rcases hk with ⟨cj,hb⟩ | ⟨cj,f,nm,tf,hp,h8,bK,hb⟩
 ·obtain ⟨ns,h1,h2,h3⟩:=g.nm hL S.here S.here t (Nat.le_refl _) ht hb;have:=(List.getElem?_eq_some_iff.mp ht).1;exact ⟨ns,[],S.here,a,t,ha,ht,.inl ⟨cj,rfl,rfl⟩,⟨_,h1⟩,by omega,h3⟩
 ·obtain ⟨ns,h1,h2,h3⟩:=g.nm hL f f tf (Nat.le_refl _) bK hb;have:=(List.getElem?_eq_some_iff.mp bK).1;exact ⟨ns,[nm],f,a,t,ha,ht,.inr ⟨cj,nm,hp,rfl,h8⟩,⟨_,h1⟩,by omega,h3⟩
end
def E9 (M:Hs) (r:Nat) (e:End):Prop:=∀ k ns,e.res=.found k ns->∃ t,M.ts[k]?=some t/\(t.kd=("folder" : Str)->cG M r k)
section
variable {M:Hs} {L:List Ta} {z:Str} {r:Nat} {last:Bool}
theorem J2 (g:Gd M) (hL:L.length=M.ts.length) (hn:M.ts.length<=90) (hz:z∈AS) (last:Bool) {fr:Bool} {ps:List Str} (dB:∀ p∈ps,l8 p) (hl:ps.length<=2500) :
  ∃ r e,aF (sD M.ro) (.inr z)=some (.int ((r:Nat):Int))/\lJ ⟨L,M,z,last,r⟩ fr ps e/\E9 M r e/\∀ qs,ps=qs++[("." : Str)]->∀ k ns,e.res=.found k ns->∃ t,M.ts[k]?=some t/\t.kd=("folder" : Str):=by
 obtain ⟨r,k0,ga⟩:=g.as z hz;obtain ⟨st,t,aO,ht,cj,hb⟩:∃ (st:Nat) (t:Th),(fr=true/\st=r\/fr=false/\aF (sD M.st) (.inr z)=some (.int (st:Int)))/\M.ts[st]?=some t/\t.kd=("folder" : Str)/\cG M r st:=by
  cases fr with
  | true=>obtain ⟨t,h1,h2⟩:=ga.tr; exact ⟨r,t,.inl ⟨rfl,rfl⟩,h1,h2,.refl⟩
  | false=>obtain ⟨t,h1,h2⟩:=ga.tk; exact ⟨k0,t,.inr ⟨rfl,ga.st⟩,h1,h2,ga.b⟩
 obtain ⟨a,ha⟩:=adr hL ht;obtain ⟨n,S',o,hr,hv⟩:=Ao (d:=⟨L,M,z,last,r⟩) g hL ga.tr _ (S:=⟨st,none,0,[],cu ps,[],0,0⟩) (Nat.le_refl _) ⟨⟨t,ht,.inl ⟨cj,hb⟩⟩,fun p hp=>dB p (xD hp),we ps,Nat.zero_le _⟩;have hB:pf ⟨L,M,z,last,r⟩ fr st:=⟨ga.ro,st,st,[],a,t,aO,ha,ht,g.dq st,⟨st,g.seen hL st st t (Nat.le_refl _) ht hb⟩,rfl⟩;cases o with
 | some y=>exact ⟨r,_,ga.ro,.told hB hl hr,fun k ns e=>(by cases y <;> cases e),fun qs _ k ns e=>by cases y <;> cases e⟩
 | none =>
  obtain ⟨ns,bS,cR⟩:=Rv (d:=⟨L,M,z,last,r⟩) g hL hn (hv rfl);refine ⟨r,_,ga.ro,.found hB hl hr cR,fun k ns' e=>?_,fun qs hq k ns' e=>?_⟩
  ·cases e;obtain ⟨t',h,hh⟩:=hv rfl;refine ⟨t',h,fun hf=>?_⟩;rcases hh with hh | hh
   ·exact hh.2
   ·exact absurd hf hh.1
  ·cases e;exact Ux hr rfl (r:=cu qs |>.map id) (by rw [hq]; unfold cu; simp)
theorem rP (g:Gd M) (hL:L.length=M.ts.length) (hn:M.ts.length<=90) (hz:z∈AS) (last:Bool) (p:eN t):∃ r e,aF (sD M.ro) (.inr z)=some (.int ((r:Nat):Int))/\eJ ⟨L,M,z,last,r⟩ t e/\E9 M r e:=by
 have hw:=@vX (Tx.words 47 t) t;have h2:=zc 47 t;have h3:=p.l2;obtain ⟨r,e,h0,h1,h2,_⟩:=J2 g hL hn hz last (fr:=cA t) (vn p.all) (by unfold cL; rw [List.length_map]; omega);exact ⟨r,e,h0,⟨p.l1,p.l2,p.all,h1⟩,h2⟩
theorem XA (h:ps.all cz=true):∃ r,jF ps r:=by
 rcases List.eq_nil_or_concat ps with e | ⟨q,nm,e⟩
 ·exact ⟨none,.nil e⟩
 ·rw [List.concat_eq_append] at e;cases hn:isNm nm with
  | true=>exact ⟨_,.Jr e hn⟩
  | false=>exact ⟨none,.tZ e hn (o6 (List.all_eq_true.mp h nm (by rw [e]; simp))).2.2⟩
theorem PR (g:Gd M) (hL:L.length=M.ts.length) (hn:M.ts.length<=90) (hz:z∈AS) {t:List Nat} (p:eN t) (hl:(Tx.words 47 t).length<=300) :
  ∃ root r,nJ ⟨L,M,z,true,root⟩ t r/\∀ f nm,r=.inr (f,nm)->∃ tf,M.ts[f]?=some tf/\tf.kd=("folder" : Str)/\isNm nm=true/\aF (sD tf.bb) (.inr (Tx.S nm))=none:=by
 have hw:=@vX (Tx.words 47 t) t;obtain ⟨r,hr⟩:=XA (B0 (t:=t) p.all);cases r with
 | none=>exact ⟨0,_,.no (.tZ hr),fun f nm e=>by cases e⟩
 | some qn =>
  obtain ⟨q,nm⟩:=qn;have he:told (Tx.words 47 t) t=q++[nm]:=by cases hr; assumption
  have bZ:isNm nm=true:=by cases hr; assumption
  have gD:=B0 (t:=t) p.all;rw [he,List.all_append,Bool.and_eq_true] at gD;have hq:q.length<=900:=by rw [he,List.length_append] at hw; omega
  obtain ⟨root,e,_,h1,h2,h3⟩:=J2 g hL hn hz true (fr:=cA t) (ps:=q.map Tx.S++[("." : Str)]) (fun x hx=>by
   rcases List.mem_append.mp hx with hx | hx
   ·obtain ⟨y,hy,rfl⟩:=List.mem_map.mp hx;exact Gv (List.all_eq_true.mp gD.1 y hy)
   ·exact .inl (List.mem_singleton.mp hx)) (by simp; omega)
  by_cases hf:∃ f ns,e.res=.found f ns
  ·obtain ⟨f,ns,lD⟩:=hf;have hs:kM ⟨L,M,z,true,root⟩ t (.inr (f,nm)):=.KI hr hq h1 lD;obtain ⟨tf,bK,dC⟩:=h3 _ rfl f ns lD;obtain ⟨a,ha⟩:=adr hL bK;cases hm:fb ("w" : Str) (eG tf z) with
   | false=>exact ⟨root,_,.kept hs bK hm,fun f nm e=>by cases e⟩
   | true =>
    cases hv:aF (sD tf.bb) (.inr (Tx.S nm)) with
    | some v =>
     obtain ⟨c,rfl⟩:=J8 hv;exact ⟨root,_,.there hs bZ ha bK hm hv,fun f nm e=>by cases e⟩
    | none=>exact ⟨root,_,.free hs bZ ha bK hm hv,fun f' nm' e=>by cases e; exact ⟨tf,bK,dC,bZ,hv⟩⟩
  ·exact ⟨root,_,.no (.way hr hq h1 fun k ns hk=>hf ⟨k,ns,hk⟩),fun f nm e=>by cases e⟩
theorem XW (g:Gd M) (hL:L.length=M.ts.length) (hn:M.ts.length<=90) (hz:z∈AS) {t:List Nat} (p:eN t) :
  ∃ root r,ph ⟨L,M,z,true,root⟩ t r/\∀ k,r=.inr k->∃ tf,M.ts[k]?=some tf/\tf.kd=("folder" : Str)/\∀ r:Nat,aF (sD M.ro) (.inr z)=some (.int (r:Int))->cG M r k:=by
 obtain ⟨root,e,h0,h1,h2⟩:=rP g hL hn hz true p;by_cases hf:∃ f ns,e.res=.found f ns
 ·obtain ⟨f,ns,lD⟩:=hf;obtain ⟨tf,bK,hb⟩:=h2 f ns lD;obtain ⟨a,ha⟩:=adr hL bK;by_cases hk:tf.kd=("folder" : Str)
  ·exact ⟨root,_,.ok h1 lD ha bK hk,fun k e=>by cases e; exact ⟨tf,bK,hk,fun r hr=>by rw [h0] at hr; cases jE hr; exact hb hk⟩⟩
  ·exact ⟨root,_,.file h1 lD ha bK hk,fun f e=>by cases e⟩
 ·exact ⟨root,_,.way h1 fun k ns hk=>hf ⟨k,ns,hk⟩,fun f e=>by cases e⟩
theorem Gd.lift (g:Gd M) (h1:M'.ro=M.ro) (h2:M'.st=M.st) (h3:M'.tr=M.tr) (h4:M'.ov=M.ov) (h5:M'.un=M.un) (old:∀ (k:Nat) (t:Th),M.ts[k]?=some t->∃ t':Th,M'.ts[k]?=some t'/\t'.kd=t.kd/\t'.cC=t.cC) (th:∀ k t,M'.ts[k]?=some t->tj M' k t):Gd M':=by
 have bl:∀ {r k},cG M r k->cG M' r k:=fun {r k} b=>by
  induction b with
  | refl=>exact .refl
  | up a1 a2 _ ih =>
   obtain ⟨t',e1,_,e3⟩:=old _ _ a1;exact .up e1 (e3.trans a2) ih
 refine ⟨h3.trans g.tr,h4.trans g.ov,h5.trans g.un,fun z hz=>?_,by rw [h1]; exact g.rl,by rw [h2]; exact g.sl,?_,th⟩
 ·obtain ⟨r,k,a⟩:=g.as z hz;refine ⟨r,k,by rw [h1]; exact a.ro,by rw [h2]; exact a.st,bl a.b,?_,?_⟩
  ·obtain ⟨t,e1,e2⟩:=a.tr;obtain ⟨t',e3,e4,_⟩:=old _ _ e1;exact ⟨t',e3,e4.trans e2⟩
  ·obtain ⟨t,e1,e2⟩:=a.tk;obtain ⟨t',e3,e4,_⟩:=old _ _ e1;exact ⟨t',e3,e4.trans e2⟩
 ·obtain ⟨t,e1,e2⟩:=g.t0;obtain ⟨t',e3,e4,_⟩:=old _ _ e1;exact ⟨t',e3,e4.trans e2⟩
theorem tj.lift (h:tj M k t) (hl:M.ts.length<=M'.ts.length) (e1:t'.kd=t.kd) (e2:t'.cC=t.cC) (e3:t'.bb=t.bb) (e4:t'.tx=t.tx) (old:∀ (k:Nat) (t:Th),M.ts[k]?=some t->∃ t':Th,M'.ts[k]?=some t'/\t'.kd=t.kd/\t'.cC=t.cC):tj M' k t':=by
 refine ⟨by rw [e3]; exact Nat.le_trans h.nl hl,by rw [e1]; exact h.kd,by rw [e1,e4]; exact h.ld,?_,fun z v hv=>?_⟩
 ·rcases h.pl with ⟨a,b⟩ | ⟨f,nm,tf,a1,a2,a3,a4,a5⟩
  ·exact .inl ⟨a,e2.trans b⟩
  ·obtain ⟨t2,b1,b2,_⟩:=old _ _ a4;exact .inr ⟨f,nm,t2,a1,e2.trans a2,a3,b1,b2.trans a5⟩
 ·rw [e3] at hv;obtain ⟨c,tc,a1,a2,a3⟩:=h.ch z v hv;obtain ⟨t2,b1,_,b3⟩:=old _ _ a2;exact ⟨c,t2,a1,b1,b3.trans a3⟩
theorem Gd.make (g:Gd M) {f:Nat} {tf:Th} {nm kd mi re tx:Str} (bK:M.ts[f]?=some tf) (dC:tf.kd=("folder" : Str)) (bZ:nm.length<=8) (hvf:aF (sD tf.bb) (.inr nm)=none) (hk:kd=("folder" : Str)\/kd=("file" : Str)\/kd=("lead" : Str)) (D8:kd=("lead" : Str)->∃ tl,tx=Tx.S tl/\eN tl/\tl.length<=120) :
  Gd { M with ts:=M.ts.set f { tf with bb:=tf.bb++[(nm,M.ts.length)] }++[⟨kd,z,mi,re,tx,[],[(f,nm)]⟩] }:=by
 have hf:=(List.getElem?_eq_some_iff.mp bK).1;have hlen:(M.ts.set f { tf with bb:=tf.bb++[(nm,M.ts.length)] }).length=M.ts.length:=List.length_set;have old:∀ (k:Nat) (t:Th),M.ts[k]?=some t->∃ t':Th,(M.ts.set f { tf with bb:=tf.bb++[(nm,M.ts.length)] }++[(⟨kd,z,mi,re,tx,[],[(f,nm)]⟩:Th)])[k]?=some t'/\t'.kd=t.kd/\t'.cC=t.cC:=fun k t ht=>by
  have hk:=(List.getElem?_eq_some_iff.mp ht).1;rw [List.getElem?_append_left (by rw [hlen]; exact hk)];by_cases e:k=f
  ·subst e;rw [List.getElem?_set_self hk];rw [bK] at ht; cases ht;exact ⟨_,rfl,rfl,rfl⟩
  ·rw [List.getElem?_set_ne (Ne.symm e)];exact ⟨t,ht,rfl,rfl⟩
 have new:(M.ts.set f { tf with bb:=tf.bb++[(nm,M.ts.length)] }++[(⟨kd,z,mi,re,tx,[],[(f,nm)]⟩:Th)])[M.ts.length]?=some ⟨kd,z,mi,re,tx,[],[(f,nm)]⟩:=by
  rw [List.getElem?_append_right (by rw [hlen]; exact Nat.le_refl _),hlen,Nat.sub_self]; rfl
 have ll:M.ts.length<=(M.ts.set f { tf with bb:=tf.bb++[(nm,M.ts.length)] }++[(⟨kd,z,mi,re,tx,[],[(f,nm)]⟩:Th)]).length:=by rw [List.length_append,hlen]; omega
 refine g.lift rfl rfl rfl rfl rfl old fun k t ht=>?_;have ht':(M.ts.set f { tf with bb:=tf.bb++[(nm,M.ts.length)] }++[(⟨kd,z,mi,re,tx,[],[(f,nm)]⟩:Th)])[k]?=some t:=ht;by_cases hk':k < M.ts.length
 ·rw [List.getElem?_append_left (by rw [hlen]; exact hk')] at ht';by_cases e:k=f
  ·subst e;rw [List.getElem?_set_self hk'] at ht';cases ht';have h0:=g.th k tf bK;have h:=h0.lift (M':={ M with ts:=M.ts.set k { tf with bb:=tf.bb++[(nm,M.ts.length)] }++[⟨kd,z,mi,re,tx,[],[(k,nm)]⟩] }) (t':=tf) ll rfl rfl rfl rfl old;refine ⟨by show (tf.bb++[(nm,M.ts.length)]).length<=_; rw [List.length_append,List.length_append,hlen]; have:=h0.nl; simp; omega,h.kd,h.ld,h.pl,fun y v hv=>?_⟩;have e:sD (tf.bb++[(nm,M.ts.length)])=sD tf.bb++[(.inr nm,.int ((M.ts.length:Nat):Int))]:=by unfold sD; rw [List.map_append]; rfl
   have hv':aF (sD (tf.bb++[(nm,M.ts.length)])) (.inr y)=some v:=hv;rw [e,Bu _ _ _ _ hvf] at hv';split at hv'
   ·rename_i he;cases hv';injection he with he;exact ⟨M.ts.length,_,rfl,new,by rw [he]⟩
   ·exact h.ch y v hv'
  ·rw [List.getElem?_set_ne (Ne.symm e)] at ht';exact (g.th k t ht').lift ll rfl rfl rfl rfl old
 ·have hk2:k < M.ts.length+1:=by
   have:=(List.getElem?_eq_some_iff.mp ht').1;rw [List.length_append,hlen] at this; exact this
  have:k=M.ts.length:=by omega
  subst this;rw [new] at ht';cases ht';obtain ⟨t',e1,e2,_⟩:=old _ _ bK;exact ⟨by show 0<=_; exact Nat.zero_le _,hk,D8,.inr ⟨f,nm,t',hf,rfl,bZ,e1,e2.trans dC⟩,fun y v hv=>by cases hv⟩
theorem pX:aF (sD (de l z k)) (.inr y)=if y=z then some (.int (k:Int)) else aF (sD l) (.inr y):=by
 rw [<- zO,Ti];by_cases e:y=z
 ·rw [if_pos e,if_pos (by rw [e])]
 ·rw [if_neg e,if_neg (fun h=>e (Sum.inr.inj h))]
theorem CL (h:aF (sD l) (.inr z)=some v):(de l z k).length=l.length:=by
 unfold de;rw [if_pos (by rw [h]; rfl),List.length_map]
theorem Gd.Rk (g:Gd M) (ht:M.ts[k]?=some t) (hk:t.kd=("folder" : Str)) (hz:z∈AS) (hb:∀ r:Nat,aF (sD M.ro) (.inr z)=some (.int (r:Int))->cG M r k):Gd { M with st:=de M.st z k }:=by
 have bl:∀ {r j},cG M r j->cG { M with st:=de M.st z k } r j:=fun {r j} b=>by
  induction b with
  | refl=>exact .refl
  | up a1 a2 _ ih=>exact .up a1 a2 ih
 refine ⟨g.tr,g.ov,g.un,fun y hy=>?_,g.rl,?_,g.t0,fun k t ht=>⟨(g.th k t ht).nl,(g.th k t ht).kd,(g.th k t ht).ld,(g.th k t ht).pl,(g.th k t ht).ch⟩⟩
 ·obtain ⟨r,j,a⟩:=g.as y hy;by_cases e:y=z
  ·subst e;exact ⟨r,k,a.ro,by show aF (sD (de M.st y k)) (.inr y)=_; rw [pX,if_pos rfl],bl (hb r a.ro),a.tr,t,ht,hk⟩
  ·exact ⟨r,j,a.ro,by show aF (sD (de M.st z k)) (.inr y)=_; rw [pX,if_neg e]; exact a.st,bl a.b,a.tr,a.tk⟩
 ·obtain ⟨r,j,a⟩:=g.as z hz;show (de M.st z k).length<=3;rw [CL a.st];exact g.sl
theorem Gd.root (g:Gd M) (ht:M.ts[k]?=some t) (hk:t.kd=("folder" : Str)) (hz:z∈AS):Gd { M with ro:=de M.ro z k,st:=de M.st z k }:=by
 have bl:∀ {r j},cG M r j->cG { M with ro:=de M.ro z k,st:=de M.st z k } r j:=fun {r j} b=>by
  induction b with
  | refl=>exact .refl
  | up a1 a2 _ ih=>exact .up a1 a2 ih
 refine ⟨g.tr,g.ov,g.un,fun y hy=>?_,?_,?_,g.t0,fun k t ht=>⟨(g.th k t ht).nl,(g.th k t ht).kd,(g.th k t ht).ld,(g.th k t ht).pl,(g.th k t ht).ch⟩⟩
 ·obtain ⟨r,j,a⟩:=g.as y hy;by_cases e:y=z
  ·subst e;exact ⟨k,k,by show aF (sD (de M.ro y k)) (.inr y)=_; rw [pX,if_pos rfl],by show aF (sD (de M.st y k)) (.inr y)=_; rw [pX,if_pos rfl],.refl,⟨t,ht,hk⟩,t,ht,hk⟩
  ·exact ⟨r,j,by show aF (sD (de M.ro z k)) (.inr y)=_; rw [pX,if_neg e]; exact a.ro,by show aF (sD (de M.st z k)) (.inr y)=_; rw [pX,if_neg e]; exact a.st,bl a.b,a.tr,a.tk⟩
 ·obtain ⟨r,j,a⟩:=g.as z hz;show (de M.ro z k).length<=3;rw [CL a.ro];exact g.rl
 ·obtain ⟨r,j,a⟩:=g.as z hz;show (de M.st z k).length<=3;rw [CL a.st];exact g.sl
end
theorem gX:T.bY.k P w base 1 sV:=by
 refine T.bY.F.ok xk (fun vs H Q E h=>?_) (fun _ A _ s H vs Q E hr h=>?_)
 ·unfold sV at h;split at h
  ·rfl
  ·exact h.elim
 ·unfold sV at h;split at h
  ·rename_i st b;obtain ⟨zs,hz,hl,jW,n9,q⟩:=h;refine ⟨_,((al (aW (aZ cP (cF (kc (K:=K) rfl) T.jg PySem.boot_len (aa (ad 0) ae)) am) (ai (aU (fo PySem.F.slot_list_extend PySem.F.type_list_extend Ke (ad 0) (aa (ci (aa (cr l9 (bv (bC (K:=K) rfl) (ad 0) am) am) (aa am ae))) ae)))) ce)
   (al (aW (aZ tV (bv (bC (K:=K) rfl) (ad 0) am) am) (al (aR 2 xk.nd (cr l9 (bv (bC (K:=K) rfl) (ad 0) am) (ad 1)))
   (al (ub (cr Ce (bv (bC (K:=K) rfl) (ad 0) am) (ad 1)) (JI (ad 0) am IB))
   (ai (aM (ad 2))))) ce)
   (al (ub (cr dQ (bv (bC (K:=K) rfl) (ad 0) am) am) (JI (ad 0) am IB))
   (al (aR 3 xk.nd (cr l9 (cr wW (cr dQ (cr dQ (bv (bC (K:=K) rfl) (ad 0) am) (cr wW am (bv (bC (K:=K) rfl) (ad 0) am))) am) am) am))
   (al (aR 3 xk.nd (cr l9 (cr wW (ad 3) (cr dQ (cr Ce (ad 3) am) am)) am))
   (ai (aM (cr l9 (cr l9 (cr wW (ad 3) (cr dQ (cr Ce (ad 3) am) am)) am) (ad 1)))))))))).h,?_⟩
   refine stI [some (.ref st),some (.int b),none,none] ?_;refine fe (fun σ' H'=>σ'=[some (.ref st),some (.int b),none,none]/\∃ x y z,H' st=some (.lst [.int x,.int y,.int z])/\cO st H H') ?_ ?_
   ·have hc:(∃ a,zs=[a])\/∃ a b c,zs=[a,b,c]:=by
     rcases hl with hl | hl
     ·match zs,hl with
      | [a],_=>exact .inl ⟨a,rfl⟩
     ·match zs,hl with
      | [a,b,c],_=>exact .inr ⟨a,b,c,rfl⟩
    walk_at "rd";rcases hc with ⟨a,rfl⟩ | ⟨a,b',c,rfl⟩
    ·simp only [List.map] at hz;simp only [bI,hz,df];refine bT ⟨by decide,fits (by simp),fun p hp=>?_⟩;simp only [K5 hz hp,ax];refine ⟨fits (by simp),by trivial,_,_,_,rfl,?_⟩;exact (ah.upd hp).keep st |>.trans cO.upd
    ·simp only [List.map] at hz;simp only [bI,hz,df];exact aY ⟨by trivial,_,_,_,rfl,fun c o _ e=>e⟩
   ·rintro σ' H1 ⟨rfl,x,y,z,h1,k1⟩;refine aj ?_;walk_at "rd";simp only [bI,h1,df];refine kx (fun _=>?_) (fun _=>?_)
    ·refine aj ?_;walk_at "rd";simp only [bI,h1,df];refine ⟨jW,aj ?_⟩;walk_at "rd";simp only [bI,h1,df,List.length_cons,PJ,List.set_cons_zero];refine ⟨⟨jW,n9⟩,?_⟩;exact q _ [_,_,_] _ (Int.emod_nonneg _ (by omega)) (Int.emod_lt_of_pos _ jW) rfl ax (k1.trans cO.upd)
    ·refine aj ?_;walk_at "rd";simp only [bI,h1,Hw,List.length_cons,List.length_nil,P7,List.set_cons_zero,List.set_cons_succ];refine aj ?_;walk_at "rd";simp only [bI,ax,uv,Hw];refine ⟨.inl ⟨by decide,by decide⟩,.inr ⟨by decide,by decide⟩,by decide,aj ?_⟩;walk_at "rd";generalize hm:(y+7919 * (z+1)+1) * 48271 % 2147483647=m;have m0:0<=m:=by rw [<- hm]; exact Int.emod_nonneg _ (by decide)
     have m1:m < 2147483647:=by rw [<- hm]; exact Int.emod_lt_of_pos _ (by decide)
     refine ⟨⟨by decide,by decide⟩,.inl ⟨by omega,by omega⟩,by decide,?_⟩;generalize hn:m * (m / 1009+69621) % 2147483647=n;have n0:0<=n:=by rw [<- hn]; exact Int.emod_nonneg _ (by decide)
     have n1:n < 2147483647:=by rw [<- hn]; exact Int.emod_lt_of_pos _ (by decide)
     refine ⟨⟨by decide,by decide⟩,.inl ⟨by omega,by omega⟩,by decide,jW,?_⟩;exact q _ [_,_,_] _ (Int.emod_nonneg _ (by omega)) (Int.emod_lt_of_pos _ jW) rfl ax (k1.trans cO.upd)
  ·exact h.elim
def Dr (st:Addr) (H:Hp):Prop:=∃ zs:List Int,H st=some (.lst (zs.map V.int))/\(zs.length=1\/zs.length=3)
theorem Dr.same {st:Addr} {H H':Hp} (h:Dr st H) (s:ah H H'):Dr st H':=let ⟨zs,e,l⟩:=h; ⟨zs,s _ _ e,l⟩
theorem Dr.ne {st p:Addr} {H:Hp} (h:Dr st H) (hp:H p=none):p≠st:=let ⟨zs,e,l⟩:=h; fun z=>by rw [z,e] at hp; cases hp
theorem pA {st:Addr} {b:Int} {H:Hp} {Q:VK} {E:XK} (h:Dr st H) (jW:0 < b) (n9:b<=1000) (q:∀ d H',0<=d->d < b->Dr st H'->cO st H H'->Q (.int d) H'):sV [.ref st,.int b] H Q E:=by
 obtain ⟨zs,e,l⟩:=h;exact ⟨zs,e,l,jW,by omega,fun d zs' H' d0 d1 l' e' k=>q d H' d0 d1 ⟨zs',e',.inr l'⟩ k⟩
theorem pick (h0:0<=d) (h1:d < xs.length):∃ v∈xs,cU xs d=some v:=by
 obtain ⟨n,rfl⟩:=Int.eq_ofNat_of_zero_le h0;have hn:n < xs.length:=by omega
 exact ⟨xs[n],List.getElem_mem hn,iX (List.getElem?_eq_getElem hn)⟩
theorem mq {H:Hp} {st:Addr} {xs:List V} {Q:VK} {E:XK} {b:Int} (h:Dr st H) (hb:b=xs.length) (hn:xs.length<=1000) (h0:0 < xs.length) (q:∀ v H',v∈xs->Dr st H'->cO st H H'->Q v H') :
  xs.length<=sizeLine/\∀ p,H p=none->sV [.ref st,.int b] (upd H p (.lst xs)) (fun y H2=>nj K (.ref p) y H2 Q) E:=by
 refine ⟨fits hn,fun p hp=>?_⟩;have s1:=ah.upd (o:=.lst xs) hp;have b1:upd H p (.lst xs) p=some (.lst xs):=ax;have np:=h.ne hp;generalize upd H p (.lst xs)=H1 at s1 b1 ⊢;refine pA (h.same s1) (by omega) (by omega) fun d H2 d0 d1 h2 k2=>?_;obtain ⟨v,hv,e⟩:=pick (xs:=xs) d0 (by omega);simp only [nj,bI,k2 _ _ np b1,e];exact q v H2 hv h2 ((s1.keep st).trans k2)
def Si:Sp:=iU fun st H Q _=>Dr st H/\∀ nm H',isNm nm=true->Dr st H'->cO st H H'->Q (.str (Tx.S nm)) H'
theorem Sj:T.oS.k P w base 2 Si:=by
 refine T.oS.F.ok O9 (fun _ _ _ _ h=>eD h fun _ _=>rfl) fun _ A _ s H vs Q E hr h=>eD h fun st h=>?_;obtain ⟨aO,q⟩:=h;refine bD (b:=aV AH) ((ai (aM (bv (bC (K:=K) rfl) (ci (aa ap (aa ap (aa ap (aa ap (aa ap (aa ap ae))))))) (bn (gX T) hr.m T.bY.m T.bY.F.kp T.bY.b .nil aq (aa (ad 0) (aa am ae))))))) ?_;refine stI [some (V.ref st)] ?_;left;refine mq aO rfl (by simp) (by simp) fun v H1 hv h1 k1=>?_;obtain ⟨nm,hn,rfl⟩:∃ nm,isNm nm=true/\v=V.str (Tx.S nm):=by
  simp only [List.mem_cons,List.not_mem_nil,or_false] at hv;rcases hv with rfl | rfl | rfl | rfl | rfl | rfl
  ·exact ⟨[97],by decide +kernel,by decide +kernel⟩
  ·exact ⟨[98],by decide +kernel,by decide +kernel⟩
  ·exact ⟨[97,98],by decide +kernel,by decide +kernel⟩
  ·exact ⟨[98,97],by decide +kernel,by decide +kernel⟩
  ·exact ⟨[99],by decide +kernel,by decide +kernel⟩
  ·exact ⟨[108,101,97,100],by decide +kernel,by decide +kernel⟩
 exact q nm H1 hn h1 k1
def Q4:Sp:=iU fun st H Q _=>Dr st H/\∀ z H',z∈iN->Dr st H'->cO st H H'->Q (.str z) H'
theorem xE:T.gf.k P w base 2 Q4:=by
 refine T.gf.F.ok SE (fun _ _ _ _ h=>eD h fun _ _=>rfl) fun _ A _ s H vs Q E hr h=>eD h fun st h=>?_;obtain ⟨aO,q⟩:=h;refine bD (b:=aV Ca) ((ai (aM (bv (bC (K:=K) rfl) (ci (aa ap (aa ap (aa ap (aa ap (aa ap (aa ap (aa ap (aa ap ae))))))))) (bn (gX T) hr.m T.bY.m T.bY.F.kp T.bY.b .nil aq (aa (ad 0) (aa am ae))))))) ?_;refine stI [some (V.ref st)] ?_;left;refine mq aO rfl (by simp) (by simp) fun v H1 hv h1 k1=>?_;obtain ⟨z,hn,rfl⟩:∃ z,z∈iN/\v=V.str z:=by
  simp only [List.mem_cons,List.not_mem_nil,or_false] at hv;rcases hv with rfl | rfl | rfl | rfl | rfl | rfl | rfl | rfl
  all_goals exact ⟨_,by decide +kernel,rfl⟩
 exact q z H1 hn h1 k1
def joinR (n:Nat):List (List Nat)->List Nat
 | []=>[]
 | [x]=>x
 | x::y::r=>x++List.replicate n 47++joinR n (y::r)
theorem LD (n:Nat):∀ ps:List (List Nat),Str.join (Tx.S (List.replicate n 47)) (ps.map Tx.S)=Tx.S (joinR n ps)
 | []=>rfl
 | [x]=>rfl
 | x::y::r=>by
  have ih:=LD n (y::r);show Tx.S x++Tx.S (List.replicate n 47)++Str.join (Tx.S (List.replicate n 47)) ((y::r).map Tx.S)=Tx.S (x++List.replicate n 47++joinR n (y::r));rw [ih,Tx.oM,Tx.oM]
theorem AG (n:Nat):∀ ps:List (List Nat),(∀ w∈ps,47 ∉ w/\w≠[])->Tx.words 47 (joinR (n+1) ps)=ps
 | [],_=>rfl
 | [x],h=>Tx.F4 47 x (h x (by simp)).1 (h x (by simp)).2
 | x::y::r,h=>by
  have ih:=AG n (y::r) (fun w hw=>h w (List.mem_cons_of_mem _ hw));show Tx.words 47 (x++List.replicate (n+1) 47++joinR (n+1) (y::r))=_;rw [List.replicate_succ,List.append_assoc,List.cons_append,Tx.yN,Tx.HU,ih,Tx.F4 47 x (h x (by simp)).1 (h x (by simp)).2];rfl
theorem KJ (n k:Nat):∀ ps:List (List Nat),(∀ w∈ps,w.length<=k)->(joinR n ps).length<=ps.length * (k+n)
 | [],_=>Nat.zero_le _
 | [x],h=>by
  have:=h x (by simp);show x.length<=1 * (k+n);omega
 | x::y::r,h=>by
  have ih:=KJ n k (y::r) (fun w hw=>h w (List.mem_cons_of_mem _ hw));have:=h x (by simp);show (x++List.replicate n 47++joinR n (y::r)).length<=((y::r).length+1) * (k+n);rw [List.length_append,List.length_append,List.length_replicate,Nat.add_mul,Nat.one_mul];omega
structure xg (t:List Nat):Prop where
 l1:1<=t.length
 l2:t.length<=80
 all:(Tx.words 47 t).all cz=true
 n:(Tx.words 47 t).length<=6
def Q5:Sp:=iy fun st n H Q _=>A4 (Dr st H) (0<=n) (n<=6) (∀ t H',xg t->Dr st H'->cO st H H'->Q (.str (Tx.S t)) H')
structure UM (st l:Addr) (n:Int) (ps:List (List Nat)) (H:Hp) (σ:L2.St) (H':Hp):Prop where
 k:cO st H H'
 d:Dr st H'
 e:∃ (tx:List Nat) (t1 t2:Option V),σ=[some (V.ref st),some (V.int n),some (V.ref l),t1,t2,some (V.str (Tx.S tx))]/\Tx.words 47 tx=ps/\tx.length<=62
theorem Bk:T.iC.k P w base 3 Q5:=by
 refine T.iC.F.ok oO (fun _ _ _ _ h=>cv h fun _ _ _=>rfl) fun _ A _ s H vs Q E hr h=>cv h fun st n h=>?_;obtain ⟨aO,hn0,LR,q⟩:=h;refine bD (b:=aV B6) ((al (aR 2 oO.nd (ci ae))
 (al (oQ PassesOwn.never rfl (OL T.W2 (aa (bn (gX T) hr.m T.bY.m T.bY.F.kp T.bY.b .nil aq (aa (ad 0) (aa (cr dQ (ad 1) am) ae))) ae)) (et 3 oO.nd) (al (aR 4 oO.nd (bn (Sj T) hr.m T.oS.m T.oS.F.kp T.oS.b .nil aq (aa (ad 0) ae)))
 (ai (aU (fo PySem.F.slot_list_append PySem.F.type_list_append js (ad 2) (aa (bv (bC (K:=K) rfl) (ci (aa (ad 4) (aa (ad 4) (aa (ad 4) (aa (ad 4) (aa (ad 4) (aa ap (aa ap ae)))))))) (bn (gX T) hr.m T.bY.m T.bY.F.kp T.bY.b .nil aq (aa (ad 0) (aa am ae)))) ae))))))
 (al (aR 5 oO.nd (cr dQ (bv (bC (K:=K) rfl) (ci (aa ap (aa ap ae))) (bn (gX T) hr.m T.bY.m T.bY.F.kp T.bY.b .nil aq (aa (ad 0) (aa am ae)))) (nK PySem.F.slot_str_join PySem.F.type_str_join (Cw (K:=K) rfl) (bv (bC (K:=K) rfl) (ci (aa ap (aa ap (aa ap ae)))) (bn (gX T) hr.m T.bY.m T.bY.F.kp T.bY.b .nil aq (aa (ad 0) (aa am ae)))) (aa (ad 2) ae))))
 (al (aW (eA (f8 (aZ (C6 hr.gg) (ad 2) (ci ae)) (jz (aZ cP (bn (gX T) hr.m T.bY.m T.bY.F.kp T.bY.b .nil aq (aa (ad 0) (aa am ae))) am)))) (ai (aR 5 oO.nd (cr dQ (ad 5) ap))) ce)
 (ai (aM (bv (bC (K:=K) rfl) (ci (aa (ad 5) (aa ap ae))) (l6 wY T.ui tY (aa (em cP (ad 5) ap) ae)))))))))) ?_
 refine stI [some (V.ref st),some (V.int n),none,none,none,none] ?_;refine aj ?_;left;refine ⟨fits (by simp),fun l hl=>?_⟩;have s1:=ah.upd (o:=.lst []) hl;have b1:upd H l (.lst []) l=some (.lst (PV [])):=ax;have nl:=aO.ne hl;generalize upd H l (.lst [])=H1 at s1 b1 ⊢;refine fe (fun σ' H'=>cO st H H'/\Dr st H'/\∃ (ps:List (List Nat)) (t1 t2:Option V),σ'=[some (V.ref st),some (V.int n),some (V.ref l),t1,t2,none]/\ps.all cz=true/\ps.length<=6/\H' l=some (.lst (PV ps))) ?_ ?_
 ·left;refine pA (aO.same s1) (by omega) (by omega) fun d H2 d0 d1 h2 k2=>?_;obtain ⟨m,rfl⟩:=Int.eq_ofNat_of_zero_le d0;refine ⟨⟨by omega,by omega⟩,?_⟩;refine YZ (fun i σ' H'=>cO st H H'/\Dr st H'/\∃ (ps:List (List Nat)) (t1 t2:Option V),σ'=[some (V.ref st),some (V.int n),some (V.ref l),t1,t2,none]/\ps.all cz=true/\ps.length=i/\H' l=some (.lst (PV ps))) ⟨(s1.keep st).trans k2,h2,[],_,_,rfl,rfl,rfl,k2 _ _ nl b1⟩ ?_ ?_
  ·rintro i σ' H3 hi ⟨k3,h3,ps,t1,t2,rfl,dB,bj,b3⟩;refine aj ?_;left;refine ⟨h3,fun nm H4 bZ h4 k4=>?_⟩;left;have b4:=k4 _ _ nl b3;simp only [b4];refine mq h4 rfl (by simp) (by simp) fun v H5 hv h5 k5=>?_;obtain ⟨wd,hwd,rfl⟩:∃ wd,cz wd=true/\v=V.str (Tx.S wd):=by
    simp only [List.mem_cons,List.not_mem_nil,or_false] at hv;have hp:cz nm=true:=by unfold cz; rw [bZ]; simp
    rcases hv with rfl | rfl | rfl | rfl | rfl | rfl | rfl
    ·exact ⟨nm,hp,rfl⟩
    ·exact ⟨nm,hp,rfl⟩
    ·exact ⟨nm,hp,rfl⟩
    ·exact ⟨nm,hp,rfl⟩
    ·exact ⟨nm,hp,rfl⟩
    ·exact ⟨[46],by decide +kernel,by decide +kernel⟩
    ·exact ⟨[46,46],by decide +kernel,by decide +kernel⟩
   have b5:=k5 _ _ nl b4;simp only [b5];have hil:i < m:=by simpa using hi
   refine ⟨iR (by simp [PV]; omega),fun c o hc e=>?_,?_,ps++[wd],_,_,rfl,by rw [List.all_append,dB]; simp [hwd],by rw [List.length_append,bj]; rfl,by rw [ax]; simp [PV]⟩
   ·have ncl:c≠l:=fun z=>by rw [z,hl] at e; cases e
    rw [ag ncl];exact ((k3.trans k4).trans k5) c o hc e
   ·obtain ⟨zs,e,h⟩:=h5;exact ⟨zs,by rw [ag (Ne.symm nl)]; exact e,h⟩
  ·rintro σ' H3 ⟨k3,h3,ps,t1,t2,rfl,dB,bj,b3⟩;exact ⟨k3,h3,ps,t1,t2,rfl,dB,by rw [bj]; simp; omega,b3⟩
 ·rintro σ' H2 ⟨k2,d2,ps,t1,t2,rfl,dB,bj,b2⟩;have qN:Str.ofString "/" = Tx.S [47]:=by decide +kernel
  have e0:Str.ofString "" = Tx.S []:=by decide +kernel
  have hw:∀ w'∈ps,47 ∉ w'/\w'≠[]:=fun w' hw'=>let q:=o6 (List.all_eq_true.mp dB w' hw'); ⟨q.1,q.2.1⟩
  have h8:∀ w'∈ps,w'.length<=8:=fun w' hw'=>(o6 (List.all_eq_true.mp dB w' hw')).2.2;refine aj ?_;left;refine mq d2 rfl (by simp) (by simp) fun v H3 hv d3 k3=>?_;obtain ⟨pre,jU,rfl⟩:∃ pre:List Nat,(pre=[]\/pre=[47])/\v=V.str (Tx.S pre):=by
   simp only [List.mem_cons,List.not_mem_nil,or_false] at hv;rcases hv with rfl | rfl
   ·exact ⟨[],.inl rfl,by decide +kernel⟩
   ·exact ⟨[47],.inr rfl,by decide +kernel⟩
  have b3:=k3 _ _ nl b2;refine mq d3 rfl (by simp) (by simp) fun v H4 hv d4 k4=>?_;obtain ⟨m,hm,rfl⟩:∃ m:Nat,m<=1/\v=V.str (Tx.S (List.replicate (m+1) 47)):=by
   simp only [List.mem_cons,List.not_mem_nil,or_false] at hv;rcases hv with rfl | rfl | rfl
   ·exact ⟨0,by decide,by decide +kernel⟩
   ·exact ⟨0,by decide,by decide +kernel⟩
   ·exact ⟨1,by decide,by decide +kernel⟩
  have b4:=k4 _ _ nl b3;have NA:=(k2.trans k3).trans k4;have EI:=KJ (m+1) 8 ps h8;have hjb:(joinR (m+1) ps).length<=60:=Nat.le_trans EI (by have:ps.length * (8+(m+1))<=6 * 10:=Nat.mul_le_mul bj (by omega); exact this);have xS:pre.length<=1:=by rcases jU with rfl | rfl <;> simp
  refine ⟨_,aC.of b4,ps.map Tx.S,rfl,?_,?_⟩
  ·have:=BN (Tx.S (List.replicate (m+1) 47)).length (ps.map Tx.S) 0 (fun s hs=>by
    obtain ⟨x,hx,rfl⟩:=List.mem_map.mp hs;rw [Tx.cq]; exact h8 x hx)
   refine fits (Nat.le_trans this ?_);rw [Tx.cq,List.length_replicate,List.length_map];have:(8+(m+1)) * ps.length<=10 * 6:=Nat.mul_le_mul (by omega) bj;omega
  rw [LD];simp only [Tx.oM];have xR:Tx.words 47 (pre++joinR (m+1) ps)=ps:=by
   rcases jU with rfl | rfl
   ·exact AG m ps hw
   ·exact (Tx.yH 47 _).trans (AG m ps hw)
  refine ⟨fits (by rw [Tx.cq,Tx.cq]; omega),?_⟩;generalize jR:pre++joinR (m+1) ps=tx at xR ⊢;have uM:tx.length<=61:=by rw [<- jR,List.length_append]; omega
  refine fe (UM st l n ps H) ?_ ?_
  ·left;refine ⟨fits (by simp),fun p hp=>?_⟩;refine c8 (o:=.lst []) hp fun H5 s5 b5=>?_;refine ⟨ps.map Tx.S,[],s5 _ _ b4,b5,?_⟩;by_cases hps0:ps=[]
   ·refine bL (by rw [decide_eq_true (by rw [hps0]; rfl)]; rfl) (aY ⟨NA.trans (s5.keep st),d4.same s5,_,_,_,rfl,xR,by omega⟩)
   ·refine bX (by rw [decide_eq_false (fun e=>hps0 (List.map_eq_nil_iff.mp e))]; rfl) ?_;refine pA (d4.same s5) (by decide) (by decide) fun d H6 _ _ d6 k6=>?_;have k6':=(NA.trans (s5.keep st)).trans k6;refine kx (fun _=>?_) (fun _=>⟨k6',d6,_,_,_,rfl,xR,by omega⟩);rw [qN,Tx.oM];exact ⟨fits (by rw [Tx.cq,Tx.cq]; show tx.length+1<=1000; omega),k6',d6,_,_,_,rfl,(Tx.yN 47 tx []).trans (by rw [xR]; exact List.append_nil _),by rw [List.length_append]; show tx.length+1<=62; omega⟩
  ·rintro σ' H5 ⟨k5,d5,tx,t1,t2,rfl,Nx,gE⟩;left;refine ⟨fits (by simp),fun p hp=>?_⟩;simp only [bI,ax];have k6:=k5.trans ((ah.upd (o:=.lst [V.str (Tx.S tx),V.str (Str.ofString ".")]) hp).keep st);have d6:=d5.same (ah.upd (o:=.lst [V.str (Tx.S tx),V.str (Str.ofString ".")]) hp);by_cases htx0:tx=[]
   ·rw [decide_eq_true (by rw [htx0,e0]),if_pos rfl];rw [show cU [V.str (Tx.S tx),V.str (Str.ofString ".")] 1=some (V.str (Str.ofString ".")) from iX (j:=1) rfl,show Str.ofString "." = Tx.S [46] by decide +kernel];rw [show Str.ofString "." = Tx.S [46] by decide +kernel] at k6 d6;exact q [46] _ ⟨by decide,by decide,by decide +kernel,by decide⟩ d6 k6
   ·rw [decide_eq_false (fun e=>htx0 (Tx.pS (e.trans e0))),if_neg (by nofun)];rw [show cU [V.str (Tx.S tx),V.str (Str.ofString ".")] 0=some (V.str (Tx.S tx)) from iX (j:=0) rfl];exact q tx _ ⟨by have:tx.length≠0:=fun e=>htx0 (List.length_eq_zero_iff.mp e); omega,by omega,by rw [Nx]; exact dB,by rw [Nx]; exact bj⟩ d6 k6
def Rt (K:PySem.W.Frag):Sp:=iy fun a k H Q _=>A3 (∃ ns:List Int,aC K H a (ns.map V.int)) (0<=k) (∀ c:Int,Q (.int c) H)
theorem V9:T.qe.k P w base 1 (Rt K):=by
 refine T.qe.F.ok Yu (fun _ _ _ _ h=>cv h fun _ _ _=>rfl) fun _ A _ s H vs Q E hr h=>cv h fun a k h=>?_;obtain ⟨⟨ns,hS⟩,hk,q⟩:=h;obtain ⟨k,rfl⟩:=Int.eq_ofNat_of_zero_le hk;refine ⟨_,((al (aW (aZ JF (ad 1) (cF (Ql (K:=K) rfl) T.jg PySem.boot_len (aa (ad 0) ae))) (ai (aM (bv (Sh (K:=K) rfl) (ad 0) (ad 1)))) ce)
 (ai (aM am)))).h,?_⟩
 refine stI [some (.ref a),some (.int (k:Nat))] ?_;refine aj ?_;left;refine ⟨_,hS,?_⟩;refine kx (fun hd=>?_) (fun _=>q _);have hl:k < ns.length:=by have:=of_decide_eq_true hd; rw [List.length_map] at this; omega
 refine ⟨_,.int ns[k],hS,?_,q _⟩;refine iX (j:=k) ?_;rw [List.getElem?_map,List.getElem?_eq_getElem hl]; rfl
def Wr (CH CS CT:Addr):Sp:=iy fun x n H Q _=>X4 fun A L M (k:Nat)=>A6 (aG CH CS CT H A L M) (A.a=x) (n=(k:Int)) (M.tr=[(("main" : Str),0)]) (M.un=[]) (∀ H',ah H H'->Q (.int (k:Int)) H')
theorem zx (h:M.tr=[(("main" : Str),0)]):Bq M=[("main" : Str)]:=by
 unfold Bq;rw [h];exact Sm _
theorem qG:T.ei.k P w base 4 (Wr T.aH T.aN T.aS):=by
 refine T.ei.F.ok IF (fun _ _ _ _ h=>cv h fun _ _ _=>rfl) fun _ A _ s H vs Q E hr h=>cv h fun x n h=>?_;obtain ⟨AA,L,M,k,i,rfl,rfl,cR,lA,q⟩:=h;obtain ⟨fs,c,hx,aP,sf⟩:=i.h;refine bD (b:=aV Br) ((al (oQ PassesOwn.never rfl (iS (K:=K) rfl (pe T.aI T.j6.h (zu T) hr.m T.j6.b .nil aq (ad 0))) (et 2 IF.nd) (ai (aW (aZ cP (bf T.aI T.nH.h (KH T) hr.m T.nH.b .nil aq (ad 0) (aa (ad 2) ae)) (ad 1)) (ai fz) ce)))
 (ai (aM (ad 1))))) ?_
 refine stI [some (V.ref AA.a),some (V.int (k:Int)),none] ?_;refine aj ?_;left;refine (mI hx sf ⟨AA,L,M,i,rfl,by rw [cR]; simp,fun l hl=>?_⟩);rw [zx cR];refine c8 (o:=.lst ([("main" : Str)].map V.str)) hl fun H1 s1 b1=>?_;have i1:=i.same s1;obtain ⟨gm,c1,bx,gK,cE⟩:=i1.h;refine ⟨⟨_,aC.of b1⟩,rA (xs:=[("main" : Str)].map V.str) (fun jj σ' H'=>H'=H1/\∃ t,σ'=[some (V.ref AA.a),some (V.int (k:Int)),t]) ⟨rfl,_,rfl⟩ (fun jj σ' H' _ h=>by rw [h.1]; exact aC.of b1) ?_ (fun σ' H' h=>?_)⟩
 ·rintro jj v σ' H' hv ⟨rfl,t,rfl⟩;obtain rfl:v=V.str ("main" : Str):=by
   have:=List.mem_of_getElem? hv
   simpa using this
  left;refine (mI bx cE ⟨AA,L,M,0,i1,rfl,by rw [cR]; rfl,?_⟩);rw [lA];exact ⟨rfl,bL (decide_eq_false (by nofun)) ⟨rfl,_,rfl⟩⟩
 ·obtain ⟨rfl,t,rfl⟩:=h;left;exact q _ s1
def XM (CH CS CT:Addr):Sp:=iy fun x n H Q _=>X4 fun A L M (k:Nat)=>A6 (aG CH CS CT H A L M) (A.a=x) (n=(k:Int)) (M.tr=[(("main" : Str),0)]) (M.un=[]) (∀ l H',ah H H'->H' l=some (.lst [.int (k:Int)])->Q (.ref l) H')
theorem wH:T.f9.k P w base 5 (XM T.aH T.aN T.aS):=by
 refine T.f9.F.ok xp (fun _ _ _ _ h=>cv h fun _ _ _=>rfl) fun _ A _ s H vs Q E hr h=>cv h fun x n h=>?_;obtain ⟨AA,L,M,k,i,rfl,rfl,cR,lA,q⟩:=h;refine bD (b:=aV B8) ((al (aR 2 xp.nd (ci (aa (ad 1) ae)))
 (al (oQ PassesOwn.never rfl (iS (K:=K) rfl (pe T.aI T.j6.h (zu T) hr.m T.j6.b .nil aq (ad 0))) (et 3 xp.nd) (ai (oQ PassesOwn.never rfl (iS (K:=K) rfl (pe T.aI T.j6.h (zu T) hr.m T.j6.b .nil aq (ad 0))) (et 4 xp.nd) (ai (aW (eA (f8 (aZ cP (bf T.aI T.nN.h (Ii T) hr.m T.nN.b .nil aq (ad 0) (aa (ad 4) ae)) (bv (bC (K:=K) rfl) (ad 2) am)) (jz (aZ nB (bf T.aI T.nH.h (KH T) hr.m T.nH.b .nil aq (ad 0) (aa (ad 4) ae)) au)))) (ai fz) ce)))))
 (al (kZ PassesOwn.never (aZ lK (bn (qG T) hr.m T.ei.m T.ei.F.kp T.ei.b .nil aq (aa (ad 0) (aa (bv (bC (K:=K) rfl) (ad 2) (ii jO am)) ae))) (bv (bC (K:=K) rfl) (ad 2) (ii jO am))) (ai fz))
 (ai (aM (ad 2))))))) ?_
 refine stI [some (V.ref AA.a),some (V.int (k:Int)),none,none,none] ?_;refine aj ?_;left;refine ⟨fits (by simp),fun lf hlf=>?_⟩;refine c8 (o:=.lst [V.int (k:Int)]) hlf fun H0 s0 b0=>?_;refine fe (fun σ' H'=>ah H0 H'/\∃ t1 t2,σ'=[some (V.ref AA.a),some (V.int (k:Int)),some (V.ref lf),t1,t2]) ?_ ?_
 ·have i1:=i.same s0;obtain ⟨gm,c1,bx,gK,cE⟩:=i1.h;left;refine (mI bx cE ⟨AA,L,M,i1,rfl,by rw [cR]; simp,fun l hl=>?_⟩);rw [zx cR];refine c8 (o:=.lst ([("main" : Str)].map V.str)) hl fun H1 s1 b1=>?_;refine ⟨⟨_,aC.of b1⟩,rA (xs:=[("main" : Str)].map V.str) (fun jj σ' H'=>ah H1 H'/\∃ t1 t2,σ'=[some (V.ref AA.a),some (V.int (k:Int)),some (V.ref lf),t1,t2]) ⟨fun _ _ e=>e,_,_,rfl⟩ (fun jj σ' H' _ h=>aC.of (h.1 _ _ b1)) ?_ (fun σ' H' h=>⟨s1.trans h.1,h.2⟩)⟩;rintro jj v σ' H2 hv ⟨s2,t1,t2,rfl⟩;have i2:=i.same ((s0.trans s1).trans s2);obtain ⟨ia,c2,b7,gI,cb⟩:=i2.h;left;refine (mI b7 cb ⟨AA,L,M,i2,rfl,by rw [cR]; simp,fun l3 gz=>?_⟩);rw [zx cR];refine c8 (o:=.lst ([("main" : Str)].map V.str)) gz fun H3 s3 b3=>?_;have Na:=s1.trans (s2.trans s3);have i3:=i.same (s0.trans Na);obtain ⟨gB,c3,da,fP,dA⟩:=i3.h;have b03:=Na _ _ b0;refine ⟨⟨_,aC.of b3⟩,rA (xs:=[("main" : Str)].map V.str) (fun jj σ' H'=>H'=H3/\∃ t1 t2,σ'=[some (V.ref AA.a),some (V.int (k:Int)),some (V.ref lf),t1,t2]) ⟨rfl,_,_,rfl⟩ (fun jj σ' H' _ h=>by rw [h.1]; exact aC.of b3) ?_ (fun σ' H' h=>by rw [h.1]; exact ⟨s2.trans s3,h.2⟩)⟩;rintro jj v σ' H' hv ⟨rfl,t1,t2,rfl⟩;obtain rfl:v=V.str ("main" : Str):=by
   have:=List.mem_of_getElem? hv
   simpa using this
  left;refine (mI da dA ⟨AA,L,M,0,i3,rfl,by rw [cR]; rfl,?_⟩);simp only [bI,b03,df];refine kx (fun _=>?_) (fun _=>aY ⟨by trivial,_,_,rfl⟩);refine (mI da dA ⟨AA,L,M,0,i3,rfl,by rw [cR]; rfl,?_⟩);rw [lA];exact ⟨by trivial,bL (congrArg not (decide_eq_true rfl)) ⟨rfl,_,_,rfl⟩⟩
 ·rintro σ' H1 ⟨s1,t1,t2,rfl⟩;have i1:=i.same (s0.trans s1);have b1:=s1 _ _ b0;have e1:([V.int (k:Int)]:List V)=[]++[V.int (k:Int)]:=rfl;refine aj ⟨fun m σ' H'=>σ'=[some (V.ref AA.a),some (V.int (k:Int)),some (V.ref lf),t1,t2]/\H'=H1,⟨0,rfl,rfl⟩,?_⟩;rintro m σ' H' ⟨rfl,rfl⟩;left;rw [e1] at b1;simp only [bI,b1,kL];refine ⟨AA,L,M,k,i1,rfl,rfl,cR,lA,fun H2 s2=>?_⟩;simp only [s2 _ _ b1,kL];refine bL (by simp) ?_;left;exact q lf H2 ((s0.trans s1).trans s2) (s2 _ _ b1)
def P6 (CH CS CT:Addr):Sp:=kY fun x z n H Q _=>X6 fun A L M (k:Nat) (r:Nat) (t:Th)=>A8 (aG CH CS CT H A L M) (A.a=x) (n=(k:Int)) (aF (sD M.ro) (.inr z)=some (.int (r:Int))) (Gd M) (M.ts[k]?=some t) (cG M r k) (∀ H',ah H H'->Q (.bl true) H')
theorem QM:T.pR.k P w base 6 (P6 T.aH T.aN T.aS):=by
 refine T.pR.F.ok rL (fun _ _ _ _ h=>fA h fun _ _ _ _=>rfl) fun _ A _ s H vs Q E hr h=>fA h fun x z n h=>?_;obtain ⟨AA,L,M,k,r,t,i,rfl,rfl,hz,g,ht,hb,q⟩:=h;refine bD (b:=aV BF) ((al (kZ PassesOwn.never (eA (f8 (aZ nB (ad 2) au) (jz (aZ cP (bn (qG T) hr.m T.ei.m T.ei.F.kp T.ei.b .nil aq (aa (ad 0) (aa (ad 2) ae))) (ad 2))))) (al (aR 3 rL.nd (bn (wH T) hr.m T.f9.m T.f9.F.kp T.f9.b .nil aq (aa (ad 0) (aa (ad 2) ae))))
 (al (aW (aZ (tu (K:=K) rfl) (bf T.aI T.fj.h (nO T) hr.m T.fj.b .nil aq (ad 0) (aa (ad 1) ae)) (ad 3)) (ai (aM dL)) ce)
 (al (aR 4 rL.nd (bf T.aI T.gj.h (pJ T) hr.m T.gj.b .nil aq (ad 0) (aa (bv (bC (K:=K) rfl) (ad 3) am) ae)))
 (al (aR 2 rL.nd au)
 (ai (aW (aZ nB (ad 4) au) (ai (aR 2 rL.nd (bv (bC (K:=K) rfl) (ad 4) am))) ce)))))))
 (ai (aM dL)))) ?_
 refine stI [some (V.ref AA.a),some (V.str z),some (V.int (k:Int)),none,none] ?_;refine aj ⟨fun m σ' H'=>ah H H'/\∃ t t1 t2,M.ts[m]?=some t/\cG M r m/\σ'=[some (V.ref AA.a),some (V.str z),some (V.int (m:Int)),t1,t2],⟨k,fun _ _ e=>e,t,_,_,ht,hb,rfl⟩,?_⟩;clear ht hb;rintro m σ' H1 ⟨s1,t,t1,t2,ht,hb,rfl⟩;have i1:=i.same s1;obtain ⟨a,ha⟩:=adr i1.len ht;left;refine ⟨by trivial,bX (congrArg not (decide_eq_false (by nofun))) ?_⟩;refine ⟨AA,L,M,m,i1,rfl,rfl,g.tr,g.un,fun H2 s2=>bX (decide_eq_true rfl) ⟨_,fun _ _ h=>h,aj ?_⟩⟩;have i2:=i1.same s2;left;refine ⟨AA,L,M,m,i2,rfl,rfl,g.tr,g.un,fun l H3 s3 hl=>aj ?_⟩;have i3:=i2.same s3;obtain ⟨fs,c,hx,aP,sf⟩:=i3.h;left;refine (mI hx sf ⟨AA,L,M,r,i3,rfl,hz,?_⟩);simp only [bI,hl];refine ⟨rfl,by simp [cN],?_⟩;rw [show ([V.int (m:Int)]:List V)=nV [m] from rfl,kJ,ji];by_cases h0:m=r
 ·rw [decide_eq_true h0];exact bT (q _ ((s1.trans s2).trans s3))
 ·rw [decide_eq_false h0];refine aY (aj ?_);obtain ⟨f,nm,tf,hf,hp,_,bK,_,hb'⟩:=g.par ht hb h0;left;simp only [bI,hl,df];refine (mI hx sf ⟨AA,L,M,m,a,t,i3,rfl,rfl,ha,ht,.inr ⟨f,nm,hp,fun p qZ=>aj ?_⟩⟩);left;refine ⟨by trivial,bX (congrArg not (decide_eq_false (by nofun))) ?_⟩;simp only [bI,qZ,df];exact ⟨f,hf,(s1.trans s2).trans s3,tf,_,_,bK,hb',rfl⟩
def ZM (CH CS CT:Addr):Sp:=HV fun x z n nv H Q _=>X8 fun A L M (k:Nat) (r:Nat) (t:Th) (ns:List Str) (bS:List Str)=>KY (aG CH CS CT H A L M) (A.a=x) (n=(k:Int)) (aF (sD M.ro) (.inr z)=some (.int (r:Int))) (Gd M) (M.ts.length<=90) (M.ts[k]?=some t) (nv=.au/\bS=[]\/∃ nm:Str,nv=.str nm/\bS=[nm]/\nm.length<=8) (∃ m,gZ M L r m k ns) (ns.length<=99) (∀ s∈ns,s.length<=8) (∀ H',ah H H'->Q (.str (gQ (ns++bS))) H')
theorem TJ:T.qC.k P w base 6 (ZM T.aH T.aN T.aS):=by
 refine T.qC.F.ok rE (fun _ _ _ _ h=>Hf h fun _ _ _ _ _=>rfl) fun _ A _ s H vs Q E hr h=>Hf h fun x z n nv h=>?_;obtain ⟨AA,L,M,k,r,t,ns,bS,i,rfl,rfl,hz,g,hn,ht,EC,bZ,hl99,h8,q⟩:=h;refine bD (b:=aV Dl) ((al (aR 4 rE.nd (ge (mm (K:=K) rfl) (ci (aa (ad 3) ae)) jC (iu (l6 wY T.ui tY (aa (em nB (ad 3) au) ae)))))
 (al (kZ PassesOwn.never (aZ (vv (K:=K) rfl) (bf T.aI T.fj.h (nO T) hr.m T.fj.b .nil aq (ad 0) (aa (ad 1) ae)) (bn (wH T) hr.m T.f9.m T.f9.F.kp T.f9.b .nil aq (aa (ad 0) (aa (ad 2) ae)))) (al (ub (bf T.aI T.gj.h (pJ T) hr.m T.gj.b .nil aq (ad 0) (aa (bv (bC (K:=K) rfl) (bn (wH T) hr.m T.f9.m T.f9.F.kp T.f9.b .nil aq (aa (ad 0) (aa (ad 2) ae))) am) ae)) (wo (K:=K) (n:=2) rfl rfl (lL (et 2 rE.nd) (lL (et 5 rE.nd) xo))))
 (ai (aR 4 rE.nd (cr dQ (ci (aa (ad 5) ae)) (ad 4))))))
 (ai (aM (cr dQ ap (nK PySem.F.slot_str_join PySem.F.type_str_join (Cw (K:=K) rfl) ap (aa (ad 4) ae)))))))) ?_
 refine stI [some (V.ref AA.a),some (V.str z),some (V.int (k:Int)),some nv,none,none] ?_;refine fe (fun σ' H'=>ah H H'/\∃ l,σ'=[some (V.ref AA.a),some (V.str z),some (V.int (k:Int)),some nv,some (V.ref l),none]/\H' l=some (.lst (bS.map V.str))) ?_ ?_
 ·left;refine ⟨fits (by simp),fun p hp=>⟨by trivial,_,aC.of ax,fun p1 ot=>⟨(ah.upd hp).trans (ah.upd ot),p1,rfl,?_⟩⟩⟩;rw [ax];rcases EC with ⟨rfl,rfl⟩ | ⟨nm,rfl,rfl,_⟩
  ·rw [decide_eq_true rfl]; rfl
  ·rw [decide_eq_false (by nofun)]; rfl
 rintro σ' H1 ⟨s1,l,rfl,b1⟩;obtain ⟨m0,bZ⟩:=bZ;have kq:bS.length<=1:=by rcases EC with ⟨_,rfl⟩ | ⟨nm,_,rfl,_⟩ <;> simp
 refine aj ⟨fun m σ' H'=>ah H H'/\∃ (j:Nat) (t':Th) (pre uR:List Str) (l':Addr) (o:Option V),σ'=[some (V.ref AA.a),some (V.str z),some (V.int (j:Int)),some nv,some (V.ref l'),o]/\H' l'=some (.lst (uR.map V.str))/\M.ts[j]?=some t'/\gZ M L r m j pre/\pre++uR=ns++bS,⟨m0,s1,k,t,ns,bS,l,none,rfl,b1,ht,bZ,rfl⟩,?_⟩;clear s1 b1 ht bZ;rintro m σ' H1 ⟨s1,j,t',pre,uR,l',o,rfl,b1,ht,bZ,dB⟩;have i1:=i.same s1;obtain ⟨a,ha⟩:=adr i1.len ht;obtain ⟨fs,c,hx,aP,sf⟩:=i1.h;have hlen:pre.length+uR.length<=100:=by
  have:=congrArg List.length dB;rw [List.length_append,List.length_append] at this;omega
 obtain ⟨b',r',a',t'',ha',ht',jP,oJ⟩:=(by unfold gZ at bZ; exact bZ:∃ b r a t,L[j]?=some a/\M.ts[j]?=some t/\dh M j b r/\_);obtain ⟨rfl,rfl⟩:=g.j8 jP;rw [ht] at ht'; cases ht';left;refine (mI hx sf ⟨AA,L,M,r,i1,rfl,hz,AA,L,M,b',i1,rfl,rfl,g.tr,g.un,fun l2 H2 s2 cm=>?_⟩);have i2:=i1.same s2;obtain ⟨ia,c2,b7,gI,cb⟩:=i2.h;have b2:=s2 _ _ b1;refine ⟨_,.inl (aC.of cm),rfl,by simp [cN],?_⟩;rw [show ([V.int (b':Int)]:List V)=nV [b'] from rfl,kJ];rw [ji] at oJ ⊢;by_cases h0:b'=r
 ·rw [decide_eq_true h0] at oJ ⊢;rw [if_pos rfl] at oJ;rw [oJ,List.nil_append] at dB;subst dB;have hn8':∀ s∈ns++bS,s.length<=8:=fun s hs=>by
   rcases List.mem_append.mp hs with hs | hs
   ·exact h8 s hs
   ·rcases EC with ⟨_,rfl⟩ | ⟨nm,_,rfl,h⟩
    ·cases hs
    ·rw [List.mem_singleton.mp hs]; exact h
  obtain ⟨n9,oy⟩:=LA hn8' (by rw [List.length_append]; omega);have lj:(Str.ofString "/").length=1:=by decide +kernel
  exact aY ⟨_,aC.of b2,_,rfl,fits (by omega),fits (by omega),q _ (s1.trans s2)⟩
 ·rw [decide_eq_false h0] at oJ ⊢;rw [if_neg (by nofun)] at oJ;obtain ⟨ab,tb,f,zz,fK,mS,bj,hm⟩:=oJ;rw [ht] at mS; cases mS;cases m with
  | zero=>exact hm.elim
  | succ m =>
   obtain ⟨ns',rfl,hm⟩:=hm;obtain ⟨f',nm',tf,_,hp',_,bK,_⟩:∃ (f:Nat) (nm:Str) (tf:Th),f < b'/\t'.cC=[(f,nm)]/\nm.length<=8/\M.ts[f]?=some tf/\tf.kd=("folder" : Str):=by
    rcases (g.th b' t' ht).pl with ⟨_,e⟩ | h
    ·rw [e] at bj; cases bj
    ·exact h
   rw [bj] at hp'; cases hp';refine bT ⟨_,fun _ _ h=>h,aj ?_⟩;left;refine (mI b7 cb ⟨AA,L,M,b',i2,rfl,rfl,g.tr,g.un,fun l3 H3 s3 gz=>?_⟩);have i3:=i2.same s3;obtain ⟨gB,c3,da,fP,dA⟩:=i3.h;have b3:=s3 _ _ b2;simp only [bI,gz,df];refine ⟨AA,L,M,b',a,t',i3,rfl,rfl,ha,ht,.inr ⟨f,zz,bj,fun p hp=>⟨p,_,rfl,bJ.of hp,rfl,_,_,rfl,_,_,rfl,rfl,fits (by simp),fun p4 iJ=>?_⟩⟩⟩;have s4:=ah.upd (o:=.lst [V.str zz]) iJ;have b4:=s4 _ _ b3;have c4:upd H3 p4 (.lst [V.str zz]) p4=some (.lst [V.str zz]):=ax;generalize upd H3 p4 (.lst [V.str zz])=H4 at s4 b4 c4 ⊢;simp only [b4,c4];refine ⟨fits (by rw [List.length_append] at hlen; simp at hlen ⊢; omega),fun p5 qQ=>⟨m,Nat.lt_succ_self m,(((s1.trans s2).trans s3).trans s4).trans (ah.upd qQ),f,tf,ns',zz::uR,p5,_,rfl,ax,bK,hm,by rw [<- dB]; simp⟩⟩
def Yn:Sp:=jD fun pt H Q _=>X1 fun t=>A4 (pt=Tx.S t) (eN t) (t.length<=400) (∀ l H',ah H H'->H' l=some (.lst (PV (told (Tx.words 47 t) t)))->Q (.ref l) H')
theorem Lq:T.kz.k P w base 1 Yn:=by
 refine T.kz.F.ok Ig (fun _ _ _ _ h=>eU h fun _ _=>rfl) fun _ A _ s H vs Q E hr h=>eU h fun pt h=>?_;obtain ⟨t,rfl,pt,hl,q⟩:=h;refine bD (b:=aV zH) ((al (Bm 1 rfl Ig.nd (x:=("_law_part" : Str)) (iS (K:=K) rfl (nK PySem.F.slot_str_split PySem.F.type_str_split Fy (ad 0) (aa ap ae))) (fun _ _ _ _=>by exact (Ld (aZ lK (ad 0) ap))) (fun _ _ _ _=>by exact (et 0 (show List.Nodup (["_law_part"]:List Str) by decide))) (fun _ _ _ _=>by exact (ad 0)) (.of rfl (by exact trivial) (by walk_at "c") rfl (by exact trivial)))
 (al (aW (eA (f8 (aZ (C6 hr.gg) (ad 1) (ci ae)) (jz (aZ cP (bv (bC (K:=K) rfl) (ad 0) (ii jO am)) ap)))) (ai (aU (fo PySem.F.slot_list_append PySem.F.type_list_append js (ad 1) (aa ap ae)))) ce)
 (ai (aM (ad 1)))))) ?_
 refine stI [some (V.str (Tx.S t)),none] ?_;have qN:Str.ofString "/" = Tx.S [47]:=by decide +kernel
 have e0:Str.ofString "" = Tx.S []:=by decide +kernel
 obtain ⟨LP,c,ht⟩:∃ LP c,t=LP++[c]:=⟨_,_,(List.dropLast_concat_getLast (l:=t) (fun e=>by have:=pt.l1; rw [e] at this; simp at this)).symm⟩;refine aj ?_;left;have yf:=Tx.vQ 47 t;simp only [qN,e0];refine ⟨rfl,by rw [Tx.cq]; exact fits (by omega),?_,?_⟩
 ·rw [Tx.yU,Tx.me,Tx.Ci,Tx.rF,List.length_map];exact fits (by omega)
 intro l hl;rw [Tx.KN t 47 (by decide)];refine c8 (o:=.lst (((Tx.cut 47 t).map Tx.S).map V.str)) hl fun H1 s1 b1=>?_;refine ⟨⟨_,aC.of b1⟩,Ar (fun x=>match x with | .str z=>!decide (z=Tx.S []) | _=>false) id (aC.of b1) (by rw [List.length_map,List.length_map]; exact fits (by omega)) ?_ ?_ ?_⟩
 ·intro x hx H2 _ R hR;obtain ⟨z,_,rfl⟩:=List.mem_map.mp hx;left;exact hR H2 (ah.refl H2)
 ·intro x hx _ H2 _ R hR;left;exact hR H2 (ah.refl H2)
 intro H2 s2 l2 cm;have ew:((((Tx.cut 47 t).map Tx.S).map V.str).filter (fun x=>match x with | .str z=>!decide (z=Tx.S []) | _=>false)).map id=PV (Tx.words 47 t):=by
  rw [List.map_id,List.filter_map];show ((((Tx.cut 47 t).map Tx.S)).filter _).map V.str=_
  congr 1
  rw [<- Tx.GD];refine List.filter_congr fun z _=>?_;show (!decide (z=Tx.S []))=decide (z≠Tx.S []);by_cases h:z=Tx.S [] <;> simp [h]
 rw [ew];have s3:=ah.upd (o:=.lst (PV (Tx.words 47 t))) cm;have b3:upd H2 l2 (.lst (PV (Tx.words 47 t))) l2=some (.lst (PV (Tx.words 47 t))):=ax;have gJ:H l2=none:=o9 (s1.trans s2) cm;generalize upd H2 l2 (.lst (PV (Tx.words 47 t)))=H3 at s3 b3 ⊢;have jV:ah H H3:=(s1.trans s2).trans s3;have oC:(Tx.words 47 t).length<=401:=Nat.le_trans (List.length_filter_le _ _) (by omega);have ME:t.getLast?=some c:=by rw [ht]; simp
 refine fe (fun σ' H'=>ah H H'/\σ'=[some (V.str (Tx.S t)),some (V.ref l2)]/\H' l2=some (.lst (PV (told (Tx.words 47 t) t)))) ?_ ?_
 ·left;refine ⟨fits (by simp),fun p hp=>?_⟩;refine c8 (o:=.lst []) hp fun H4 s4 b4=>?_;have yk:=s4 _ _ b3;refine ⟨(Tx.words 47 t).map Tx.S,[],yk,b4,?_⟩;by_cases h0:Tx.words 47 t=[]
  ·refine bL (by rw [decide_eq_true (by rw [h0]; rfl)]; rfl) (aY ⟨jV.trans s4,by trivial,?_⟩);unfold told;rw [if_neg (fun z=>z.1 h0)];exact yk
  ·refine bX (by rw [decide_eq_false (fun e=>h0 (List.map_eq_nil_iff.mp e))]; rfl) ⟨by rw [Tx.cq]; exact fits (by omega),?_⟩;rw [Tx.jM];rw [show cU t (-1)=some c by rw [ht]; exact kL _ _];by_cases hc:c=47
   ·refine bX (decide_eq_true (by rw [hc]; rfl)) ?_;simp only [yk];refine ⟨iR (by simp [PV]; omega),fun x o e=>?_,by trivial,?_⟩
    ·rw [ag (fun z=>by rw [z,gJ] at e; cases e)];exact (jV.trans s4) x o e
    ·rw [ax];unfold told;rw [if_pos ⟨h0,by rw [ME,hc]⟩,show Str.ofString "." = Tx.S [46] by decide +kernel];simp [PV]
   ·refine bL (decide_eq_false (fun e=>hc ?_)) ⟨jV.trans s4,by trivial,?_⟩
    ·have:=Tx.pS (a:=[c]) (b:=[47]) e;injection this
    ·unfold told;rw [if_neg (fun z=>hc (by rw [ME] at z; exact Option.some.inj z.2))];exact yk
 ·rintro σ' H4 ⟨s4,rfl,b4⟩;left;exact q l2 H4 s4 b4
def NV (CH CS CT:Addr):Sp:=Fl fun x z pt n H Q _=>X6 fun A L M t (k:Nat) (r:Nat)=>A8 (pt=Tx.S t) (eN t) (aG CH CS CT H A L M) (A.a=x) (n=(k:Int)) (aF (sD M.ro) (.inr z)=some (.int (r:Int))) (Gd M) (∀ H',ah H H'->Q (.int ((if cA t=true then r else k:Nat):Int)) H')
theorem Kd:T.j9.k P w base 5 (NV T.aH T.aN T.aS):=by
 refine T.j9.F.ok Vr (fun _ _ _ _ h=>Ha h fun _ _ _ _ _=>rfl) fun _ A _ s H vs Q E hr h=>Ha h fun x z pt n h=>?_;obtain ⟨AA,L,M,t,k,r',rfl,hp,i,rfl,rfl,hz,g,q⟩:=h;refine bD (b:=aV AO) ((al (aW (aZ cP (bv (bC (K:=K) rfl) (ad 2) am) ap) (ai (aM (bn (qG T) hr.m T.ei.m T.ei.F.kp T.ei.b .nil aq (aa (ad 0) (aa (bf T.aI T.fj.h (nO T) hr.m T.fj.b .nil aq (ad 0) (aa (ad 1) ae)) ae))))) ce)
 (ai (aM (ad 3))))) ?_
 refine stI [some (V.ref AA.a),some (V.str z),some (V.str (Tx.S t)),some (V.int (k:Int))] ?_;obtain ⟨c,r,ht⟩:∃ c r,t=c::r:=by
  cases t with
  | nil=>exact absurd hp.l1 (by simp)
  | cons c r=>exact ⟨c,r,rfl⟩
 obtain ⟨fs,cc,hx,aP,sf⟩:=i.h;refine aj ?_;left;refine ⟨by rw [Tx.cq]; exact Nat.le_trans hp.l2 (by decide),?_⟩;rw [Tx.jM,show cU t 0=some c by rw [ht]; exact iX (j:=0) rfl];have hh:cA t=decide (c=47):=by unfold cA; rw [ht]; simp
 rw [hh] at q;by_cases hc:c=47
 ·rw [if_pos (decide_eq_true hc)] at q;exact bX (decide_eq_true (by rw [hc]; decide +kernel)) (mI hx sf ⟨AA,L,M,r',i,rfl,hz,AA,L,M,r',i,rfl,rfl,g.tr,g.un,q⟩)
 ·rw [if_neg (by rw [decide_eq_false hc]; nofun)] at q;refine bL (decide_eq_false (fun e=>hc ?_)) (q _ fun _ _ e=>e);have:=Tx.pS (a:=[c]) (b:=[47]) (e.trans (by decide +kernel));injection this
def tO (r:Nat) (t:Th) (k:Nat):Nat:=if k=r then k else match t.cC with
 | (f,_)::_=>f
 | []=>k
def TK (CH CS CT:Addr):Sp:=kY fun x z n H Q _=>X6 fun A L M t (k:Nat) (r:Nat)=>A8 (aG CH CS CT H A L M) (A.a=x) (n=(k:Int)) (aF (sD M.ro) (.inr z)=some (.int (r:Int))) (Gd M) (M.ts[k]?=some t) (cG M r k) (∀ H',ah H H'->Q (.int ((tO r t k:Nat):Int)) H')
theorem V1:T.px.k P w base 6 (TK T.aH T.aN T.aS):=by
 refine T.px.F.ok Kq (fun _ _ _ _ h=>fA h fun _ _ _ _=>rfl) fun _ A _ s H vs Q E hr h=>fA h fun x z n h=>?_;obtain ⟨AA,L,M,t,k,r,i,rfl,rfl,hz,g,ht,hb,q⟩:=h;obtain ⟨a,ha⟩:=adr i.len ht;refine bD (b:=aV BB) ((al (aR 3 Kq.nd (bn (wH T) hr.m T.f9.m T.f9.F.kp T.f9.b .nil aq (aa (ad 0) (aa (ad 2) ae))))
 (al (aW (aZ (tu (K:=K) rfl) (bf T.aI T.fj.h (nO T) hr.m T.fj.b .nil aq (ad 0) (aa (ad 1) ae)) (ad 3)) (ai (aM (ad 2))) ce)
 (ai (aM (bn (qG T) hr.m T.ei.m T.ei.F.kp T.ei.b .nil aq (aa (ad 0) (aa (bv (bC (K:=K) rfl) (bf T.aI T.gj.h (pJ T) hr.m T.gj.b .nil aq (ad 0) (aa (bv (bC (K:=K) rfl) (ad 3) am) ae)) am) ae)))))))) ?_
 refine stI [some (V.ref AA.a),some (V.str z),some (V.int (k:Int)),none] ?_;refine aj ?_;left;refine ⟨AA,L,M,k,i,rfl,rfl,g.tr,g.un,fun l H1 s1 hl=>aj ?_⟩;have i1:=i.same s1;obtain ⟨fs,c,hx,aP,sf⟩:=i1.h;left;refine (mI hx sf ⟨AA,L,M,r,i1,rfl,hz,?_⟩);simp only [bI,hl];refine ⟨rfl,by simp [cN],?_⟩;rw [show ([V.int (k:Int)]:List V)=nV [k] from rfl,kJ,ji];unfold tO at q;by_cases h0:k=r
 ·rw [decide_eq_true h0];rw [if_pos h0] at q;exact bT (q H1 s1)
 ·obtain ⟨f,nm,tf,hf,hp,_,bK,_,_⟩:=g.par ht hb h0;rw [decide_eq_false h0];rw [if_neg h0,hp] at q;refine aY ?_;simp only [nV,List.map_cons,List.map_nil,df];refine (mI hx sf ⟨AA,L,M,k,a,t,i1,rfl,rfl,ha,ht,.inr ⟨f,nm,hp,fun p qZ=>?_⟩⟩);simp only [qZ,df];exact ⟨AA,L,M,f,i1,rfl,rfl,g.tr,g.un,fun H2 s2=>q _ (s1.trans s2)⟩
def fT (r:Nat) (t:Th) (k:Nat) (p:Str):V:=if p=(".." : Str) then .int (tO r t k:Nat) else if p=("." : Str) then .int (k:Nat) else (aF (sD t.bb) (.inr p)).getD .au
def Pm (CH CS CT:Addr):Sp:=FF fun x z n p H Q _=>X6 fun A L M t (k:Nat) (r:Nat)=>A9 (aG CH CS CT H A L M) (A.a=x) (n=(k:Int)) (aF (sD M.ro) (.inr z)=some (.int (r:Int))) (Gd M) (M.ts[k]?=some t) (cG M r k) (l8 p) (∀ H',ah H H'->Q (fT r t k p) H')
theorem Us:T.qt.k P w base 7 (Pm T.aH T.aN T.aS):=by
 refine T.qt.F.ok Qa (fun _ _ _ _ h=>JE h fun _ _ _ _ _=>rfl) fun _ A _ s H vs Q E hr h=>JE h fun x z n p h=>?_;obtain ⟨AA,L,M,t,k,r,i,rfl,rfl,hz,g,ht,hb,hp,q⟩:=h;obtain ⟨a,ha⟩:=adr i.len ht;obtain ⟨fs,c,hx,aP,sf⟩:=i.h;refine bD (b:=aV Ct) ((al (aW (aZ cP (ad 3) ap) (ai (aM (bn (V1 T) hr.m T.px.m T.px.F.kp T.px.b .nil aq (aa (ad 0) (aa (ad 1) (aa (ad 2) ae)))))) ce)
 (al (aW (aZ cP (ad 3) ap) (ai (aM (ad 2))) ce)
 (ai (aM (bf T.aI T.j5.h (Cb T) hr.m T.j5.b .nil aq (ad 0) (aa (ad 2) (aa (ad 3) ae)))))))) ?_
 refine stI [some (V.ref AA.a),some (V.str z),some (V.int (k:Int)),some (V.str p)] ?_;refine aj ?_;left;unfold fT at q;by_cases h1:p=(".." : Str)
 ·rw [if_pos h1] at q;exact bX (decide_eq_true h1) ⟨AA,L,M,t,k,r,i,rfl,rfl,hz,g,ht,hb,q⟩
 ·rw [if_neg h1] at q;refine bL (decide_eq_false h1) (aj ?_);left;by_cases h2:p=("." : Str)
  ·rw [if_pos h2] at q;exact bX (decide_eq_true h2) (q _ fun _ _ e=>e)
  ·rw [if_neg h2] at q;rcases hp with hp | hp | ⟨hp,h8⟩
   ·exact absurd hp h2
   ·exact absurd hp h1
   exact bL (decide_eq_false h2) (mI hx sf ⟨AA,L,M,k,a,t,i,rfl,rfl,ha,ht,hp,by omega,q⟩)
def Ov:Sp:=iy fun c n H Q _=>X2 fun (ns:List Nat) (k:Nat)=>A5 (n=(k:Int)) (H c=some (.tup (nV ns))) (k∈ns) (ns.length<=400) (∀ l H',ah H H'->H' l=some (.lst (nV (jB (ns.drop (ns.idxOf k)))))->Q (.ref l) H')
theorem XF:T.qy.k P w base 1 Ov:=by
 refine T.qy.F.ok Cm (fun _ _ _ _ h=>cv h fun _ _ _=>rfl) fun _ A _ s H vs Q E hr h=>cv h fun cc n h=>?_;obtain ⟨ms,k,rfl,hc,hk,hlen,q⟩:=h;refine bD (b:=aV zW) ((al (aR 2 Cm.nd (l6 (Ky (K:=K) rfl) T.m4 vN (aa (ge (Su (K:=K) rfl) (ad 0) (iu (OC PySem.F.slot_tuple_index PySem.F.type_tuple_index (NS (K:=K) rfl) (ad 0) (aa (ad 1) ae))) jC) ae)))
 (al (aR 3 Cm.nd (fo PySem.F.slot_list_index PySem.F.type_list_index (As (K:=K) rfl) (ad 2) (aa (cF (E4 (K:=K) rfl rfl) T.CI Iz (aa (ad 2) ae)) ae)))
 (ai (aM (cr dQ (ge (mm (K:=K) rfl) (ad 2) (iu (ad 3)) jC) (ge (mm (K:=K) rfl) (ad 2) jC (iu (ad 3))))))))) ?_
 refine stI [some (V.ref cc),some (V.int (k:Int)),none,none] ?_;have hj:ms.idxOf k < ms.length:=List.idxOf_lt_length_iff.mpr hk;refine fe (fun σ' H'=>∃ l,σ'=[some (V.ref cc),some (V.int (k:Int)),some (V.ref l),none]/\ah H H'/\H' l=some (.lst (nV (ms.drop (ms.idxOf k))))) ?_ ?_
 ·left;simp only [hc];refine ⟨_,bJ.of (by rw [hc,wK]),mem_cast hk,nV ms,bJ.of hc,fun hw=>?_,fun p hp=>?_⟩
  ·rw [pZ] at hw;have h0:ms.idxOf k=0:=by
    have:=hw.1;rw [HT.sj] at this;have e:(nV ms).length=ms.length:=List.length_map _;omega
   simp only [bI,hc];exact fun l hl=>⟨l,rfl,ah.upd hl,by rw [ax,h0]; rfl⟩
  ·rw [pZ,vY];simp only [bI,ax];exact fun l hl=>⟨l,rfl,(ah.upd hp).trans (ah.upd hl),by rw [ax]; unfold nV; rw [List.map_drop]⟩
 rintro σ' H1 ⟨l,rfl,s0,hl⟩;have dY:ms.drop (ms.idxOf k)≠[]:=fun e=>by have:=congrArg List.length e; simp at this; omega
 have cm:(ms.drop (ms.idxOf k)).length<=400:=by simp; omega
 generalize ms.drop (ms.idxOf k)=ns at hl dY cm q;refine aj ?_;left;simp only [hl];have hS:aC K H1 l ((ns.map (fun k:Nat=>(k:Int))).map V.int):=aC.of (by rw [hl,wK]);refine ⟨_,_,hS,mem_cast (sF dY),fun k hk=>?_,_,hS,mem_cast (sF dY),nV ns,aC.of hl,fun p hp=>?_⟩
 ·obtain ⟨k',hk',rfl⟩:=List.mem_map.mp hk;have:=BZ hk';omega
 rw [pZ,vY];refine c8 (o:=.lst (List.drop (ns.idxOf (g9 ns)) (nV ns))) hp fun H2 s1 b1=>?_;refine ⟨nV ns,aC.of (s1 _ _ hl),fun p2 cJ=>?_⟩;rw [Fb];refine c8 (o:=.lst (List.take (ns.idxOf (g9 ns)) (nV ns))) cJ fun H3 s2 b2=>?_;simp only [s2 _ _ b1,b2];refine ⟨fits (by simp [nV]; omega),fun p3 ie=>?_⟩;refine q p3 _ (((s0.trans s1).trans s2).trans (ah.upd ie)) ?_;rw [ax];unfold jB nV;rw [List.map_append,List.map_drop,List.map_take]
def dJ:List (Sum Nat Str)->List Nat->List (Str×List Nat)
 | [],_=>[]
 | .inr p::l,r=>(p,r)::dJ l r
 | .inl _::l,r=>dJ l r.dropLast
theorem yR (r:List Nat) (l:List (Sum Nat Str)):∀ ps:List Str,dJ (ps.map Sum.inr++l) r=ps.map (fun p=>(p,r))++dJ l r
 | []=>rfl
 | p::ps=>by show (p,r)::dJ (ps.map Sum.inr++l) r=_; rw [yR r l ps]; rfl
theorem Fe (ps:List Str):(cu ps).reverse=ps.map Sum.inr:=by unfold cu; rw [List.reverse_reverse]
theorem N5 (l:List (Sum Nat Str)) (k:Nat) (ps:List Str) (ch:List Nat):dJ (((l++[Sum.inl k])++cu ps).reverse) (ch++[k])=ps.map (fun p=>(p,ch++[k]))++dJ l.reverse ch:=by
 rw [List.reverse_append,Fe,yR,List.reverse_append];show _++dJ l.reverse (ch++[k]).dropLast=_;rw [List.dropLast_concat]
theorem C9:∀ l:List (Sum Nat Str),dv l.reverse=dv l
 | []=>rfl
 | .inl k::l=>by rw [List.reverse_cons,iz,C9 l]; rfl
 | .inr k::l=>by rw [List.reverse_cons,iz,C9 l]; rfl
theorem J3 (hc:dv l=ch.length):l=[] ↔ dJ l.reverse ch=[]/\ch=[]:=by
 constructor
 ·rintro rfl;exact ⟨rfl,List.length_eq_zero_iff.mp hc.symm⟩
 ·rintro ⟨h,rfl⟩;rw [<- C9] at hc;have:l.reverse=[]:=by
   generalize l.reverse=m at h hc
   match m,h,hc with
   | [],_,_=>rfl
   | .inr p::m,h,_=>cases h
   | .inl p::m,_,hc=>cases hc
  rw [<- List.reverse_reverse l,this]; rfl
section
variable {d:Wd} {S S' S1:Ws} {o:Option Tl} {n:Nat} {p:Str}
theorem Hc (h:ee d n S S' o):(dJ S.left.reverse S.aX=[]->o=none/\S'.here=S.here/\S'.place=S.place/\S'.step=S.step/\S'.asked=S.asked) /\
  ∀ p ch ts,dJ S.left.reverse S.aX=(p,ch)::ts->∃ l S1 o1,ed d { S with left:=l,aX:=ch } p S1 o1/\dJ l.reverse ch=ts/\(dv S.left=S.aX.length->dv l=ch.length)/\(∀ q,Sum.inr q∈l->Sum.inr q∈S.left)/\Sum.inr p∈S.left/\l.length < S.left.length/\ch.length<=S.aX.length /\
   ((∃ n',n' < n/\o1=none/\ee d n' S1 S' o)\/∃ y,o1=some y/\o=some y/\S'=S1):=by
 induction h with
 | @done S e =>
  rw [e];exact ⟨fun _=>⟨rfl,rfl,rfl,rfl,rfl⟩,fun p ch ts h=>by cases h⟩
 | @pop n S k l r j S' o e er _ ih =>
  have hu:dJ S.left.reverse S.aX=dJ l.reverse r:=by
   rw [e,er,List.reverse_append];show dJ l.reverse (r++[j]).dropLast=_;rw [List.dropLast_concat]
  rw [hu];refine ⟨ih.1,fun p ch ts h=>?_⟩;obtain ⟨l2,S1,o1,h1,h2,h3,h4,h5,h6,h7,h8⟩:=ih.2 p ch ts h;refine ⟨l2,S1,o1,h1,h2,fun hc=>h3 ?_,fun q hq=>by rw [e]; exact List.mem_append_left _ (h4 q hq),by rw [e]; exact List.mem_append_left _ h5,by rw [e,List.length_append]; exact Nat.lt_succ_of_lt h6,by rw [er,List.length_append]; exact Nat.le_succ_of_le h7,?_⟩
  ·rw [e,iz,er,List.length_append] at hc;have h1:dv [Sum.inl (β:=Str) k]=1:=rfl;rw [h1] at hc;show dv l=r.length;simp at hc; exact hc
  ·rcases h8 with ⟨n',hn,a,b⟩ | h8
   ·exact .inl ⟨n',by omega,a,b⟩
   ·exact .inr h8
 | @step n S p l S1 S' o e hs hr ih =>
  have hu:dJ S.left.reverse S.aX=(p,S.aX)::dJ l.reverse S.aX:=by
   rw [e,List.reverse_append]; rfl
  rw [hu];refine ⟨fun h=>(by cases h),fun p' ch ts h=>?_⟩;cases h;refine ⟨l,S1,none,hs,rfl,fun hc=>?_,fun q hq=>by rw [e]; exact List.mem_append_left _ hq,by rw [e]; simp,by rw [e]; simp,Nat.le_refl _,.inl ⟨n,by omega,rfl,hr⟩⟩;rw [e,iz] at hc; exact hc
 | @fail S p l S1 y e hs =>
  have hu:dJ S.left.reverse S.aX=(p,S.aX)::dJ l.reverse S.aX:=by
   rw [e,List.reverse_append]; rfl
  rw [hu];refine ⟨fun h=>(by cases h),fun p' ch ts h=>?_⟩;cases h;refine ⟨l,S1,some y,hs,rfl,fun hc=>?_,fun q hq=>by rw [e]; exact List.mem_append_left _ hq,by rw [e]; simp,by rw [e]; simp,Nat.le_refl _,.inr ⟨y,rfl,rfl,rfl⟩⟩;rw [e,iz] at hc; exact hc
theorem N2 (h:ed d S p S1 o1) (ht:d.M.ts[S.here]?=some t) (hk:t.kd≠("folder" : Str)):o1=some (.fail "flat")/\S1.step=S.step+1/\S1.asked=S.asked:=by
 cases h with
 | flat h1 h2 h3=>exact ⟨rfl,rfl,rfl⟩
 | kK h1 h2 h3=>rw [ht] at h2; cases h2; exact absurd h3 hk
 | dot hA=>have h2:=hA.e; rw [ht] at h2; cases h2; exact absurd hA.k hk
 | up hA=>have h2:=hA.e; rw [ht] at h2; cases h2; exact absurd hA.k hk
 | go hA=>have h2:=hA.e; rw [ht] at h2; cases h2; exact absurd hA.k hk
theorem YQ (h:ed d S p S1 o1) (ht:d.M.ts[S.here]?=some t) (hk:t.kd=("folder" : Str)) (hm:fb ("g" : Str) (eG t d.z)=false):o1=some (.fail "shut")/\S1.step=S.step+1/\S1.asked=S.asked++[S.here]:=by
 cases h with
 | flat h1 h2 h3=>rw [ht] at h2; cases h2; exact absurd hk h3
 | kK h1 h2 h3 h4=>exact ⟨rfl,rfl,rfl⟩
 | dot hA=>have h2:=hA.e; rw [ht] at h2; cases h2; have:=hA.g; rw [hm] at this; cases this
 | up hA=>have h2:=hA.e; rw [ht] at h2; cases h2; have:=hA.g; rw [hm] at this; cases this
 | go hA=>have h2:=hA.e; rw [ht] at h2; cases h2; have:=hA.g; rw [hm] at this; cases this
inductive qu (d:Wd) (S:Ws) (t:Th) (p:Str) (S1:Ws):Option Tl->Prop
 | none:fT d.root t S.here p=.au->qu d S t p S1 (some (.fail "none"))
 | folder {k tc}:fT d.root t S.here p=.int ((k:Nat):Int)->d.M.ts[k]?=some tc->tc.kd=("folder" : Str)->cG d.M d.root k->S1.here=k->S1.left=S.left->S1.aX=S.aX->S1.read=S.read->qu d S t p S1 none
 | fin {k tc}:fT d.root t S.here p=.int ((k:Nat):Int)->d.M.ts[k]?=some tc->tc.kd≠("folder" : Str)->(tc.kd=("file" : Str)\/S.left=[]/\d.last=false)->S1.here=k->S1.place=some (S.here,p)->p.length<=8->S1.left=S.left->S1.aX=S.aX->S1.read=S.read->qu d S t p S1 none
 | lead {k tc o}:fT d.root t S.here p=.int ((k:Nat):Int)->d.M.ts[k]?=some tc->tc.kd=("lead" : Str)->¬ (S.left=[]/\d.last=false)->mB d { dH S with look:=S.look+1 } k S1 o->qu d S t p S1 o
theorem mB.keep (h:mB d S k S1 o):S1.step=S.step/\S1.asked=S.asked:=by
 cases h with
 | ring=>exact ⟨rfl,rfl⟩
 | many=>exact ⟨rfl,rfl⟩
 | read _ _ h=>cases h; exact ⟨rfl,rfl⟩
theorem toStep (g:Gd d.M) (h:ed d S p S1 o1) (ht:d.M.ts[S.here]?=some t) (hk:t.kd=("folder" : Str)) (hm:fb ("g" : Str) (eG t d.z)=true) (hp:l8 p) (hb:cG d.M d.root S.here) :
  S1.step=S.step+1/\S1.asked=S.asked++[S.here]/\qu d S t p S1 o1:=by
 cases h with
 | flat h1 h2 h3=>rw [ht] at h2; cases h2; exact absurd hk h3
 | kK h1 h2 h3 h4=>rw [ht] at h2; cases h2; rw [hm] at h4; cases h4
 | dot hA h5 =>
  refine ⟨rfl,rfl,.folder (k:=S.here) ?_ ht hk hb rfl rfl rfl rfl⟩;unfold fT;rw [if_neg (by rw [h5]; decide +kernel),if_pos h5]
 | up hA h5 hu =>
  cases hu with
  | g8 h1 h2 h6 h7 =>
   refine ⟨rfl,rfl,.folder (k:=S.here) ?_ ht hk hb rfl rfl rfl rfl⟩;obtain ⟨rfl,rfl⟩:=g.j8 h6;rw [ji] at h7;unfold fT tO;rw [if_pos h5,if_pos (of_decide_eq_true h7)]
  | up h1 h2 h6 h7 h8 h9 ou Ep vc ra =>
   obtain ⟨rfl,rfl⟩:=g.j8 h6;obtain ⟨rfl,rfl⟩:=g.j8 ra;rw [ht] at h9; cases h9;rw [ji] at h7;have h0:=of_decide_eq_false h7;obtain ⟨f,nm,tf,hf,bj,_,bK,dC,hb'⟩:=g.par ht hb h0;rw [bj] at ou; cases ou;refine ⟨rfl,rfl,.folder ?_ bK dC hb' rfl rfl rfl rfl⟩;unfold fT tO;rw [if_pos h5,if_neg h0,bj]
 | go hA h5 h6 h7 h8 oy =>
  have h2:=hA.e; rw [ht] at h2; cases h2;have lb:fT d.root t S.here p=(aF (sD t.bb) (.inr p)).getD .au:=by
   unfold fT;rw [if_neg h5,if_neg h6]
  have h88:p.length<=8:=by
   rcases hp with e | e | e
   ·exact absurd e h6
   ·exact absurd e h5
   ·exact e.2
  cases oy with
  | no hv=>exact ⟨rfl,rfl,.none (by rw [lb,hv]; rfl)⟩
  | folder hv cQ bN dD aO =>
   obtain ⟨rfl,rfl⟩:=g.j8 aO;obtain ⟨c',tc',e1,e2,e3⟩:=(g.th _ t ht).ch _ _ hv;obtain rfl:_=c':=by injection e1 with e1; exact Int.ofNat.inj e1
   exact ⟨rfl,rfl,.folder (by rw [lb,hv]; rfl) bN dD (.up e2 e3 hb) rfl rfl rfl rfl⟩
  | fin hv cQ bN dD hf=>exact ⟨rfl,rfl,.fin (by rw [lb,hv]; rfl) bN dD hf rfl rfl h88 rfl rfl rfl⟩
  | lead hv cQ bN dD eQ ik hm =>
   have fm:=(g.th _ _ bN).kd;obtain ⟨e1,e2⟩:=hm.keep;refine ⟨e1,e2,.lead (by rw [lb,hv]; rfl) bN ?_ ik hm⟩;rcases fm with h | h | h
   ·exact absurd h dD
   ·exact absurd h eQ
   ·exact h
theorem stepOk (g:Gd d.M) (hr:∃ t,d.M.ts[d.root]?=some t/\t.kd=("folder" : Str)) (w:m7 d S) (ht:d.M.ts[S.here]?=some t) (hk:t.kd=("folder" : Str)) (hb:cG d.M d.root S.here) (h:qu d S t p S1 none):m7 d S1:=by
 cases h with
 | folder h1 h2 h3 h4 h5 h6 h7 h8=>exact ⟨⟨_,by rw [h5]; exact h2,.inl ⟨h3,by rw [h5]; exact h4⟩⟩,by rw [h6]; exact w.ps,by rw [h6,h7]; exact w.cn,by rw [h8]; exact w.rl⟩
 | fin h1 h2 h3 h4 h5 h6 h7 h8 h9 ou=>exact ⟨⟨_,by rw [h5]; exact h2,.inr ⟨h3,_,_,t,h6,h7,ht,hb⟩⟩,by rw [h8]; exact w.ps,by rw [h8,h9]; exact w.cn,by rw [ou]; exact w.rl⟩
 | @lead k tc _ h1 h2 h3 h4 hm =>
  have eE:=w.rl;cases hm with
  | read hn mX hR =>
   have h40':S.read≠40:=mX;cases hR with
   | @mk a tc2 tl ar tr b r cQ bN jR l1 l2 gD hlen uQ cR aO =>
    obtain ⟨rfl,rfl⟩:=g.j8 aO;refine ⟨?_,fun q hq=>?_,?_,?_⟩
    ·obtain ⟨DQ,DR,oE⟩:=hr;unfold gv;by_cases hrt:cA tl=true
     ·rw [if_pos hrt];exact ⟨DQ,DR,.inl ⟨oE,.refl⟩⟩
     ·rw [if_neg hrt];exact ⟨t,ht,.inl ⟨hk,hb⟩⟩
    ·unfold gv at hq;rcases List.mem_append.mp hq with hq | hq
     ·rcases List.mem_append.mp hq with hq | hq
      ·exact w.ps q hq
      ·cases List.mem_singleton.mp hq
     ·exact vn gD q (xD hq)
    ·show dv ((S.left++[.inl k])++cu (cL tl))=(S.aX++[k]).length;rw [iz,iz,we,w.cn,List.length_append];rfl
    ·show S.read+1<=40;omega
end
def Due (H:Hp) (d:Addr):Res->Prop
 | .found k ns=>H d=some (.tup [.str "found",.int (k:Int),.str (gQ ns)])
 | .failed k y=>H d=some (.tup [.str "failed",.int (k:Int),.str y])
 | .ring ns=>∃ rl,H d=some (.tup [.str "ring",.ref rl])/\H rl=some (.lst (nV ns))
theorem Due.same (s:ah H H'):∀ {r:Res},Due H d r->Due H' d r
 | .found _ _,e=>s _ _ e
 | .failed _ _,e=>s _ _ e
 | .ring _,⟨l,e,f⟩=>⟨l,s _ _ e,s _ _ f⟩
def iP (H:Hp) (v:V) (pc:Str×List Nat):Prop:=∃ a c,v=.ref a/\H a=some (.tup [.str pc.1,.ref c])/\H c=some (.tup (nV pc.2))
def Toks (H:Hp):List V->List (Str×List Nat)->Prop
 | [],[]=>True
 | v::vs,p::ps=>iP H v p/\Toks H vs ps
 | _,_=>False
theorem iP.same (s:ah H H') (h:iP H v p):iP H' v p:=let ⟨a,c,e,x,y⟩:=h; ⟨a,c,e,s _ _ x,s _ _ y⟩
theorem iP.upd (hk:H tk=some (.lst xs)) (h:iP H v p):iP (upd H tk o) v p :=
 let ⟨a,c,e,x,y⟩:=h; ⟨a,c,e,by rw [ag (bU x hk (by nofun))]; exact x,by rw [ag (bU y hk (by nofun))]; exact y⟩
theorem Toks.imp (f:∀ v p,iP H v p->iP H' v p):∀ {vs:List V} {ps:List (Str×List Nat)},Toks H vs ps->Toks H' vs ps
 | [],[],_=>trivial
 | v::vs,p::ps,h=>⟨f _ _ h.1,Toks.imp f h.2⟩
 | [],_::_,h=>h.elim
 | _::_,[],h=>h.elim
theorem Toks.same (s:ah H H') (h:Toks H vs ps):Toks H' vs ps:=h.imp fun _ _=>iP.same s
theorem Toks.upd (hk:H tk=some (.lst xs)) (h:Toks H vs ps):Toks (upd H tk o) vs ps:=h.imp fun _ _=>iP.upd hk
theorem Toks.app (hw:Toks H ws qs):∀ {vs:List V} {ps:List (Str×List Nat)},Toks H vs ps->Toks H (vs++ws) (ps++qs)
 | [],[],_=>hw
 | w::vs,q::ps,h=>⟨h.1,Toks.app hw h.2⟩
 | [],_::_,h=>h.elim
 | _::_,[],h=>h.elim
theorem Toks.len:∀ {vs:List V} {ps:List (Str×List Nat)},Toks H vs ps->vs.length=ps.length
 | [],[],_=>rfl
 | v::vs,p::ps,h=>by rw [List.length_cons,List.length_cons,Toks.len h.2]
 | [],_::_,h=>h.elim
 | _::_,[],h=>h.elim
theorem Xi {lp:Addr} {ps:List Str} {Q:VK} {H:Hp} (cY:aC K H lp (ps.map V.str)) (hz:ps.length<=500) (q:∀ tk vs H',ah H H'->H tk=none->H' tk=some (.lst vs)->Toks H' vs (ps.map fun p=>(p,[]))->Q (.ref tk) H') :
  oN (iY K lp) g7 (ko (fD (fh 0) (fD (ko fR) fR))) Q H:=by
 have hl:(ps.map V.str).length=ps.length:=List.length_map _;refine ⟨fun i ys m H1=>ah H H1/\Toks H1 ys ((ps.take i).map fun p=>(p,[]))/\i<=ps.length/\m=ps.length - i,⟨_,ah.refl H,by trivial,Nat.zero_le _,rfl⟩,?_⟩;rintro i ys m H1 ⟨s1,hy,hi,rfl⟩;have hlen:=hy.len;rw [List.length_map,List.length_take] at hlen;refine ⟨fits (by omega),?_⟩;by_cases h:i < ps.length
 ·have hx:(ps.map V.str)[i]?=some (.str ps[i]):=by rw [List.getElem?_map,List.getElem?_eq_getElem h]; rfl
  refine .inr ⟨⟨_,_,s1.seq cY,hx⟩,iR (by omega),?_⟩;rintro y H' ⟨rfl,hy'⟩;have jb:(ps.map V.str)[i]?=some y:=hy' _ (s1.seq cY);rw [hx] at jb;cases jb;unfold g7;refine bX rfl ?_;left;refine ⟨fits (by simp),fun p hp=>⟨fits (by simp),fun p2 cJ=>⟨_,?_,?_,?_,h,rfl⟩⟩⟩
  ·omega
  ·exact (s1.trans (ah.upd hp)).trans (ah.upd cJ)
  ·rw [List.take_add_one,List.getElem?_eq_getElem h,List.map_append];exact Toks.app (ws:=[.ref p2]) (qs:=[(ps[i],[])]) ⟨⟨p2,p,rfl,ax,ah.upd cJ _ _ ax⟩,by trivial⟩ (hy.same ((ah.upd hp).trans (ah.upd cJ)))
 ·refine .inl ⟨?_,fun l hl=>?_⟩
  ·exact ⟨_,s1.seq cY,by rw [hl]; omega⟩
  ·have e:ps.take i=ps:=List.take_of_length_le (by omega);rw [e] at hy;exact q l ys _ (s1.trans (ah.upd hl)) (o9 s1 hl) ax (hy.same (ah.upd hl))
theorem OW {lp cc:Addr} {ps:List Str} {Q:VK} {H:Hp} {ch:List Nat} {k:Nat} (cY:aC K H lp (ps.map V.str)) (hz:ps.length<=500) (hc:H cc=some (.tup (nV ch))) (hZ:ch.length<=400) (q:∀ tk vs H',ah H H'->H tk=none->H' tk=some (.lst vs)->Toks H' vs (ps.map fun p=>(p,ch++[k]))->Q (.ref tk) H') :
  ug (iY K lp) 1 [V.ref cc,V.int (k:Int)] (eV 0) g7 (ko (fD (fh 0) (fD (ir (wb K) (fh 1) (ko (fD (fh 2) fR))) fR))) Q H:=by
 have hl:(ps.map V.str).length=ps.length:=List.length_map _;refine ⟨fun i ys m H1=>ah H H1/\Toks H1 ys ((ps.take i).map fun p=>(p,ch++[k]))/\i<=ps.length/\m=ps.length - i,⟨_,ah.refl H,by trivial,Nat.zero_le _,rfl⟩,?_⟩;rintro i ys m H1 ⟨s1,hy,hi,rfl⟩;have hlen:=hy.len;rw [List.length_map,List.length_take] at hlen;refine ⟨fits (by omega),?_⟩;by_cases h:i < ps.length
 ·have hx:(ps.map V.str)[i]?=some (.str ps[i]):=by rw [List.getElem?_map,List.getElem?_eq_getElem h]; rfl
  refine .inr ⟨⟨_,_,s1.seq cY,hx⟩,iR (by omega),?_⟩;rintro y H' ⟨rfl,hy'⟩ σ0 hσ0;obtain ⟨a,rfl⟩:=zm hσ0;have jb:(ps.map V.str)[i]?=some y:=hy' _ (s1.seq cY);rw [hx] at jb;cases jb;refine ⟨⟨[some _],rfl,rfl⟩,?_⟩;show g7 _ _ _;unfold g7;dsimp only;rw [if_pos rfl];show ko _ [some (V.str ps[i]),some (V.ref cc),some (V.int (k:Int))] H' _;left;refine ⟨fits (by simp),fun p hp=>?_⟩;have s2:=ah.upd (o:=.tup [V.int (k:Int)]) hp;have b2:upd H' p (.tup [V.int (k:Int)]) p=some (.tup [V.int (k:Int)]):=ax;generalize upd H' p (.tup [V.int (k:Int)])=H2 at s2 b2 ⊢;have jc:=s2 _ _ (s1 _ _ hc);have fin:∀ (H3:Hp) (c:Addr),ah H' H3->H3 c=some (.tup (nV (ch++[k])))->[V.str ps[i],V.ref c].length<=sizeLine/\∀ p2,H3 p2=none->∃ m',m' < ps.length - i/\ah H (upd H3 p2 (.tup [V.str ps[i],V.ref c]))/\Toks (upd H3 p2 (.tup [V.str ps[i],V.ref c])) (ys++[.ref p2]) ((ps.take (i+1)).map fun p=>(p,ch++[k]))/\i+1<=ps.length/\m'=ps.length - (i+1):=fun H3 c s3 hc3=>by
   refine ⟨fits (by simp),fun p2 cJ=>⟨_,?_,?_,?_,h,rfl⟩⟩
   ·omega
   ·exact (s1.trans s3).trans (ah.upd cJ)
   ·rw [List.take_add_one,List.getElem?_eq_getElem h,List.map_append];exact Toks.app (ws:=[.ref p2]) (qs:=[(ps[i],ch++[k])]) ⟨⟨p2,c,rfl,ax,ah.upd cJ _ _ hc3⟩,by trivial⟩ (hy.same (s3.trans (ah.upd cJ)))
  refine ⟨nV ch,[V.int (k:Int)],bJ.of jc,bJ.of b2,fits (by simp [nV]; omega),?_⟩;by_cases he:ch=[]
  ·subst he;exact .inl ⟨rfl,fin _ _ s2 b2⟩
  ·refine .inr ⟨fun z=>he (List.map_eq_nil_iff.mp z),by simp,fun p3 ie=>?_⟩;exact fin _ _ (s2.trans (ah.upd ie)) (by rw [ax,kU]; rfl)
 ·refine .inl ⟨?_,fun l hl=>?_⟩
  ·exact ⟨_,s1.seq cY,by rw [hl]; omega⟩
  ·have e:ps.take i=ps:=List.take_of_length_le (by omega);rw [e] at hy;exact q l ys _ (s1.trans (ah.upd hl)) (o9 s1 hl) ax (hy.same (ah.upd hl))
theorem zE:∀ (l:List (Sum Nat Str)) (r:List Nat),(dJ l r).length<=l.length
 | [],_=>Nat.le_refl _
 | .inr _::l,r=>Nat.succ_le_succ (zE l r)
 | .inl _::l,r=>Nat.le_succ_of_le (zE l _)
def SW (N:Cn):Sp:=qr fun x z pt fin H Q _=>X6 fun A L M root t e=>A9 (pt=Tx.S t) (aG N.CH N.CS N.CT H A L M) (A.a=x) (z∈AS) (Gd M) (M.ts.length<=90) (t.length<=400) (eJ ⟨L,M,z,fin,root⟩ t e) (∀ p d av H',ah H H'->H' p=some (.tup [.ref d,.ref av])->Due H' d e.res->H' av=some (.lst (nV e.asked))->Q (.ref p) H')
def Fp (M:Hs) (r:Nat) (S:Ws) (k:Nat) (nv tv:V):Prop:=∃ t,M.ts[S.here]?=some t/\(t.kd=("folder" : Str)/\k=S.here/\nv=.au/\cG M r S.here\/t.kd≠("folder" : Str)/\∃ (nm:Str) (tf:Th),S.place=some (k,nm)/\nv=.str nm/\nm.length<=8/\tv=.int (S.here:Int)/\M.ts[k]?=some tf)
def U0 (H:Hp) (a:Addr) (d:Wd) (pt:Str) (av:Addr) (S':Ws) (o:Option Tl) (m:Nat) (σ:L2.St) (H':Hp):Prop :=
 ∃ (S:Ws) (vs:List V) (k:Nat) (nv tv:V) (tk:Addr) (o1 o2 o3:Option V),ah H H'/\H tk=none/\av≠tk/\σ=[some (.ref a),some (.str d.z),some (.str pt),some (.bl d.last),some (.ref av),some (.int (k:Int)),some (.ref tk),some nv,some tv,some (.int (S.step:Int)),some (.int (S.read:Int)),o1,o2,o3] /\
  H' av=some (.lst (nV S.asked))/\H' tk=some (.lst vs)/\Toks H' vs (dJ S.left.reverse S.aX)/\m7 d S/\Bd S/\ee d m S S' o/\Fp d.M d.root S k nv tv
theorem o8 {H3:Hp} {vs:List V} {av:Addr} {xs:List V} {Q:VK} (hv:vs.length<=10) (ha:H3 av=some (.lst xs)) (q:∀ p d H',ah H3 H'->H' p=some (.tup [.ref d,.ref av])->H' d=some (.tup vs)->H' av=some (.lst xs)->Q (.ref p) H') :
  vs.length<=sizeLine/\∀ d,H3 d=none->[V.ref d,V.ref av].length<=sizeLine/\∀ p,upd H3 d (.tup vs) p=none->Q (.ref p) (upd (upd H3 d (.tup vs)) p (.tup [.ref d,.ref av])):=by
 refine ⟨fits (by omega),fun d hd=>⟨fits (by simp),fun p hp=>?_⟩⟩;have s:=(ah.upd (o:=.tup vs) hd).trans (ah.upd (o:=.tup [.ref d,.ref av]) hp);exact q p d _ s ax (ah.upd hp _ _ ax) (s _ _ ha)
theorem fB (h:∀ N:L2.St->Hp->Prop,(∀ σ' H',B D σ' H'->N σ' H')->A { D with nx:=N } σ H):nh A B D σ H:=aj (h _ fun _ _ x=>x)
theorem O2 {A:TS} {D:Ends} {σ:L2.St} {H:Hp} (h:∀ D':Ends,(∀ σ' H',D.nx σ' H'->D'.nx σ' H')->(∀ v H',D.rt v H'->D'.rt v H')->A D' σ H):A D σ H:=h D (fun _ _ x=>x) fun _ _ x=>x
theorem GA (h:∀ U:TS,(∀ σ' H',u D σ' H'->U D σ' H')->rH c t U D σ H):rH c t u D σ H:=h u fun _ _ x=>x
theorem Qg:T.oR.k P w base 8 (SW T.cn):=by
 refine T.oR.F.ok eW (fun _ _ _ _ h=>jh h fun _ _ _ _ _=>rfl) fun _ A _ s H vs Q E hr h=>jh h fun x z pt fin h=>?_;obtain ⟨AA,L,M,r0,t,e,rfl,i,rfl,hz,g,hn,hl,pw,q⟩:=h;refine bD (b:=aV AR) ((al (aR 4 eW.nd (ci ae))
 (al (aR 5 eW.nd (bn (Kd T) hr.m T.j9.m T.j9.F.kp T.j9.b .nil aq (aa (ad 0) (aa (ad 1) (aa (ad 2) (aa (bn (qG T) hr.m T.ei.m T.ei.F.kp T.ei.b .nil aq (aa (ad 0) (aa (bf T.aI T.nk.h (JD T) hr.m T.nk.b .nil aq (ad 0) (aa (ad 1) ae)) ae))) ae))))))
 (al (aW (c9 (cK (bn (QM T) hr.m T.pR.m T.pR.F.kp T.pR.b .nil aq (aa (ad 0) (aa (ad 1) (aa (ad 5) ae)))))) (ai fz) ce)
 (al (Bm 6 rfl eW.nd (x:=("_law_part" : Str)) (iS (K:=K) rfl (bn (Lq T) hr.m T.kz.m T.kz.F.kp T.kz.b .nil aq (aa (ad 2) ae))) (fun _ _ _ _=>by exact sd) (fun _ _ _ _=>by exact (et 0 (show List.Nodup (["_law_part"]:List Str) by decide))) (fun _ _ _ _=>by exact (dl (aa (ad 0) (aa (dl ae) ae)))) (.of rfl (by exact trivial) (by walk_at "c") rfl (by exact trivial)))
 (al (aR 7 eW.nd au)
 (al (aR 8 eW.nd au)
 (al (aR 9 eW.nd am)
 (al (aR 10 eW.nd am)
 (al (kZ PassesOwn.never (aZ (HN (K:=K) rfl hr.gg) (ad 6) (ci ae)) (al (ub (fo PySem.F.slot_list_pop PySem.F.type_list_pop VT (ad 6) (aa am ae)) (wo (K:=K) (n:=2) rfl rfl (lL (et 11 eW.nd) (lL (et 12 eW.nd) xo))))
 (al (aR 9 eW.nd (cr dQ (ad 9) am))
 (al (aW (aZ nB (ad 7) au) (ai (aM (dl (aa (dl (aa ap (aa (ad 9) (aa ap ae)))) (aa (ad 4) ae))))) ce)
 (al (aU (fo PySem.F.slot_list_append PySem.F.type_list_append js (ad 4) (aa (ad 5) ae)))
 (al (aR 13 eW.nd (bn (Us T) hr.m T.qt.m T.qt.F.kp T.qt.b .nil aq (aa (ad 0) (aa (ad 1) (aa (ad 5) (aa (ad 11) ae))))))
 (al (aW (c9 (cK (ef T.aI T.kf.h (BU T) hr.m T.kf.b .nil fW (ad 0) (aa (ad 1) (aa (ad 5) (aa ap ae)))))) (ai (aM (dl (aa (dl (aa ap (aa (ad 9) (aa ap ae)))) (aa (ad 4) ae))))) ce)
 (al (aW (aZ qk (ad 13) au) (ai (aM (dl (aa (dl (aa ap (aa (ad 9) (aa ap ae)))) (aa (ad 4) ae))))) ce)
 (ai (aW (aZ cP (bf T.aI T.f7.h (qo T) hr.m T.f7.b .nil aq (ad 0) (aa (ad 13) ae)) ap) (ai (aR 5 eW.nd (bn (qG T) hr.m T.ei.m T.ei.F.kp T.ei.b .nil aq (aa (ad 0) (aa (ad 13) ae))))) (ai (aW (eA (gl (aZ cP (bf T.aI T.f7.h (qo T) hr.m T.f7.b .nil aq (ad 0) (aa (ad 13) ae)) ap) (jo (eA (f8 (c9 (cK (ad 3))) (f8 (aZ (GO (K:=K) rfl hr.gg) (ad 6) (ci ae)) (jz (aZ (Q6 (K:=K) rfl hr.gg) (ad 12) (dl ae))))))))) (al (aR 7 eW.nd (ad 11))
 (ai (aR 8 eW.nd (ad 13)))) (ai (aW (aZ (wN (K:=K) rfl) (ad 13) (ad 12)) (ai (aM (dl (aa (dl (aa ap (aa (bn (XF T) hr.m T.qy.m T.qy.F.kp T.qy.b .nil aq (aa (ad 12) (aa (ad 13) ae))) ae))) (aa (ad 4) ae))))) (ai (aW (aZ cP (ad 10) am) (ai (aM (dl (aa (dl (aa ap (aa (ad 9) (aa ap ae)))) (aa (ad 4) ae))))) (al (aR 10 eW.nd (cr dQ (ad 10) am))
 (al (aR 5 eW.nd (bn (Kd T) hr.m T.j9.m T.j9.F.kp T.j9.b .nil aq (aa (ad 0) (aa (ad 1) (aa (bf T.aI T.ku.h (BK T) hr.m T.ku.b .nil aq (ad 0) (aa (ad 13) ae)) (aa (ad 5) ae))))))
 (ai (aR 6 eW.nd (cr dQ (yW rfl (TN:=["_law_one"]) (caps:=["_law_chain","_law_number"]) (ix:=[12,13]) (iS (K:=K) rfl (bn (Lq T) hr.m T.kz.m T.kz.F.kp T.kz.b .nil aq (aa (bf T.aI T.ku.h (BK T) hr.m T.ku.b .nil aq (ad 0) (aa (ad 13) ae)) ae))) (fun _ _ _ _=>by exact sd) (fun _ _ _ _=>by exact (et 0 (show List.Nodup (["_law_one","_law_chain","_law_number"]:List Str) by decide))) (fun _ _ _ _=>by exact (dl (aa (ad 0) (aa (cr (PU (K:=K) rfl) (ad 1) (dl (aa (ad 2) ae))) ae)))) (.of rfl (by exact ⟨rfl,rfl,trivial⟩) (by walk_at "c") rfl (by exact ⟨⟨rfl,rfl,rfl,rfl⟩,⟨rfl,rfl,rfl,rfl⟩,trivial⟩))) (ad 6))))))))))))))))))))))
 (ai (aM (dl (aa (dl (aa ap (aa (bv (bC (K:=K) rfl) (ci (aa (ad 8) (aa (ad 5) ae))) (l6 wY T.ui tY (aa (em qk (ad 7) au) ae))) (aa (bn (TJ T) hr.m T.qC.m T.qC.F.kp T.qC.b .nil aq (aa (ad 0) (aa (ad 1) (aa (ad 5) (aa (ad 7) ae))))) ae)))) (aa (ad 4) ae))))))))))))))) ?_
 obtain ⟨jW,bw,hps25,n0,S',o,fM,f1,f2⟩:∃ h,pf ⟨L,M,z,fin,r0⟩ (cA t) h/\(cL t).length<=2500/\∃ n S' o,ee ⟨L,M,z,fin,r0⟩ n ⟨h,none,0,[],cu (cL t),[],0,0⟩ S' o/\(∀ y,o=some y->e=⟨S'.asked,wV S'.step y⟩)/\(o=none->∃ ns bS,sR M L r0 S' ns bS/\e=⟨S'.asked,.found S'.here (ns++bS)⟩):=by
  cases pw.g with
  | told b hp hr=>exact ⟨_,b,hp,_,_,_,hr,fun y hy=>(by cases hy; rfl),fun z=>(by cases z)⟩
  | found b hp hr ht=>exact ⟨_,b,hp,_,_,_,hr,fun y hy=>(by cases hy),fun _=>⟨_,_,ht,rfl⟩⟩
 obtain ⟨st,b,r,a,t0,aO,ha,ja,jP,rb,hb00⟩:=bw.ex;have EK:=bw.z;dsimp only at aO ha ja jP rb EK;obtain ⟨r1,fO,ga⟩:=g.as z hz;rw [ga.ro] at EK;obtain rfl:r1=r0:=jE EK;obtain ⟨rfl,rfl⟩:=g.j8 jP;obtain rfl:b=jW:=hb00.symm;have hb:(if cA t=true then r1 else fO)=b:=by
  rcases aO with ⟨e1,e2⟩ | ⟨e1,e2⟩
  ·rw [if_pos e1,e2]
  ·rw [if_neg (by rw [e1]; nofun)];rw [ga.st] at e2;exact jE e2
 have yp:t0.kd=("folder" : Str)/\cG M r1 b:=by
  rcases aO with ⟨e1,e2⟩ | ⟨e1,e2⟩
  ·obtain ⟨t',h1,h2⟩:=ga.tr; rw [e2,h1] at ja; cases ja; exact ⟨h2,e2 ▸ .refl⟩
  ·rw [ga.st] at e2;obtain rfl:fO=b:=jE e2;obtain ⟨t',h1,h2⟩:=ga.tk;rw [h1] at ja; cases ja; exact ⟨h2,ga.b⟩
 have om:=ga.ro;refine stI [some (V.ref AA.a),some (V.str z),some (V.str (Tx.S t)),some (V.bl fin),none,none,none,none,none,none,none,none,none,none] ?_;refine fB fun N hN=>?_;left;refine ⟨fits (by simp),fun av gN=>hN _ _ (fB fun N hN=>?_)⟩;have s1:=ah.upd (o:=.lst []) gN;have b1:upd H av (.lst []) av=some (.lst (nV [])):=ax;generalize upd H av (.lst [])=H1 at s1 b1 ⊢;have i1:=i.same s1;obtain ⟨fs,c,hx,aP,sf⟩:=i1.h;left;refine (mI hx sf ⟨AA,L,M,fO,i1,rfl,by rw [om]; rfl,ga.st,AA,L,M,fO,i1,rfl,rfl,g.tr,g.un,fun H2 s2=>?_⟩);have i2:=i1.same s2;refine ⟨AA,L,M,t,fO,r1,rfl,⟨pw.l1,pw.l2,pw.all⟩,i2,rfl,rfl,om,g,fun H3 s3=>hN _ _ (fB fun N hN=>?_)⟩;rw [hb];have i3:=i2.same s3;left;refine ⟨AA,L,M,b,r1,t0,i3,rfl,rfl,om,g,ja,yp.2,fun H4 s4=>bL rfl (hN _ _ (fB fun N hN=>?_))⟩;have i4:=i3.same s4;left;refine ⟨t,rfl,⟨pw.l1,pw.l2,pw.all⟩,hl,fun lp H5 s5 cY=>⟨⟨_,aC.of cY⟩,?_⟩⟩;have iK:=((s2.trans s3).trans s4).trans s5;have b5:=iK _ _ b1;rw [wz] at cY;have dB:=vn pw.all;have LZ:(cL t).length<=402:=by
  have h1:=@vX (Tx.words 47 t) t;have h2:=zc 47 t;unfold cL;rw [List.length_map];omega
 replace cY:H5 lp=some (.lst ((cL t).map V.str)):=cY
 generalize cL t=ps at cY fM LZ dB;refine Xi (aC.of cY) (by omega) fun tk vs H6 s6 D1 eC lb=>hN _ _ (fB fun N hN=>?_);have Nf:=iK.trans s6;have b6:=s6 _ _ b5;left;refine hN _ _ (fB fun N hN=>?_);left;refine hN _ _ (fB fun N hN=>?_);left;refine hN _ _ (fB fun N hN=>?_);left;have nat:av≠tk:=aK b5 D1;have ftk':H tk=none:=o9 (s1.trans iK) D1;have rj:=xl ps;refine hN _ _ (fB fun N hN=>⟨U0 H AA.a ⟨L,M,z,fin,r1⟩ (Tx.S t) av S' o,⟨n0,⟨b,none,0,[],cu ps,[],0,0⟩,vs,b,.au,.au,tk,none,none,none,s1.trans Nf,ftk',nat,rfl,b6,eC,by dsimp only; rw [Fe,<- List.append_nil (ps.map _),yR]; exact (List.append_nil (ps.map fun p=>(p,([]:List Nat)))).symm ▸ lb,⟨⟨t0,ja,.inl yp⟩,fun q hq=>dB q (xD hq),we ps,Nat.zero_le _⟩,⟨Nat.zero_le _,by dsimp only; omega,Nat.zero_le _,Nat.zero_le _⟩,fM,t0,ja,.inl ⟨yp.1,rfl,rfl,yp.2⟩⟩,?_⟩);clear lb eC b6 Nf s6 D1 cY b5 iK s5 i4 s4 i3 s3 i2 s2 hx aP sf i1 b1 fM dB LZ nat ftk' rj vs tk;rintro m σ' H1 ⟨S,vs,k,nv,tv,tk,o1,o2,o3,s1',ftk',nat,rfl,b1,eC,lb,hw,ej,fM,jT⟩;have i1:=i.same s1';obtain ⟨fs,c,hx,aP,sf⟩:=i1.h;left;refine ⟨fits (by simp),fun pn hpn=>?_⟩;refine c8 (o:=.lst []) hpn fun H2 s2 c2=>?_;have i2:=i1.same s2;have b2:=s2 _ _ b1;have t2:=s2 _ _ eC;refine ⟨vs,[],aC.of t2,aC.of c2,.inl ⟨rfl,?_⟩⟩;have xK:=lb.same s2;have LH:=s1'.trans s2;obtain ⟨eF,uZ⟩:=Hc fM;generalize htoks:dJ S.left.reverse S.aX=toks at xK eF uZ;cases toks with
 | nil =>
  cases vs with
  | cons v vs=>exact xK.elim
  | nil =>
   obtain ⟨ho,eh,yv,es,ea⟩:=eF rfl;refine bL rfl (hN _ _ ?_);left;obtain ⟨ns,bS,⟨f,a',t',ha',ht',hk',bZ,hn99,Eg⟩,lD⟩:=f2 ho;rw [eh] at ht' hk';rw [yv] at hk';refine ⟨fits (by simp),fun pl bj=>⟨by trivial,?_⟩⟩;refine c8 (o:=.lst [tv,V.int (k:Int)]) bj fun H3 s3 c3=>?_;simp only [bI,c3];obtain ⟨tt,jd,jT⟩:=jT;rw [jd] at ht'; cases ht';have hq:cU [tv,V.int (k:Int)] (if decide (nv=V.au)=true then 1 else 0)=some (V.int (S.here:Int))/\k=f/\(nv=.au/\bS=[]\/∃ nm:Str,nv=.str nm/\bS=[nm]/\nm.length<=8)/\∃ tk,M.ts[k]?=some tk:=by
    rcases jT with ⟨h1,rfl,rfl,_⟩ | ⟨h1,nm,tf,h2,rfl,h3,rfl,h4⟩
    ·rcases hk' with ⟨_,rfl,rfl⟩ | ⟨h,_⟩
     ·exact ⟨by rw [if_pos (decide_eq_true rfl)]; exact iX (j:=1) rfl,rfl,.inl ⟨rfl,rfl⟩,_,jd⟩
     ·exact absurd h1 h
    ·rcases hk' with ⟨h,_⟩ | ⟨_,nm',h5,rfl,h6⟩
     ·exact absurd h h1
     ·rw [h2] at h5; cases h5;exact ⟨by rw [if_neg (by rw [decide_eq_false (by nofun)]; nofun)]; exact iX (j:=0) rfl,rfl,.inr ⟨_,rfl,rfl,h3⟩,tf,h4⟩
   obtain ⟨e1,rfl,e2,tk',e3⟩:=hq;rw [e1];refine ⟨AA,L,M,k,r1,tk',ns,bS,i2.same s3,rfl,rfl,om,g,hn,e3,e2,bZ,hn99,Eg,fun H4 s4=>?_⟩;refine o8 (by simp) ((s3.trans s4) _ _ b2) fun p d H' s' hp hd ha=>q p d av H' ((LH.trans (s3.trans s4)).trans s') hp (by rw [lD,eh]; exact hd) (by rw [lD,ea]; exact ha)
 | cons pc ts =>
  obtain ⟨p,ch⟩:=pc;cases vs with
  | nil=>exact xK.elim
  | cons v vs =>
   obtain ⟨l,S1,o1',aO,mL,iF,Ej,hpin,rj,hchl,mT⟩:=uZ p ch ts rfl;obtain ⟨⟨pa,pc,rfl,LS,yw⟩,M8⟩:=xK;have qZ:=hw.ps p hpin;have qJ:m7 ⟨L,M,z,fin,r1⟩ { S with left:=l,aX:=ch }:=⟨hw.v,fun q hq=>hw.ps q (Ej q hq),iF hw.cn,hw.rl⟩;have bA:=ej.a; have bP:=ej.p; have bR:=ej.r; have bQ:=ej.q;have DX:Bd S1:=ed.Jy (S:={ S with left:=l,aX:=ch }) bA (by dsimp only; omega) (by dsimp only; omega) bQ aO;have D3:vs.length<=8000:=by
    have:=M8.len;have h2:=zE l.reverse ch;rw [mL,List.length_reverse] at h2;omega
   refine bX rfl ⟨_,fun _ _ h=>h,O2 fun D hnx hrt=>fB fun N hN=>?_⟩;left;have t3:upd H2 tk (.lst vs) tk=some (.lst vs):=ax;have M5:=M8.upd (o:=.lst vs) t2;have Nj:upd H2 tk (.lst vs) pa=some (.tup [V.str p,.ref pc]):=by rw [ag (bU LS t2 (by nofun))]; exact LS
   have Em:upd H2 tk (.lst vs) pc=some (.tup (nV ch)):=by rw [ag (bU yw t2 (by nofun))]; exact yw
   have b3:upd H2 tk (.lst vs) av=some (.lst (nV S.asked)):=by rw [ag nat]; exact b2
   have jV:ah H (upd H2 tk (.lst vs)):=LH.fi ftk';simp only [t2];refine ⟨_,_,rfl,pa,_,rfl,bJ.of Nj,rfl,_,_,rfl,_,_,rfl,rfl,hN _ _ (fB fun N hN=>?_)⟩;generalize upd H2 tk (.lst vs)=H3 at t3 M5 Nj Em b3 jV ⊢;left;refine hN _ _ (fB fun N hN=>?_);have i3:=i.same jV;obtain ⟨gB,c3,da,fP,dA⟩:=i3.h;obtain ⟨tt,jd,jT⟩:=jT;left;refine ⟨by trivial,?_⟩;rcases jT with ⟨dC,rfl,rfl,xW⟩ | ⟨dC,nm,tf,bj,rfl,_⟩
   ·refine bL (congrArg not (decide_eq_true rfl)) (hN _ _ (fB fun N hN=>?_));left;simp only [b3];refine ⟨Nat.lt_of_lt_of_le (Nat.lt_succ_self _) (rB (by simp; omega)),hN _ _ (fB fun N hN=>?_)⟩;have b4:upd H3 av (.lst (nV S.asked++[V.int (S.here:Int)])) av=some (.lst (nV (S.asked++[S.here]))):=by rw [ax,kU]; rfl
    have t4:upd H3 av (.lst (nV S.asked++[V.int (S.here:Int)])) tk=some (.lst vs):=by rw [ag (Ne.symm nat)]; exact t3
    have LV:=M5.upd (o:=.lst (nV S.asked++[V.int (S.here:Int)])) b3;have Nk:upd H3 av (.lst (nV S.asked++[V.int (S.here:Int)])) pc=some (.tup (nV ch)):=by rw [ag (bU Em b3 (by nofun))]; exact Em
    have Ef:ah H (upd H3 av (.lst (nV S.asked++[V.int (S.here:Int)]))):=jV.fi gN;generalize upd H3 av (.lst (nV S.asked++[V.int (S.here:Int)]))=H4 at b4 t4 LV Nk Ef ⊢;have i4:=i.same Ef;left;refine ⟨AA,L,M,tt,S.here,r1,i4,rfl,rfl,om,g,jd,xW,qZ,fun H5 s5=>hN _ _ (fB fun N hN=>?_)⟩;have b5:=s5 _ _ b4;have t5:=s5 _ _ t4;have EH:=s5 _ _ Nk;have vf:=LV.same s5;have jS:=Ef.trans s5;have i5:=i.same jS;obtain ⟨va,c5,gL,hfl5,rp⟩:=i5.h;left;refine (mI gL rp (zy i5 (by rw [om]; rfl) (by decide +kernel) jd ?_));cases hm:fb ("g" : Str) (eG tt z) with
    | false =>
     refine bX rfl ?_;obtain ⟨rfl,e2,e3⟩:=YQ aO jd dC hm;rcases mT with ⟨_,_,e,_⟩ | ⟨y,e,rfl,rfl⟩
     ·cases e
     cases e;refine o8 (by simp) b5 fun p d H' s' hp hd ha=>hrt _ _ (q p d av H' (jS.trans s') hp ?_ (by rw [f1 _ rfl,e3]; exact ha));rw [f1 _ rfl,e2];exact hd
    | true =>
     refine bL rfl (hN _ _ (fB fun N hN=>?_));left;refine ⟨by trivial,?_⟩;obtain ⟨e2,e3,hto7⟩:=toStep (d:=⟨L,M,z,fin,r1⟩) g aO jd dC hm qZ xW;dsimp only at e2 e3;have aB:=stepOk (d:=⟨L,M,z,fin,r1⟩) (S1:=S1) (p:=p) g ga.tr qJ jd dC xW;cases hto7 with
     | none e1 =>
      rw [show fT r1 tt S.here p=V.au from e1];rcases mT with ⟨_,_,e,_⟩ | ⟨y,e,rfl,rfl⟩
      ·cases e
      cases e;refine bX (decide_eq_true rfl) ?_;refine o8 (by simp) b5 fun p d H' s' hp hd ha=>hrt _ _ (q p d av H' (jS.trans s') hp ?_ (by rw [f1 _ rfl,e3]; exact ha));rw [f1 _ rfl,e2];exact hd
     | @folder cn tc e1 bN dD hbc e4 e5 e6 e7 =>
      have oi:=aB (.folder e1 bN dD hbc e4 e5 e6 e7);rw [show fT r1 tt S.here p=V.int (cn:Int) from e1];obtain ⟨n',hn',_,hrun'⟩:∃ n',n' < m/\True/\ee ⟨L,M,z,fin,r1⟩ n' S1 S' o:=by
       rcases mT with ⟨n',h1,_,h⟩ | ⟨y,e,_⟩
       ·exact ⟨n',h1,trivial,h⟩
       ·cases e
      refine bL (decide_eq_false (by nofun)) (hN _ _ ?_);obtain ⟨ac,cQ⟩:=adr i5.len bN;left;refine (mI gL rp ⟨AA,L,M,cn,ac,tc,i5,rfl,rfl,cQ,bN,?_⟩);simp only [ka];refine bX (decide_eq_true dD) ?_;refine ⟨AA,L,M,cn,i5,rfl,rfl,g.tr,g.un,fun H6 s6=>hnx _ _ ⟨n',hn',S1,vs,cn,.au,tv,tk,_,_,_,jS.trans s6,ftk',nat,by rw [e2,e7]; rfl,by rw [e3]; exact s6 _ _ b5,s6 _ _ t5,by rw [e5,e6]; dsimp only; rw [mL]; exact vf.same s6,oi,DX,hrun',tc,by rw [e4]; exact bN,.inl ⟨dD,e4.symm,rfl,by rw [e4]; exact hbc⟩⟩⟩
     | @fin cn tc e1 bN dD hf e4 yv h8 e5 e6 e7 =>
      have oi:=aB (.fin e1 bN dD hf e4 yv h8 e5 e6 e7);rw [show fT r1 tt S.here p=V.int (cn:Int) from e1];obtain ⟨n',hn',_,hrun'⟩:∃ n',n' < m/\True/\ee ⟨L,M,z,fin,r1⟩ n' S1 S' o:=by
       rcases mT with ⟨n',h1,_,h⟩ | ⟨y,e,_⟩
       ·exact ⟨n',h1,trivial,h⟩
       ·cases e
      refine bL (decide_eq_false (by nofun)) (hN _ _ ?_);obtain ⟨ac,cQ⟩:=adr i5.len bN;left;refine (mI gL rp ⟨AA,L,M,cn,ac,tc,i5,rfl,rfl,cQ,bN,?_⟩);simp only [ka];refine bL (decide_eq_false dD) ?_;refine (mI gL rp ⟨AA,L,M,cn,ac,tc,i5,rfl,rfl,cQ,bN,?_⟩);simp only [ka];have MK:∀ H6,ah H5 H6->nh (jt (fh 11) (eV 7)) (jt (fh 13) (eV 8)) D [some (V.ref AA.a),some (V.str z),some (V.str (Tx.S t)),some (V.bl fin),some (V.ref av),some (V.int (S.here:Int)),some (V.ref tk),some V.au,some tv,some (V.int ((S.step:Int)+1)),some (V.int (S.read:Int)),some (V.str p),some (V.ref pc),some (V.int (cn:Int))] H6:=fun H6 s6=>by
       refine aj ?_;left;exact hnx _ _ ⟨n',hn',S1,vs,S.here,.str p,.int (cn:Int),tk,_,_,_,jS.trans s6,ftk',nat,by rw [e2,e7]; rfl,by rw [e3]; exact s6 _ _ b5,s6 _ _ t5,by rw [e5,e6]; dsimp only; rw [mL]; exact vf.same s6,oi,DX,hrun',tc,by rw [e4]; exact bN,.inr ⟨dD,p,tt,yv,rfl,h8,by rw [e4],jd⟩⟩
      by_cases aP:tc.kd=("file" : Str)
      ·exact bX (decide_eq_true aP) ((if_pos trivial).mpr (MK _ (ah.refl _)))
      obtain ⟨hle,DN⟩:l=[]/\fin=false:=hf.resolve_left aP;obtain ⟨hts0,hch0⟩:=(J3 (iF hw.cn)).mp hle;refine bL (decide_eq_false aP) ?_;have uH:vs=[]:=List.length_eq_zero_iff.mp (by rw [vf.len,<- mL,hts0]; rfl);refine bX (by rw [DN]; rfl) ⟨fits (by simp),fun d1 eR=>⟨vs,[],aC.of (ah.upd eR _ _ t5),aC.of ax,.inl ⟨rfl,bX (by rw [uH]; rfl) ⟨fits (by simp),fun d2 hd2=>⟨nV ch,bJ.of (ah.upd hd2 _ _ (ah.upd eR _ _ EH)),bJ.of ax,bX (by rw [hch0]; rfl) (MK _ ((ah.upd eR).trans (ah.upd hd2)))⟩⟩⟩⟩⟩
     | @lead cn tc _ e1 bN fm ik mW =>
      have dD:tc.kd≠("folder" : Str):=P0 (.inr fm);rw [show fT r1 tt S.here p=V.int (cn:Int) from e1];refine bL (decide_eq_false (by nofun)) (hN _ _ (GA fun U hU=>?_));obtain ⟨ac,cQ⟩:=adr i5.len bN;left;refine (mI gL rp ⟨AA,L,M,cn,ac,tc,i5,rfl,rfl,cQ,bN,?_⟩);simp only [ka];refine bL (decide_eq_false dD) (hU _ _ (GA fun U2 hU2=>?_));have rest:∀ H6,ah H5 H6->U2 D [some (V.ref AA.a),some (V.str z),some (V.str (Tx.S t)),some (V.bl fin),some (V.ref av),some (V.int (S.here:Int)),some (V.ref tk),some V.au,some tv,some (V.int ((S.step:Int)+1)),some (V.int (S.read:Int)),some (V.str p),some (V.ref pc),some (V.int (cn:Int))] H6:=fun H6 s6=>hU2 _ _ (by
       have b6:=s6 _ _ b5;have t6:=s6 _ _ t5;have DZ:=s6 _ _ EH;have hto8:=vf.same s6;have uS:=jS.trans s6;have i6:=i.same uS;obtain ⟨fs6,c6,xM,hfl6,yu⟩:=i6.h;left;refine ⟨nV ch,.inr (bJ.of DZ),rfl,by simp [cN],?_⟩;rw [kJ];cases mW with
       | ring hk =>
        replace hk:cn∈ch:=hk
        rw [Fz hk];rcases mT with ⟨_,_,e,_⟩ | ⟨y,e,rfl,rfl⟩
        ·cases e
        cases e;refine bT ⟨ch,cn,rfl,DZ,hk,by omega,fun rl H7 s7 eE=>?_⟩;refine o8 (by simp) (s7 _ _ b6) fun p d H' s' hp hd ha=>hrt _ _ (q p d av H' ((uS.trans s7).trans s') hp ?_ (by rw [f1 _ rfl]; exact ha));rw [f1 _ rfl];exact ⟨rl,hd,s' _ _ eE⟩
       | many hk mX =>
        rw [wA (show cn ∉ ch from hk)];rcases mT with ⟨_,_,e,_⟩ | ⟨y,e,rfl,rfl⟩
        ·cases e
        cases e;have h40':S.read=40:=mX;refine aY (bX (decide_eq_true (by omega)) ?_);refine o8 (by simp) b6 fun p d H' s' hp hd ha=>hrt _ _ (q p d av H' (uS.trans s') hp ?_ (by rw [f1 _ rfl]; exact ha));rw [f1 _ rfl];exact hd
       | read hk mX hR =>
        rw [wA (show cn ∉ ch from hk)];have h40':S.read≠40:=mX;have oi:=aB (.lead e1 bN fm ik (.read hk mX hR));obtain ⟨n',hn',_,hrun'⟩:∃ n',n' < m/\True/\ee ⟨L,M,z,fin,r1⟩ n' S1 S' o:=by
         rcases mT with ⟨n',h1,_,h⟩ | ⟨y,e,_⟩
         ·exact ⟨n',h1,trivial,h⟩
         ·cases e
        refine aY (bL (decide_eq_false (by omega)) ?_);cases hR with
        | @mk a2 tc2 tl ar tr b2' r2' hac2 htc2 jR l1 l2 gD hlen uQ cR rm =>
        rw [bN] at htc2; cases htc2;obtain ⟨tl',e5,oI,My⟩:=(g.th _ tc bN).ld fm;obtain rfl:tl=tl':=Tx.pS (jR.symm.trans e5);obtain ⟨eb,rfl⟩:=g.j8 rm
        replace eb:=eb.symm
        dsimp only at eb;subst eb;refine aj ?_;left;refine aj ?_;left;refine (mI xM yu ⟨AA,L,M,cn,ac,tc,i6,rfl,rfl,cQ,bN,?_⟩);simp only [wX,jR];refine ⟨AA,L,M,tl,S.here,r1,rfl,oI,i6,rfl,rfl,om,g,fun H7 s7=>?_⟩;have i7:=i6.same s7;obtain ⟨MZ,c7,uG,LN,sf7⟩:=i7.h;left;refine ⟨[V.ref pc,V.int (cn:Int)],⟨rfl,fun i j v h1 h2=>?_⟩,?_⟩
        ·match i,h1,h2 with
         | 0,h1,h2=>cases h1; cases h2; rfl
         | 1,h1,h2=>cases h1; cases h2; rfl
        refine (mI uG sf7 ⟨AA,L,M,cn,ac,tc,i7,rfl,rfl,cQ,bN,?_⟩);simp only [wX,jR];refine ⟨tl,rfl,oI,by omega,fun lp H8 s8 cY=>?_⟩;rw [wz] at cY;refine ⟨⟨_,aC.of cY⟩,OW (k:=cn) (ch:=ch) (aC.of cY) (by have:=hlen; unfold cL at this; exact Nat.le_trans this (by decide)) ((s7.trans s8) _ _ DZ) (by omega) fun tk2 L9 H9 s9 ftk2 htk2 Mp=>?_⟩;have xQ:=(s7.trans s8).trans s9;have t9:=xQ _ _ t6;simp only [htk2,t9];have hl9:=Mp.len;refine ⟨rB (by rw [hl9,List.length_map]; unfold cL at hlen; omega),fun p9 hp9=>?_⟩;have D2:=xQ.trans (ah.upd (o:=.lst (L9++vs)) hp9);refine hnx _ _ ⟨n',hn',_,L9++vs,(if cA tl=true then r1 else S.here:Nat),.au,tv,p9,_,_,_,uS.trans D2,o9 (uS.trans xQ) hp9,aK (xQ _ _ b6) hp9,by rfl,by exact D2 _ _ b6,ax,?_,oi,DX,hrun',?_⟩
        ·show Toks _ _ (dJ (((l++[Sum.inl cn])++cu (cL tl)).reverse) (ch++[cn]));rw [N5,mL];exact Toks.app ((hto8.same D2)) (Mp.same (ah.upd hp9))
        ·obtain ⟨DQ,DR,oE⟩:=ga.tr;show Fp M r1 (gv _ _ _ (if cA tl=true then r1 else S.here)) _ _ _;by_cases hrt:cA tl=true
         ·rw [if_pos hrt];exact ⟨DQ,DR,.inl ⟨oE,rfl,rfl,.refl⟩⟩
         ·rw [if_neg hrt];exact ⟨tt,jd,.inl ⟨dC,rfl,rfl,xW⟩⟩)
      have hff:tc.kd≠("file" : Str):=Y1 fm;left;refine (mI gL rp ⟨AA,L,M,cn,ac,tc,i5,rfl,rfl,cQ,bN,?_⟩);simp only [ka];refine bL (decide_eq_false hff) ?_;cases qM:fin with
      | true =>
       rw [qM] at rest;exact aY (aY (rest _ (ah.refl _)))
      | false =>
       rw [qM] at rest;refine bT ⟨fits (by simp),fun d1 eR=>⟨vs,[],aC.of (ah.upd eR _ _ t5),aC.of ax,.inl ⟨rfl,?_⟩⟩⟩;by_cases uH:vs=[]
       ·refine bX (by rw [uH]; rfl) ⟨fits (by simp),fun d2 hd2=>⟨nV ch,bJ.of (ah.upd hd2 _ _ (ah.upd eR _ _ EH)),bJ.of ax,bL ?_ (rest _ ((ah.upd eR).trans (ah.upd hd2)))⟩⟩;cases hZ:ch with
        | cons _ _=>rfl
        | nil =>
         have iD:l=[]:=(J3 (iF hw.cn)).mpr ⟨by rw [mL]; exact List.length_eq_zero_iff.mp (by rw [<- vf.len,uH]; rfl),hZ⟩;exact absurd ⟨iD,qM⟩ ik
       ·exact bL (by cases hv:vs with | nil=>exact absurd hv uH | cons _ _=>rfl) (aY (rest _ (ah.upd eR)))
   ·refine bX (congrArg not (decide_eq_false (by nofun))) ?_;obtain ⟨rfl,e2,e3⟩:=N2 aO jd dC;rcases mT with ⟨_,_,e,_⟩ | ⟨y,e,rfl,rfl⟩
    ·cases e
    cases e;refine o8 (by simp) b3 fun p d H' s' hp hd ha=>hrt _ _ (q p d av H' (jV.trans s') hp ?_ (by rw [f1 _ rfl,e3]; exact ha));rw [f1 _ rfl,e2];exact hd
theorem yJ (l:List Nat):(nV l).all cN=true:=by
 rw [List.all_eq_true];intro x hx;obtain ⟨n,_,rfl⟩:=List.mem_map.mp hx;rfl
def Sb (N:Cn):Sp:=sG fun fd d H Q _=>X1 fun e=>A3 (kI N H fd e) (Due H d e) (∀ H',ah H H'->Q (.bl true) H')
def Hq (w0:Str):List V:=[("found" : Str),("failed" : Str),("ring" : Str)].map fun y=>V.bl (decide (w0=y))
theorem Bh {w0:Str} {r:List V} {fd d p:Addr} {H:Hp} {xs:List V} {C Q:Hp->Prop} (hd:H d=some (.tup (.str w0::r))) (hp:H p=some (.lst xs)) (hx:xs=Hq w0) (q:∀ H',ah H H'->Q H') :
  mh [("_law_word_here" : Str)].length [1] (wj K (wc (fD (tC (V.str (Str.ofString "found"))) (fD (tC (V.str (Str.ofString "failed"))) (fD (tC (V.str (Str.ofString "ring"))) fR))))) (eV 0) g7 (ir (qg false) (ir (nj K) (fh 1) (tC (V.int 0))) (fh 0))
   [some (V.ref fd),some (V.ref d),some (V.ref p)] H (fun y H2=>gq K true (.ref p) y H2 (fun v H3=>match v with | .bl b=>if b=true then C H3 else Q H3 | _=>False)):=by
 rw [B2];refine ⟨[V.ref d],⟨rfl,fun i j v h1 h2=>?_⟩,?_⟩
 ·match i,h1,h2 with
  | 0,h1,h2=>cases h1; cases h2; rfl
 left;refine ⟨fits (by simp),fun l hl=>?_⟩;refine c8 (o:=.lst [V.str (Str.ofString "found"),V.str (Str.ofString "failed"),V.str (Str.ofString "ring")]) hl fun H1 s1 b1=>?_;have eR:=s1 _ _ hd;refine ⟨⟨_,aC.of b1⟩,UY (fun x=>match x with | .str y=>V.bl (decide (w0=y)) | _=>.au) (aC.of b1) (by simp) (fun x hx R hR=>?_) (fun l2 cm=>?_)⟩
 ·simp only [List.mem_cons,List.not_mem_nil,or_false] at hx;simp only [List.map_cons,List.map_nil];left;simp only [bI,eR,df];rcases hx with rfl | rfl | rfl <;> exact hR
 ·have s2:=s1.trans (ah.upd (o:=.lst ([V.str (Str.ofString "found"),V.str (Str.ofString "failed"),V.str (Str.ofString "ring")].map fun x=>match x with | .str y=>V.bl (decide (w0=y)) | _=>.au)) cm);subst hx;refine gq.same (K:=K) (neg:=true) (Q:=fun v H3=>match v with | .bl b=>if b=true then C H3 else Q H3 | _=>False) (xs:=Hq w0) (.inl ⟨aC.of (s2 _ _ hp),aC.of ax⟩) rfl ?_;exact bL rfl (q _ s2)
theorem HH:T.kS.k P w base 1 (Sb T.cn):=by
 refine T.kS.F.ok Jk (fun _ _ _ _ h=>lT h fun _ _ _=>rfl) fun _ A _ s H vs Q E hr h=>lT h fun fd d h=>?_;obtain ⟨e,bt,hd,q⟩:=h;refine bD (b:=aV Bj) ((al (aR 2 Jk.nd (ci (aa (cF (rX (K:=K) rfl) T.fQ fZ (aa (ad 0) (aa (db (.ref T.dO) T.Dm rfl) ae))) (aa (cF (rX (K:=K) rfl) T.fQ fZ (aa (ad 0) (aa (db (.ref T.dU) T.Gj rfl) ae))) (aa (cF (rX (K:=K) rfl) T.fQ fZ (aa (ad 0) (aa (db (.ref T.dS) T.G0 rfl) ae))) ae)))))
 (al (aW (eA (gl (c9 (cK (cF (rX (K:=K) rfl) T.fQ fZ (aa (ad 0) (aa (db (.ref T.uP) T.WA rfl) ae))))) (jo (aZ (Kt (K:=K) rfl hr.gg) (ad 2) (yW rfl (TN:=["_law_word_here"]) (caps:=["_law_due"]) (ix:=[1]) (iS (K:=K) rfl (ci (aa ap (aa ap (aa ap ae))))) (fun _ _ _ _=>by exact sd) (fun _ _ _ _=>by exact (et 0 (show List.Nodup (["_law_word_here","_law_due"]:List Str) by decide))) (fun _ _ _ _=>by exact (em (cP) (bv (bC (K:=K) rfl) (ad 1) am) (ad 0))) (.of rfl (by exact ⟨rfl,trivial⟩) (by walk_at "c") rfl (by exact ⟨⟨rfl,rfl,rfl,rfl⟩,trivial⟩))))))) (ai (aM dL)) ce)
 (al (aW (aZ cP (bv (bC (K:=K) rfl) (ad 1) am) ap) (ai (aM (em (vA (K:=K) rfl hr.gg) (dl (aa (bi T.jK T.Cy (ad 0)) (aa (bi T.jK T.IJ (ad 0)) ae))) (ge (HL (K:=K) rfl) (ad 1) (iu am) jC)))) ce)
 (al (aW (aZ cP (bv (bC (K:=K) rfl) (ad 1) am) ap) (ai (aM (em (vA (K:=K) rfl hr.gg) (dl (aa (bi T.kC T.He (ad 0)) (aa (bi T.kC T.Jp (ad 0)) ae))) (ge (HL (K:=K) rfl) (ad 1) (iu am) jC)))) ce)
 (ai (aM (xn (cF jw T.fQ fZ (aa (bi T.mz T.zK (ad 0)) (aa (jf (.ty "list") T.m4 vN rfl) ae))) (Dv.one (em (vA (K:=K) rfl hr.gg) (bi T.mz T.zK (ad 0)) (bv (bC (K:=K) rfl) (ad 1) am))))))))))) ?_
 refine stI [some (V.ref fd),some (V.ref d),none] ?_;refine aj ?_;left;cases e with
 | found k ns =>
  obtain ⟨bF,bt⟩:=bt
  replace hd:H d=some (.tup [.str "found",.int (k:Int),.str (gQ ns)]):=hd
  refine ⟨_,_,_,.of (.ins bt T.jK T.q1 T.q2 T.q3 T.q4),.cls T.q5,_,_,_,.of (.ins bt T.jK T.q1 T.q2 T.q3 T.q4),.cls T.q9,_,_,_,.of (.ins bt T.jK T.q1 T.q2 T.q3 T.q4),.cls T.lZ,fits (by simp),fun p hp=>aj ?_⟩;refine c8 (o:=.lst [V.bl true,V.bl false,V.bl false]) hp fun H1 s1 b1=>?_;have mP:=s1 _ _ bt;have eR:=s1 _ _ hd;left;refine ⟨_,_,_,.of (.ins mP T.jK T.q1 T.q2 T.q3 T.q4),.cls T.O4,aY ?_⟩;refine Bh (w0 := "found") (r:=[V.int (k:Int),V.str (gQ ns)]) eR b1 rfl fun H2 s2=>aj ?_;left;have hd2:=s2 _ _ eR;have mD:=s2 _ _ mP;simp only [bI,hd2,df];refine bX (decide_eq_true (by trivial)) ?_;refine ⟨fd,_,_,_,rfl,mD,rfl,fd,_,_,_,rfl,mD,rfl,?_⟩;refine ⟨fits (by simp),fun p2 cJ=>?_⟩;have s3:=s2.trans (ah.upd (o:=.tup [V.int (k:Int),V.str (gQ ns)]) cJ);have c3:upd H2 p2 (.tup [V.int (k:Int),V.str (gQ ns)]) p2=some (.tup [V.int (k:Int),V.str (gQ ns)]):=ax;have oz:=(ah.upd (o:=.tup [V.int (k:Int),V.str (gQ ns)]) cJ) _ _ hd2;generalize upd H2 p2 (.tup [V.int (k:Int),V.str (gQ ns)])=H3 at s3 c3 oz ⊢;refine ⟨d,_,rfl,bJ.of oz,fun z=>(by have:=z.1; simp [HT.bh] at this),fun p4 iJ=>?_⟩;have s4:=ah.upd (o:=.tup [V.int (k:Int),V.str (gQ ns)]) iJ;exact gq.same (K:=K) (neg:=false) (xs:=[V.int (k:Int),V.str (gQ ns)]) (.inr ⟨bJ.of (s4 _ _ c3),bJ.of ax⟩) rfl (q _ ((s1.trans s3).trans s4))
 | failed k y =>
  obtain ⟨bF,bt⟩:=bt
  replace hd:H d=some (.tup [.str "failed",.int (k:Int),.str y]):=hd
  refine ⟨_,_,_,.of (.ins bt T.kC T.q6 T.q2 T.q3 T.q7),.cls T.q8,_,_,_,.of (.ins bt T.kC T.q6 T.q2 T.q3 T.q7),.cls T.Zt,_,_,_,.of (.ins bt T.kC T.q6 T.q2 T.q3 T.q7),.cls T.Oo,fits (by simp),fun p hp=>aj ?_⟩;refine c8 (o:=.lst [V.bl false,V.bl true,V.bl false]) hp fun H1 s1 b1=>?_;have mP:=s1 _ _ bt;have eR:=s1 _ _ hd;left;refine ⟨_,_,_,.of (.ins mP T.kC T.q6 T.q2 T.q3 T.q7),.cls T.Sr,aY ?_⟩;refine Bh (w0 := "failed") (r:=[V.int (k:Int),V.str y]) eR b1 rfl fun H2 s2=>aj ?_;left;have hd2:=s2 _ _ eR;have mD:=s2 _ _ mP;simp only [bI,hd2,df];refine bL (decide_eq_false (by decide +kernel)) (aj ?_);left;simp only [bI,hd2,df];refine bX (decide_eq_true (by trivial)) ?_;refine ⟨fd,_,_,_,rfl,mD,rfl,fd,_,_,_,rfl,mD,rfl,?_⟩;refine ⟨fits (by simp),fun p2 cJ=>?_⟩;have s3:=s2.trans (ah.upd (o:=.tup [V.int (k:Int),V.str y]) cJ);have c3:upd H2 p2 (.tup [V.int (k:Int),V.str y]) p2=some (.tup [V.int (k:Int),V.str y]):=ax;have oz:=(ah.upd (o:=.tup [V.int (k:Int),V.str y]) cJ) _ _ hd2;generalize upd H2 p2 (.tup [V.int (k:Int),V.str y])=H3 at s3 c3 oz ⊢;refine ⟨d,_,rfl,bJ.of oz,fun z=>(by have:=z.1; simp [HT.bh] at this),fun p4 iJ=>?_⟩;have s4:=ah.upd (o:=.tup [V.int (k:Int),V.str y]) iJ;exact gq.same (K:=K) (neg:=false) (xs:=[V.int (k:Int),V.str y]) (.inr ⟨bJ.of (s4 _ _ c3),bJ.of ax⟩) rfl (q _ ((s1.trans s3).trans s4))
 | ring ns =>
  obtain ⟨bF,rl,bt,eE⟩:=bt;obtain ⟨rl2,hd,hrl2⟩:=hd;refine ⟨_,_,_,.of (.ins bt T.mz T.sC T.q2 T.q3 T.uD),.cls T.Ij,_,_,_,.of (.ins bt T.mz T.sC T.q2 T.q3 T.uD),.cls T.Pd,_,_,_,.of (.ins bt T.mz T.sC T.q2 T.q3 T.uD),.cls T.Xh,fits (by simp),fun p hp=>aj ?_⟩;refine c8 (o:=.lst [V.bl false,V.bl false,V.bl true]) hp fun H1 s1 b1=>?_;have mP:=s1 _ _ bt;have eR:=s1 _ _ hd;left;refine ⟨_,_,_,.of (.ins mP T.mz T.sC T.q2 T.q3 T.uD),.cls T.XN,aY ?_⟩;refine Bh (w0 := "ring") (r:=[V.ref rl2]) eR b1 rfl fun H2 s2=>aj ?_;left;have hd2:=s2 _ _ eR;have mD:=s2 _ _ mP;simp only [bI,hd2,df];refine bL (decide_eq_false (by decide +kernel)) (aj ?_);left;simp only [bI,hd2,df];refine bL (decide_eq_false (by decide +kernel)) ?_;left;have uZ:=(s1.trans s2) _ _ eE;refine ⟨fd,bF,_,.ref rl,rfl,mD,rfl,by decide,?_⟩;rw [show clsName H2 (.ref rl)=some "list" from by simp [clsName,uZ]];refine bX (by decide) ⟨fd,bF,_,.ref rl,rfl,mD,rfl,?_⟩;rw [uv];exact gq.same (K:=K) (neg:=false) (Q:=Q) (.inl ⟨aC.of uZ,aC.of ((s1.trans s2) _ _ hrl2)⟩) (yJ _) (q _ (s1.trans s2))
def V0 (N:Cn):Sp:=qr fun x z pt fin H Q _=>X4 fun A L M t=>A9 (pt=Tx.S t) (aG N.CH N.CS N.CT H A L M) (A.a=x) (z∈AS) (Gd M) (M.ts.length<=90) (eN t) (t.length<=300) (∀ H',ah H H'->Q (.bl true) H')
structure uh (a:Addr) (z pt:Str) (fin:Bool) (d av:Addr) (wh:Int) (H1:Hp) (σ:L2.St) (H':Hp):Prop where
 e:σ=[some (V.ref a),some (V.str z),some (V.str pt),some (V.bl fin),some (V.ref d),some (V.ref av),some (V.int wh)]
 s:ah H1 H'
theorem RH:T.qm.k P w base 15 (V0 T.cn):=by
 refine T.qm.F.ok wG (fun _ _ _ _ h=>jh h fun _ _ _ _ _=>rfl) fun _ A _ s H vs Q E hr h=>jh h fun x z pt fin h=>?_;obtain ⟨AA,L,M,t,rfl,i,rfl,hz,g,hn,hp,hl,q⟩:=h;obtain ⟨root,e,_,pw,_⟩:=rP (L:=L) g i.len hn hz fin hp;refine bD (b:=aV AK) ((al (ub (bn (Qg T) hr.m T.oR.m T.oR.F.kp T.oR.b .nil aq (aa (ad 0) (aa (ad 1) (aa (ad 2) (aa (ad 3) ae))))) (wo (K:=K) (n:=2) rfl rfl (lL (et 4 wG.nd) (lL (et 5 wG.nd) xo))))
 (al (aR 6 wG.nd (cr l9 (cr dQ (cF (kc (K:=K) rfl) T.jg PySem.boot_len (aa (ad 2) ae)) (l6 wY T.ui tY (aa (ad 3) ae))) am))
 (al (aW (eA (f8 (aZ tV (ad 6) am) (jz (aZ (Kt (K:=K) rfl hr.gg) (bn (FW T) hr.m T.Jd T.sX.kp T.vE .nil aq (aa (ad 0) (aa (ad 1) (aa (ad 2) (aa (ad 3) ae))))) (ad 5))))) (ai (aM dL)) ce)
 (al (aW (aZ cP (ad 6) am) (ai (aU (bn (r6 T) hr.m T.uj T.ki.kp T.rq (.cons (show RelV (.bl true) _ from rfl) .nil) aq (aa (ad 0) (aa ap (aa ap ae)))))) ce)
 (al (aW (c9 (cK (bn (HH T) hr.m T.kS.m T.kS.F.kp T.kS.b .nil aq (aa (SN (r6 T) hr.m T.uj T.ki.kp (Za T.ki rfl (fun _ _ _ _ _ _ _ _ _ _ _=>⟨_,rfl,rfl⟩)) aq (aa (ad 0) (aa (ad 1) (aa (ad 2) ae))) (ad 3)) (aa (ad 4) ae))))) (ai (aM dL)) ce)
 (al (aW (eA (f8 (cK (ad 3)) (jz (c9 (cK (bn (HH T) hr.m T.kS.m T.kS.F.kp T.kS.b .nil aq (aa (bn (r6 T) hr.m T.uj T.ki.kp T.rq (.cons (show RelV (.bl true) _ from rfl) .nil) aq (aa (ad 0) (aa (ad 1) (aa (ad 2) ae)))) (aa (ad 4) ae)))))))) (ai (aM dL)) ce)
 (al (aU (bn (r6 T) hr.m T.uj T.ki.kp T.Cf .nil aq (aa (ad 0) (aa ap (aa ap (aa dL ae))))))
 (ai (aM (em (vA (K:=K) rfl hr.gg) (bn (FW T) hr.m T.Jd T.sX.kp T.vE .nil aq (aa (ad 0) (aa (ad 1) (aa (ad 2) (aa (ad 3) ae))))) (ad 5)))))))))))) ?_
 refine stI [some (V.ref AA.a),some (V.str z),some (V.str (Tx.S t)),some (V.bl fin),none,none,none] ?_;refine aj ?_;left;refine ⟨AA,L,M,root,t,e,rfl,i,rfl,hz,g,hn,by omega,pw,fun p d av H1 s1 ot hd gN=>?_⟩;refine ⟨p,_,rfl,bJ.of ot,rfl,_,_,rfl,_,_,rfl,rfl,aj ?_⟩;have i1:=i.same s1;left;refine ⟨by rw [Tx.cq]; exact fits (by omega),by decide,?_⟩;generalize (((Tx.S t).length:Int)+if fin=true then 1 else 0) % 3=wh;refine fe (uh AA.a z (Tx.S t) fin d av wh H1) ?_ ?_
 ·left;refine kx (fun _=>?_) (fun _=>aY ⟨rfl,fun _ _ e=>e⟩);refine ⟨AA,L,M,root,t,e,rfl,i1,rfl,pw,fun av2 H2 s2 hav2=>?_⟩;exact gq.same (K:=K) (neg:=true) (Q:=fun v H3=>match v with | .bl b=>if b=true then Q (.bl false) H3 else uh AA.a z (Tx.S t) fin d av wh H1 _ H3 | _=>False) (.inl ⟨aC.of hav2,aC.of (s2 _ _ gN)⟩) (yJ _) (bL rfl ⟨rfl,s2⟩)
 rintro σ' H2 ⟨rfl,s2⟩;have uK:("ann" : Str)∈AS:=by decide +kernel
 refine fe (uh AA.a z (Tx.S t) fin d av wh H1) ?_ ?_
 ·left;obtain ⟨rt2,e2,_,pw2,_⟩:=rP (L:=L) g i1.len hn uK true (t:=[47,97,47,46,46]) ⟨by decide,by decide,by decide +kernel⟩;exact kx (fun _=>⟨AA,L,M,rt2,_,e2,by decide +kernel,i1.same s2,rfl,pw2,fun fd H3 s3 _=>⟨rfl,s2.trans s3⟩⟩) (fun _=>⟨rfl,s2⟩)
 clear s2 H2;rintro σ' H2 ⟨rfl,s2⟩;refine fe (uh AA.a z (Tx.S t) fin d av wh H1) ?_ ?_
 ·left;refine ⟨AA,L,M,root,t,e,rfl,i1.same s2,rfl,pw,fun fd H3 s3 bt=>⟨e.res,bt,hd.same (s2.trans s3),fun H4 s4=>bL rfl ⟨rfl,(s2.trans s3).trans s4⟩⟩⟩
 clear s2 H2;rintro σ' H2 ⟨rfl,s2⟩;refine fe (uh AA.a z (Tx.S t) fin d av wh H1) ?_ ?_
 ·left;cases fin with
  | false=>exact bL rfl (aY ⟨rfl,s2⟩)
  | true =>
   refine bX rfl ?_;exact ⟨AA,L,M,root,t,e,rfl,i1.same s2,rfl,pw,fun fd H3 s3 bt=>⟨e.res,bt,hd.same (s2.trans s3),fun H4 s4=>bL rfl ⟨rfl,(s2.trans s3).trans s4⟩⟩⟩
 clear s2 H2;rintro σ' H2 ⟨rfl,s2⟩;refine aj ?_;left;obtain ⟨rt3,e3,_,pw3,_⟩:=rP (L:=L) g i1.len hn uK false (t:=[98,47,46,46,47,97]) ⟨by decide,by decide,by decide +kernel⟩;refine ⟨AA,L,M,rt3,_,e3,by decide +kernel,i1.same s2,rfl,pw3,fun fd H3 s3 _=>?_⟩;left;refine ⟨AA,L,M,root,t,e,rfl,i1.same (s2.trans s3),rfl,pw,fun av2 H4 s4 hav2=>?_⟩;exact gq.same (K:=K) (neg:=false) (Q:=Q) (.inl ⟨aC.of hav2,aC.of (((s2.trans s3).trans s4) _ _ gN)⟩) (yJ _) (q _ (s1.trans ((s2.trans s3).trans s4)))
def Ae (xs:List V):Prop:=∀ v∈xs,∀ a,v≠V.ref a
theorem Di (zs:List Int):Ae (zs.map V.int):=fun v hv a=>by obtain ⟨z,_,rfl⟩:=List.mem_map.mp hv; nofun
theorem Se (zs:List Str):Ae (zs.map V.str):=fun v hv a=>by obtain ⟨z,_,rfl⟩:=List.mem_map.mp hv; nofun
def vP:HO->Prop
 | .lst xs=>Ae xs
 | .eS _ _=>True
 | _=>False
def eX (st:Addr) (H H':Hp):Prop:=∀ c o,c≠st->vP o->H c=some o->H' c=some o
def eO (H H':Hp):Prop:=∀ c o,vP o->H c=some o->H' c=some o
theorem eO.l {st:Addr} {H H':Hp} (k:eO H H'):eX st H H':=fun c o _ h e=>k c o h e
theorem eX.trans {st:Addr} {H H1 H2:Hp} (a:eX st H H1) (b:eX st H1 H2):eX st H H2:=fun c o n h e=>b c o n h (a c o n h e)
theorem eO.trans (a:eO H H1) (b:eO H1 H2):eO H H2:=fun c o h e=>b c o h (a c o h e)
theorem eO.of (s:ah H H'):eO H H':=fun c o _ e=>s _ _ e
theorem eX.of {st:Addr} {H H':Hp} (k:cO st H H'):eX st H H':=fun c o n _ e=>k _ _ n e
theorem Dr.kp {st:Addr} {H H':Hp} (d:Dr st H) (k:eO H H'):Dr st H':=let ⟨zs,e,l⟩:=d; ⟨zs,k _ _ (Di zs) e,l⟩
section
variable {CH CS CT:Addr} {H H':Hp} {A:Ad} {L:List Ta} {M:Hs}
theorem aG.IX (i:aG CH CS CT H A L M) (h0:M.ts≠[]) (hb:b∈A.w++L.flatMap Ta.l) (hx:vP o) (e:H b=Option.some o):False:=by
 rcases List.mem_append.mp hb with h | h
 ·simp only [Ad.w,List.mem_cons,List.not_mem_nil,or_false] at h;rcases h with rfl | rfl | rfl | rfl | rfl | rfl | rfl | rfl
  ·obtain ⟨_,_,e',_⟩:=i.h; rw [e'] at e; cases e; exact hx
  ·obtain ⟨_,_,e',_⟩:=i.t; rw [e'] at e; cases e; exact hx
  ·rw [i.ml] at e;cases e;cases L with
   | nil=>exact h0 (List.length_eq_zero_iff.mp i.len.symm)
   | cons a r=>exact hx (.ref a.th) (by simp) a.th rfl
  ·rw [i.ro] at e; cases e; exact hx
  ·rw [i.st] at e; cases e; exact hx
  ·rw [i.tr] at e; cases e; exact hx
  ·rw [i.ov] at e; cases e; exact hx
  ·rw [i.un] at e; cases e; exact hx
 ·obtain ⟨a,ha,h⟩:=List.mem_flatMap.mp h;obtain ⟨j,ha⟩:=List.getElem?_of_mem ha;have b8:j < M.ts.length:=by rw [<- i.len]; exact (List.getElem?_eq_some_iff.mp ha).1
  obtain ⟨a',e1,t⟩:=i.th j _ (List.getElem?_eq_getElem b8);rw [ha] at e1; cases e1;simp only [Ta.l,List.mem_cons,List.not_mem_nil,or_false] at h;rcases h with rfl | rfl | rfl
  ·obtain ⟨_,e',_⟩:=t.o; rw [e'] at e; cases e; exact hx
  ·rw [t.nm] at e; cases e; exact hx
  ·rw [t.pl] at e; cases e; exact hx
theorem aG.off (i:aG CH CS CT H A L M) (h0:M.ts≠[]) (hW:∀ b∈W,b∈A.w++L.flatMap Ta.l) (k:Kp W H H'):eO H H':=fun c o ho e=>k c _ (fun hc=>i.IX h0 (hW c hc) ho e) e
theorem aG.drawn {st:Addr} (i:aG CH CS CT H A L M) (h0:M.ts≠[]) (d:Dr st H) (k:cO st H H'):aG CH CS CT H' A L M:=by
 refine i.keep (W:=[st]) (fun b o hb e=>k b o (by simpa using hb) e) fun b hb hm=>?_;obtain rfl:b=st:=by simpa using hm
 obtain ⟨zs,e,_⟩:=d;exact i.IX h0 hb (show vP (.lst (zs.map V.int)) from Di zs) e
end
def Hz (CH CS CT:Addr) (A:Ad) (n:Nat) (H:Hp):Prop:=∃ L M,aG CH CS CT H A L M/\Gd M/\M.ts.length<=n
theorem Gd.ne (g:Gd M):M.ts≠[]:=fun e=>by obtain ⟨t,h,_⟩:=g.t0; rw [e] at h; cases h
def yM:List Str:=["folder","file","lead","stand","root"]
def Pr (N:Cn):Sp:=zD fun x z kd pt st H Q E=>X3 fun A t n=>xA (pt=Tx.S t) (Hz N.CH N.CS N.CT A n H) (A.a=x) (z∈AS) (n<=80) (xg t) (Dr st H) (kd∈yM) (∀ v H',Hz N.CH N.CS N.CT A (n+1) H'->Dr st H'->eX st H H'->Q v H') (∀ C d H',C=N.CN\/C=N.CD->Hz N.CH N.CS N.CT A (n+1) H'->Dr st H'->eX st H H'->E (.ref C) (some d) H')
theorem du.mk (h:∀ C d H',C=N.CN\/C=N.CD->ah H H'->E (.ref C) (some d) H'):∀ r:Rf,du N H E r
 | .eY y=>fun d H' s _=>h _ d H' (.inr rfl) s
 | .way r=>fun fd d H' s _ _=>h _ d H' (.inl rfl) s
theorem BY {N:Cn} {H H1:Hp} {A:Ad} {L:List Ta} {M:Hs} {n:Nat} {z kd mi re tx:Str} {t:List Nat} {st:Addr} {Q:VK} {E:XK} (i:aG N.CH N.CS N.CT H1 A L M) (g:Gd M) (hn:M.ts.length<=n) (qK:n<=80) (hz:z∈AS) (hp:xg t) (d:Dr st H1) (kl:eX st H H1)
  (lH:mi∈iN) (iV:re∈iN) (cj:kd=("folder" : Str)\/kd=("file" : Str)\/kd=("lead" : Str)) (D8:kd=("lead" : Str)->∃ tl,tx=Tx.S tl/\eN tl/\tl.length<=120) (q1:∀ v H',Hz N.CH N.CS N.CT A (n+1) H'->Dr st H'->eX st H H'->Q v H') (q2:∀ C d H',C=N.CN\/C=N.CD->Hz N.CH N.CS N.CT A (n+1) H'->Dr st H'->eX st H H'->E (.ref C) (some d) H') :
  wa N H1 A L M z t kd mi re tx Q E:=by
 have rf:eN t:=⟨hp.l1,by have:=hp.l2; omega,hp.all⟩;have hw:=hp.n;obtain ⟨root,r,hr,hf⟩:=PR (L:=L) g i.len (by omega) hz rf (by omega);obtain ⟨r0,k0,ga⟩:=g.as z hz;refine ⟨i,rf,by rw [ga.ro]; rfl,lH,iV,by rw [i.len]; omega,fun f t0 h=>by have:=(g.th f t0 h).nl; omega,root,r,hr,fun x e=>du.mk (fun C dd H' hC s=>q2 C dd H' hC ⟨L,M,i.same s,g,by omega⟩ (d.same s) (kl.trans (eO.of s).l)) x,fun f nm a0 t0 e iH ja a H' i' k'=>?_⟩;obtain ⟨tf,bK,dC,bZ,hv⟩:=hf f nm e;rw [ja] at bK; cases bK;have kA:=i.off g.ne (W:=[A.t,A.ml,a0.nm]) (fun b hb=>by
  simp only [List.mem_cons,List.not_mem_nil,or_false] at hb;rcases hb with rfl | rfl | rfl
  ·simp [Ad.w]
  ·simp [Ad.w]
  ·exact List.mem_append_right _ (jN iH (by simp [Ta.l]))) k'
 refine q1 _ H' ⟨_,_,i',g.make ja dC (by rw [Tx.cq]; exact (vH bZ).2.2.2) hv cj D8,?_⟩ (d.kp kA) (kl.trans kA.l);simp;omega
theorem PQ (m:Nat) (h:m < 100):(Str.ofString (toString (m:Int))).length<=10:=by
 have:∀ m < 100,(Str.ofString (toString ((m:Nat):Int))).length<=10:=by decide +kernel
 exact this m h
theorem Ol (m:Nat) (h:m < 100):((m:Int)).natAbs.log2 < 1920:=by
 have:∀ m < 100,(((m:Nat):Int)).natAbs.log2 < 1920:=by decide +kernel
 exact this m h
theorem ZA (a b:Str):(a++b).length=a.length+b.length:=by
 rw [<- Tx.zb a,<- Tx.zb b,Tx.oM,Tx.cq,Tx.cq,Tx.cq,List.length_append]
theorem UD:az P w K mg base (cM P w) 18 T.oZ.f T.oZ.d ["_law_house_here","_law_asker","_law_kind","_law_path_here","_law_state"] (Pr T.cn):=by
 refine T.oZ.F.dP Pb (fun _ _ _ _ h=>xm h fun _ _ _ _ _ _=>rfl) fun _ A _ s H vs Q E hr h=>xm h fun x z kd pt st h=>?_;obtain ⟨AA,t,n,rfl,⟨L,M,i,g,hn⟩,rfl,hz,qK,hp,d,cj,q1,q2⟩:=h;refine bD (b:=aV BG) ((ai (aW (aZ cP (ad 2) ap) (ai (aU (dR (Xn T) hr.m T.Sq T.xj.kp T.yy .nil cS (aa (ad 0) (aa (ad 1) (aa (ad 3) (aa (bn (xE T) hr.m T.gf.m T.gf.F.kp T.gf.b .nil aq (aa (ad 4) ae)) (aa (bn (xE T) hr.m T.gf.m T.gf.F.kp T.gf.b .nil aq (aa (ad 4) ae)) ae)))))))) (ai (aW (aZ cP (ad 2) ap) (ai (aU (dR (T3 T) hr.m T.RU T.wq.kp T.B7 .nil cS (aa (ad 0) (aa (ad 1) (aa (ad 3) (aa (cr dQ ap (l6 W5 T.my md (aa (bn (gX T) hr.m T.bY.m T.bY.F.kp T.bY.b .nil aq (aa (ad 4) (aa am ae))) ae))) (aa (bn (xE T) hr.m T.gf.m T.gf.F.kp T.gf.b .nil aq (aa (ad 4) ae)) (aa (bn (xE T) hr.m T.gf.m T.gf.F.kp T.gf.b .nil aq (aa (ad 4) ae)) ae))))))))) (ai (aW (aZ cP (ad 2) ap) (ai (aU (dR (Pt T) hr.m T.qp.m T.qp.F.kp T.qp.b .nil cS (aa (ad 0) (aa (ad 1) (aa (ad 3) (aa (bn (Bk T) hr.m T.iC.m T.iC.F.kp T.iC.b .nil aq (aa (ad 4) (aa am ae))) ae))))))) (ai (aW (aZ cP (ad 2) ap) (ai (aU (dR (OS T) hr.m T.qd.m T.qd.F.kp T.qd.b .nil cS (aa (ad 0) (aa (ad 1) (aa (ad 3) ae)))))) (ai (aU (dR (Tn T) hr.m T.oP.m T.oP.F.kp T.oP.b .nil cS (aa (ad 0) (aa (ad 1) (aa (ad 3) ae))))))))))))))) ?_;refine stI [some (V.ref AA.a),some (V.str z),some (V.str kd),some (V.str (Tx.S t)),some (V.ref st)] ?_;left;by_cases h1:kd=("folder" : Str)
 ·refine bX (decide_eq_true h1) ?_;refine ⟨d,fun mi H1 lH d1 k1=>⟨d1,fun re H2 iV d2 k2=>?_⟩⟩;have oj:=k1.trans k2;exact ⟨AA,L,M,t,rfl,BY (i.drawn g.ne d oj) g hn qK hz hp d2 (eX.of oj) lH iV (.inl rfl) (fun e=>absurd e (by decide +kernel)) (fun v H' a b c=>q1 _ H' a b c) q2,rfl⟩
 ·refine bL (decide_eq_false h1) ?_;by_cases h2:kd=("file" : Str)
  ·refine bX (decide_eq_true h2) ?_;refine pA d (by decide) (by decide) fun dg H0 d0 d1 dr0 k0=>?_;obtain ⟨m,rfl⟩:=Int.eq_ofNat_of_zero_le d0;have hm:m < 100:=by omega
   have ht:=PQ m hm;have h5:(Str.ofString "text ").length=5:=by decide +kernel
   refine ⟨Ol m hm,fits (by omega),dr0,fun mi H1 lH d1 k1=>⟨d1,fun re H2 iV d2 k2=>?_⟩⟩;have oj:=(k0.trans k1).trans k2;exact ⟨AA,L,M,t,rfl,BY (i.drawn g.ne d oj) g hn qK hz hp d2 (eX.of oj) lH iV (.inr (.inl rfl)) (fun e=>absurd e (by decide +kernel)) (fun v H' a b c=>q1 _ H' a b c) q2,rfl,by rw [ZA]; omega⟩
  ·refine bL (decide_eq_false h2) ?_;have rf:eN t:=⟨hp.l1,by have:=hp.l2; omega,hp.all⟩;have hw:=hp.n;by_cases h3:kd=("lead" : Str)
   ·refine bX (decide_eq_true h3) ?_;refine ⟨d,by decide,by decide,fun tl H1 uM d1 k1=>?_⟩;have hl80:=uM.l2;have oI:eN tl:=⟨uM.l1,by omega,uM.all⟩;exact ⟨AA,L,M,t,tl,rfl,rfl,BY (i.drawn g.ne d k1) g hn qK hz hp d1 (eX.of k1) (by decide +kernel) (by decide +kernel) (.inr (.inr rfl)) (fun _=>⟨tl,rfl,oI,by omega⟩) (fun v H' a b c=>q1 _ H' a b c) q2,rfl,oI,by omega⟩
   ·refine bL (decide_eq_false h3) ?_;obtain ⟨root,r,hr,hf⟩:=XW (L:=L) g i.len (by omega) hz rf;by_cases h4:kd=("stand" : Str)
    ·refine bX (decide_eq_true h4) ?_;refine ⟨AA,L,M,root,t,r,rfl,i,rfl,hr,by have:=g.sl; omega,fun x e=>du.mk (fun C dd H' hC s=>q2 C dd H' hC ⟨L,M,i.same s,g,by omega⟩ (d.same s) (eO.of s).l) x,fun k e H' i' k'=>?_⟩;obtain ⟨tf,bK,dC,jY⟩:=hf k e;have kA:=i.off g.ne (W:=[AA.a,AA.st]) (fun b hb=>by
      simp only [List.mem_cons,List.not_mem_nil,or_false] at hb;rcases hb with rfl | rfl <;> simp [Ad.w]) k'
     exact q1 _ H' ⟨L,_,i',g.Rk bK dC hz jY,by show M.ts.length<=n+1; omega⟩ (d.kp kA) kA.l
    ·refine bL (decide_eq_false h4) ?_;refine ⟨AA,L,M,root,t,r,rfl,i,rfl,hr,by have:=g.sl; omega,by have:=g.rl; omega,fun x e=>du.mk (fun C dd H' hC s=>q2 C dd H' hC ⟨L,M,i.same s,g,by omega⟩ (d.same s) (eO.of s).l) x,fun k e H' i' k'=>?_⟩;obtain ⟨tf,bK,dC,jY⟩:=hf k e;have kA:=i.off g.ne (W:=[AA.a,AA.ro,AA.st]) (fun b hb=>by
      simp only [List.mem_cons,List.not_mem_nil,or_false] at hb;rcases hb with rfl | rfl | rfl <;> simp [Ad.w]) k'
     exact q1 _ H' ⟨L,_,i',g.root bK dC hz,by show M.ts.length<=n+1; omega⟩ (d.kp kA) kA.l
def ZI (CH CS CT:Addr):Sp:=zD fun x z kd pt st H Q _=>X3 fun A t n=>A9 (pt=Tx.S t) (Hz CH CS CT A n H) (A.a=x) (z∈AS) (n<=80) (xg t) (Dr st H) (kd∈yM) (∀ b H',Hz CH CS CT A (n+1) H'->Dr st H'->eX st H H'->Q (.bl b) H')
theorem Tw:T.qE.k P w base 19 (ZI T.aH T.aN T.aS):=by
 refine T.qE.F.ok Qw (fun _ _ _ _ h=>xm h fun _ _ _ _ _ _=>rfl) fun _ A _ s H vs Q E hr h=>xm h fun x z kd pt st h=>?_;obtain ⟨AA,t,n,rfl,hh,rfl,hz,qK,hp,d,cj,q⟩:=h;refine bD (b:=aV y4) ((al (ND ⟨rfl,rfl,rfl⟩ (fun _ _=>by exact (ai (aU (dR (UD T) hr.m T.oZ.m T.oZ.F.kp T.oZ.b .nil RA (aa (ad 0) (aa (ad 1) (aa (ad 2) (aa (ad 3) (aa (ad 4) ae))))))))) (Vv (K:=K) rfl T.RF T.RP T.Qb (fun _=>by exact (ai (aM dL))) QC))
 (ai (aM dL)))) ?_
 refine stI [some (V.ref AA.a),some (V.str z),some (V.str kd),some (V.str (Tx.S t)),some (V.ref st)] ?_;refine fe (fun σ' H'=>Hz T.aH T.aN T.aS AA (n+1) H'/\Dr st H'/\eX st H H') ?_ ?_
 ·refine ⟨fun σ' v od H'=>(∃ C,v=Value.ref C/\(C=T.mO\/C=T.m3))/\Hz T.aH T.aN T.aS AA (n+1) H'/\Dr st H'/\eX st H H',?_,?_⟩
  ·left;exact ⟨AA,t,n,rfl,hh,rfl,hz,qK,hp,d,cj,fun v H' a b c=>⟨a,b,c⟩,fun C dd H' hC a b c=>⟨⟨C,rfl,hC⟩,a,b,c⟩⟩
  ·rintro σ' C od H' ⟨⟨C',e,hC⟩,a,b,c⟩;cases e;refine ⟨true,?_,?_⟩
   ·rcases hC with rfl | rfl
    ·exact T.NT
    ·exact T.Uc
   ·rw [if_pos rfl];left;exact q false H' a b c
 ·rintro σ' H' ⟨a,b,c⟩;left;exact q true H' a b c
theorem Va (g:Gd M) (ga:Cq M z r k) (p:eJ ⟨L,M,z,last,root⟩ [47] e):∃ ns,e.res=.found r ns:=by
 have e1:cu (cL [47])=[]:=by decide +kernel
 have key:∀ {h n S' o},pf ⟨L,M,z,last,root⟩ (cA [47]) h->ee ⟨L,M,z,last,root⟩ n ⟨h,none,0,[],cu (cL [47]),[],0,0⟩ S' o->o=none/\S'.here=r:=fun {h n S' o} b hr=>by
  have hz:=b.z;dsimp only at hz;rw [ga.ro] at hz;obtain rfl:r=root:=jE hz;obtain ⟨st,b2,rr,a,t,aO,ha,ht,jP,rb,rfl⟩:=b.ex;obtain ⟨rfl,rfl⟩:=g.j8 jP;rw [e1] at hr;obtain ⟨h1,h2,_⟩:=(Hc hr).1 rfl;refine ⟨h1,h2.trans ?_⟩;rcases aO with ⟨_,rfl⟩ | ⟨e2,_⟩
  ·rfl
  ·exact absurd e2 (by decide)
 cases p.g with
 | told b _ hr=>exact absurd (key b hr).1 (by nofun)
 | found b _ hr ht=>exact ⟨_,by rw [(key b hr).2]⟩
def M3 (re:Str):Hs:={ ts:=[{ kd := "folder",ow := "ann",mi := "lgw",re:=re,tx := "",bb:=[],cC:=[] }],ro:=[("ann",0),("bo",0),("cy",0)],st:=[("ann",0),("bo",0),("cy",0)],tr:=[("main",0)],ov:=[],un:=[] }
theorem Kf:∀ z∈AS,aF (sD (M3 re).ro) (.inr z)=some (.int ((0:Nat):Int)):=by
 intro z hz;unfold AS at hz;simp only [List.mem_cons,List.not_mem_nil,or_false] at hz;show aF (sD [(("ann" : Str),0),(("bo" : Str),0),(("cy" : Str),0)]) (.inr z)=_;rcases hz with rfl | rfl | rfl <;> decide +kernel
theorem KZ:∀ z∈AS,Cq (M3 re) z 0 0:=fun z hz=>⟨Kf z hz,Kf (re:=re) z hz,.refl,⟨_,rfl,rfl⟩,_,rfl,rfl⟩
theorem vp:Gd (M3 re):=by
 refine ⟨rfl,rfl,rfl,fun z hz=>⟨0,0,KZ z hz⟩,Nat.le_refl 3,Nat.le_refl 3,⟨_,rfl,rfl⟩,fun k t ht=>?_⟩;cases k with
 | zero =>
  cases ht;exact ⟨Nat.zero_le _,.inl rfl,fun e=>absurd (show ("folder" : Str) = "lead" from e) (by decide +kernel),.inl ⟨rfl,rfl⟩,fun z v h=>by cases h⟩
 | succ k=>simp [M3] at ht
def T2 (CH CS CT:Addr):Sp:=FU fun _ H Q _=>∀ A H',Hz CH CS CT A 1 H'->eO H H'->Q (.ref A.a) H'
theorem RY:T.pT.k P w base 17 (T2 T.aH T.aN T.aS):=by
 refine T.pT.F.ok JB (fun _ _ _ _ h=>Ja h fun _ _=>rfl) fun _ A _ s H vs Q E hr h=>Ja h fun c h=>?_;refine bD (b:=aV Bf) ((al (aR 1 JB.nd (im T.Sz (RS T) hr.m T.YI T.tK.b .nil aq (aa ap ae)))
 (al (aU (bf T.aI T.ny.h (K9 T) hr.m T.ny.b .nil aq (ad 1) (aa ap ae)))
 (al (aU (bf T.aI T.ny.h (K9 T) hr.m T.ny.b .nil aq (ad 1) (aa ap ae)))
 (al (aW (aZ tV (cr l9 (ad 0) am) am) (ai (aU (dR (Ur T) hr.m T.qa.m T.qa.F.kp T.qa.b .nil fW (aa (ad 1) (aa ap (aa ap (aa ap (aa ap ae)))))))) ce)
 (ai (aM (ad 1)))))))) ?_
 refine stI [some (V.int c),none] ?_;refine aj ?_;left;intro x dx hx la dY;refine ⟨⟨dx,ax⟩,by decide +kernel,by decide +kernel,fun A1 L1 H2 hA1 i2 qO je=>⟨rfl,?_⟩⟩;subst hA1;have k2:eO H H2:=fun b o ho e=>je _ _ (by rw [List.mem_singleton]; exact aK e hx) (by rw [ag (aK e hx),ag (aK e la)]; exact e);obtain ⟨mM,gc,gh,mK,fk⟩:=i2.h;have MQ:∀ {L:List Ta},∀ b∈[A1.a,A1.ro,A1.st],b∈A1.w++L.flatMap Ta.l:=fun b hb=>by
  simp only [List.mem_cons,List.not_mem_nil,or_false] at hb;rcases hb with rfl | rfl | rfl <;> simp [Ad.w]
 refine aj ?_;left;refine (mI gh fk ⟨A1,L1,_,i2,rfl,by decide +kernel,by decide +kernel,by decide,by decide,by decide +kernel,by decide +kernel,fun H3 i3 k3=>aj ?_⟩);have k3':=k2.trans (i2.off (by nofun) MQ k3);obtain ⟨gfs3,gc3,gh3,ghl3,gsf3⟩:=i3.h;left;refine (mI gh3 gsf3 ⟨A1,L1,_,i3,rfl,by decide +kernel,by decide +kernel,by decide,by decide,by decide +kernel,by decide +kernel,fun H4 i4 k4=>?_⟩);have k4':=k3'.trans (i3.off (by nofun) MQ k4);have i4':aG T.aH T.aN T.aS H4 A1 L1 (M3 "lg"):=i4;refine fe (fun σ' H'=>σ'=[some (V.int c),some (V.ref A1.a)]/\Hz T.aH T.aN T.aS A1 1 H'/\eO H H') ?_ ?_
 ·left;refine ⟨by decide,kx (fun _=>?_) (fun _=>⟨by trivial,⟨L1,_,i4',vp,by decide⟩,k4'⟩)⟩;have uK:("ann" : Str)∈AS:=by decide +kernel
  obtain ⟨root,e,_,pw,_⟩:=rP (L:=L1) vp i4'.len (by decide) uK true (t:=[47]) ⟨by decide,by decide,by decide +kernel⟩;obtain ⟨ns,he⟩:=Va vp (KZ _ uK) pw;obtain ⟨a,ha⟩:=adr (k:=0) i4'.len rfl;refine ⟨A1,L1,_,root,[47],.inr 0,by decide +kernel,i4',rfl,.ok pw he ha rfl rfl,by decide +kernel,by decide +kernel,(fun y e=>by cases e),fun k a' th e ha' aQ H5 i5 k5=>?_⟩;cases e;rw [ha] at ha'; cases ha';cases aQ;refine ⟨by trivial,⟨L1,M3 "lgw",i5,vp,by decide⟩,k4'.trans (i4'.off (by nofun) (fun b hb=>?_) k5)⟩;simp only [List.mem_cons,List.not_mem_nil,or_false] at hb;rcases hb with rfl | rfl
  ·simp [Ad.w]
  ·exact List.mem_append_right _ (jN ha (by simp [Ta.l]))
 ·rintro σ' H5 ⟨rfl,h5,k5⟩;left;exact h A1 H5 h5 k5
def AB (K:PySem.W.Frag):Sp:=iU fun a H Q _=>A3 (∃ ns:List Int,aC K H a (ns.map V.int)) (t8 H) (∀ H',Q (.bl true) H')
def ql (K:PySem.W.Frag) (H:Hp) (a:Addr) (ns:List Int):Prop:=(∀ J,aC K J a (ns.map V.int))\/∃ o,H a=some (.eS o (.lst (ns.map V.int)))
theorem ql.sq (h:ql K H a ns):aC K H a (ns.map V.int):=by
 rcases h with h | h
 ·exact h H
 ·exact .inl (.inr h)
theorem ql.kp (h:ql K H a ns) (k:eO H H'):ql K H' a ns:=by
 rcases h with h | ⟨o,h⟩
 ·exact .inl h
 ·exact .inr ⟨o,k _ _ trivial h⟩
theorem OX (xs:List V) (a b:Nat):fH xs (some (a:Int)) (some (b:Int))=(xs.drop a).take (b - a):=by
 unfold fH;rw [HT.sj,HT.sj];by_cases h:a<=xs.length
 ·rw [Nat.min_eq_left h];by_cases h2:b<=xs.length
  ·rw [Nat.min_eq_left h2]
  ·rw [Nat.min_eq_right (by omega),List.take_of_length_le (by rw [List.length_drop]; omega),List.take_of_length_le (by rw [List.length_drop]; omega)]
 ·rw [show min a xs.length=xs.length by omega,List.drop_of_length_le (Nat.le_refl _),List.drop_of_length_le (by omega),List.take_nil,List.take_nil]
def j7:List Str:=["folder","folder","file","lead","lead","lead","stand","root"]
structure G1 (CH CS CT:Addr) (A:Ad) (lk ll:Addr) (zs:List Int) (i:Nat) (H':Hp):Prop where
 h:Hz CH CS CT A (1+i) H'
 k:H' lk=some (.lst (j7.map V.str))
 l:H' ll=some (.lst (zs.map V.int))
theorem Hz.same (h:Hz CH CS CT A n H) (s:ah H H'):Hz CH CS CT A n H':=let ⟨L,M,i,g,l⟩:=h; ⟨L,M,i.same s,g,l⟩
theorem Hz.drawn {CH CS CT:Addr} {A:Ad} {n:Nat} {H H':Hp} {st:Addr} (h:Hz CH CS CT A n H) (d:Dr st H) (k:cO st H H'):Hz CH CS CT A n H':=let ⟨L,M,i,g,l⟩:=h; ⟨L,M,i.drawn g.ne d k,g,l⟩
structure rT (CH CS CT:Addr) (A:Ad) (lk ll st:Addr) (zs:List Int) (i:Nat) (H':Hp):Prop where
 h:Hz CH CS CT A (1+i) H'
 k:H' lk=some (.lst (j7.map V.str))
 l:H' ll=some (.lst (zs.map V.int))
 d:Dr st H'
 n1:lk≠st
 n2:ll≠st
theorem rT.keep {CH CS CT:Addr} {A:Ad} {lk ll st:Addr} {zs:List Int} {i:Nat} {H H':Hp} (h:rT CH CS CT A lk ll st zs i H) (k:cO st H H') (d:Dr st H'):rT CH CS CT A lk ll st zs i H':=⟨h.h.drawn h.d k,k _ _ h.n1 h.k,k _ _ h.n2 h.l,d,h.n1,h.n2⟩
theorem Oi:az P w K mg base aJ 20 T.vg T.xI ["_law_script"] (AB K):=by
 refine T.vJ.ok lX (fun vs H Q E h=>?_) (fun _ A _ s H vs Q E hr h=>?_)
 ·exact eD h fun _ _=>rfl
 ·refine eD h fun a h=>?_;obtain ⟨⟨ns,hS⟩,hO,q⟩:=h;refine bD (b:=aV zP) ((al (aR 1 lX.nd (bn (RY T) hr.m T.pT.m T.pT.F.kp T.pT.b .nil aq (aa (bn (V9 T) hr.m T.qe.m T.qe.F.kp T.qe.b .nil aq (aa (ad 0) (aa am ae))) ae)))
  (al (aR 2 lX.nd (ci (aa ap (aa ap (aa ap (aa ap (aa ap (aa ap (aa ap (aa ap ae))))))))))
  (al (oQ PassesOwn.never rfl (iS (K:=K) rfl (cr dQ (ci (aa am ae)) (ge (mm (K:=K) rfl) (ad 0) (iu am) (iu am)))) (et 3 lX.nd) (al (aR 4 lX.nd (ci (aa (ad 3) ae)))
  (al (aR 5 lX.nd (bv (bC (K:=K) rfl) (ci (aa ap (aa ap (aa ap (aa ap ae))))) (bn (gX T) hr.m T.bY.m T.bY.F.kp T.bY.b .nil aq (aa (ad 4) (aa am ae)))))
  (al (aU (bn (Tw T) hr.m T.qE.m T.qE.F.kp T.qE.b .nil aq (aa (ad 1) (aa (ad 5) (aa (bv (bC (K:=K) rfl) (ad 2) (bn (gX T) hr.m T.bY.m T.bY.F.kp T.bY.b .nil aq (aa (ad 4) (aa (cF (kc (K:=K) rfl) T.jg PySem.boot_len (aa (ad 2) ae)) ae)))) (aa (bn (Bk T) hr.m T.iC.m T.iC.F.kp T.iC.b .nil aq (aa (ad 4) (aa am ae))) (aa (ad 4) ae)))))))
  (al (aR 5 lX.nd (bv (bC (K:=K) rfl) (ci (aa ap (aa ap (aa ap ae)))) (bn (gX T) hr.m T.bY.m T.bY.F.kp T.bY.b .nil aq (aa (ad 4) (aa am ae)))))
  (al (aR 6 lX.nd (cr dQ (bv (bC (K:=K) rfl) (ci (aa ap (aa ap (aa ap ae)))) (bn (gX T) hr.m T.bY.m T.bY.F.kp T.bY.b .nil aq (aa (ad 4) (aa am ae)))) (bn (Bk T) hr.m T.iC.m T.iC.F.kp T.iC.b .nil aq (aa (ad 4) (aa am ae)))))
  (ai (aW (c9 (cK (bn (RH T) hr.m T.qm.m T.qm.F.kp T.qm.b .nil aq (aa (ad 1) (aa (ad 5) (aa (ad 6) (aa (em tV (bn (gX T) hr.m T.bY.m T.bY.F.kp T.bY.b .nil aq (aa (ad 4) (aa am ae))) am) ae))))))) (ai (aM dL)) ce))))))))
  (ai (aM dL)))))) ?_
  refine stI [some (.ref a),none,none,none,none,none,none] ?_;have sc0:ql K H a ns:=by
   rcases hS with hS | hS
   ·rcases hS with hS | hS
    ·rcases hO a with z | ⟨o,xs,z⟩
     ·rw [z] at hS; cases hS
     ·rw [z] at hS; cases hS
    ·exact .inr hS
   ·exact .inl fun J=>.inr hS
  refine aj ?_;left;refine ⟨⟨ns,hS⟩,by decide,fun c A1 H1 h1 k1=>aj ?_⟩;have sc1:=sc0.kp k1;left;refine ⟨fits (by simp),fun lk i9=>aj ?_⟩;have s2:=ah.upd (o:=.lst (j7.map V.str)) i9;have b2:upd H1 lk (.lst (j7.map V.str)) lk=some (.lst (j7.map V.str)):=ax;change vw _ _ _ _ _ (upd H1 lk (.lst (j7.map V.str)));generalize upd H1 lk (.lst (j7.map V.str))=H2 at s2 b2 ⊢;have h2:=h1.same s2;have sc2:=sc1.kp (eO.of s2);left;refine ⟨fits (by simp),fun l7 hl7=>⟨_,(sc2.kp (eO.of (ah.upd hl7))).sq,fun ls vb=>?_⟩⟩;rw [show (1:Int)=((1:Nat):Int) from rfl,show (23:Int)=((23:Nat):Int) from rfl,OX,<- List.map_drop,<- List.map_take];have s3:=(ah.upd (o:=.lst [V.int 7]) hl7).trans (ah.upd (o:=.lst (((ns.drop 1).take (23 - 1)).map V.int)) vb);have c3:upd (upd H2 l7 (.lst [V.int 7])) ls (.lst (((ns.drop 1).take (23 - 1)).map V.int)) l7=some (.lst [V.int 7]):=ah.upd vb _ _ ax;have e3:upd (upd H2 l7 (.lst [V.int 7])) ls (.lst (((ns.drop 1).take (23 - 1)).map V.int)) ls=some (.lst (((ns.drop 1).take (23 - 1)).map V.int)):=ax;generalize upd (upd H2 l7 (.lst [V.int 7])) ls (.lst (((ns.drop 1).take (23 - 1)).map V.int))=H3 at s3 c3 e3 ⊢;have hzl:((ns.drop 1).take (23 - 1)).length<=22:=List.length_take_le _ _;generalize (ns.drop 1).take (23 - 1)=zs at hzl c3 e3 s3 ⊢;simp only [c3,e3];refine ⟨fits (by simp; omega),fun ll rj=>?_⟩;have s4:=s3.trans (ah.upd (o:=.lst ([V.int 7]++zs.map V.int)) rj);have b4:upd H3 ll (.lst ([V.int 7]++zs.map V.int)) ll=some (.lst ((7::zs).map V.int)):=ax;generalize upd H3 ll (.lst ([V.int 7]++zs.map V.int))=H4 at s4 b4 ⊢;have h4:G1 T.aH T.aN T.aS A1 lk ll (7::zs) 0 H4:=⟨h2.same s4,s4 _ _ b2,b4⟩;refine ⟨⟨_,aC.of b4⟩,rA (xs:=(7::zs).map V.int) (fun i σ' H'=>G1 T.aH T.aN T.aS A1 lk ll (7::zs) i H'/\∃ t1 t2 t3 t4,σ'=[some (V.ref a),some (V.ref A1.a),some (V.ref lk),t1,t2,t3,t4]) ⟨h4,_,_,_,_,rfl⟩ (fun i σ' H' _ h=>aC.of h.1.l) ?_ (fun σ' H' h=>?_)⟩
  ·rintro i x σ' H5 hx ⟨h5,t1,t2,t3,t4,rfl⟩;have hi:i<=22:=by
    have:=(List.getElem?_eq_some_iff.mp hx).1;simp at this; omega
   obtain ⟨cell,rfl⟩:∃ cell:Int,x=.int cell:=by
    obtain ⟨z,_,rfl⟩:=List.mem_map.mp (List.mem_of_getElem? hx);exact ⟨z,rfl⟩
   refine aj ?_;left;refine ⟨fits (by simp),fun st aO=>aj ?_⟩;have s6:=ah.upd (o:=.lst [V.int cell]) aO;have d6:Dr st (upd H5 st (.lst [V.int cell])):=⟨[cell],ax,.inl rfl⟩;have h6:rT T.aH T.aN T.aS A1 lk ll st (7::zs) i (upd H5 st (.lst [V.int cell])):=⟨h5.h.same s6,s6 _ _ h5.k,s6 _ _ h5.l,d6,aK h5.k aO,aK h5.l aO⟩;generalize upd H5 st (.lst [V.int cell])=H6 at h6 ⊢;left;refine mq h6.d rfl (by simp) (by simp) fun v H7 hv d7 k7=>aj ?_;have h7:=h6.keep k7 d7;obtain ⟨z,hz,rfl⟩:∃ z,z∈AS/\v=V.str z:=by
    simp only [List.mem_cons,List.not_mem_nil,or_false] at hv;rcases hv with rfl | rfl | rfl | rfl <;> exact ⟨_,by decide +kernel,rfl⟩
   left;simp only [bI,h7.k];refine pA h7.d (by decide) (by decide) fun dg H8 d0 d1 d8 k8=>?_;have h8:=h7.keep k8 d8;obtain ⟨v,hv',e8⟩:=pick (xs:=j7.map V.str) d0 d1;simp only [h8.k,e8];obtain ⟨kd,cj,rfl⟩:∃ kd,kd∈yM/\v=V.str kd:=by
    obtain ⟨y,hy,rfl⟩:=List.mem_map.mp hv';refine ⟨y,?_,rfl⟩;unfold j7 at hy;simp only [List.mem_cons,List.not_mem_nil,or_false] at hy;rcases hy with rfl | rfl | rfl | rfl | rfl | rfl | rfl | rfl <;> decide +kernel
   refine ⟨h8.d,by decide,by decide,fun t H9 ht d9 k9=>?_⟩;have h9:=h8.keep k9 d9;refine ⟨A1,t,1+i,rfl,h9.h,rfl,hz,by omega,ht,d9,cj,fun b qH hz10 d10 Ml=>aj ?_⟩;have ou:rT T.aH T.aN T.aS A1 lk ll st (7::zs) (i+1) qH:=⟨hz10,Ml _ _ h9.n1 (Se _) h9.k,Ml _ _ h9.n2 (Di _) h9.l,d10,h9.n1,h9.n2⟩;left;refine mq ou.d rfl (by simp) (by simp) fun v H11 hv d11 Ez=>aj ?_;have Ep:=ou.keep Ez d11;obtain ⟨z2,hz2,rfl⟩:∃ z,z∈AS/\v=V.str z:=by
    simp only [List.mem_cons,List.not_mem_nil,or_false] at hv;rcases hv with rfl | rfl | rfl <;> exact ⟨_,by decide +kernel,rfl⟩
   left;refine mq Ep.d rfl (by simp) (by simp) fun v H12 hv d12 oj=>?_;have vc:=Ep.keep oj d12;obtain ⟨pre,jU,rfl⟩:∃ pre:List Nat,(pre=[]\/pre=[47])/\v=V.str (Tx.S pre):=by
    simp only [List.mem_cons,List.not_mem_nil,or_false] at hv;rcases hv with rfl | rfl | rfl
    ·exact ⟨[],.inl rfl,by decide +kernel⟩
    ·exact ⟨[],.inl rfl,by decide +kernel⟩
    ·exact ⟨[47],.inr rfl,by decide +kernel⟩
   refine ⟨vc.d,by decide,by decide,fun t2 H13 ij d13 k13=>?_⟩;have ra:=vc.keep k13 d13;simp only [Tx.oM];have bj:pre.length<=1:=by rcases jU with rfl | rfl <;> simp
   have uM:=ij.l2;refine ⟨fits (by rw [Tx.cq,Tx.cq]; omega),?_⟩;have rf:eN (pre++t2):=⟨by rw [List.length_append]; have:=ij.l1; omega,by rw [List.length_append]; omega,by
    rcases jU with rfl | rfl
    ·exact ij.all
    ·exact (congrArg (List.all · cz) (Tx.yH 47 t2)).trans ij.all⟩
   refine pA ra.d (by decide) (by decide) fun dg2 H14 _ _ d14 k14=>?_;have xN:=ra.keep k14 d14;obtain ⟨L,M,iM,gM,lM⟩:=xN.h;refine ⟨A1,L,M,pre++t2,rfl,iM,rfl,hz2,gM,by omega,rf,by rw [List.length_append]; omega,fun H15 iK=>bL rfl ⟨?_,_,_,_,_,rfl⟩⟩;exact ⟨xN.h.same iK,iK _ _ xN.k,iK _ _ xN.l⟩
  ·left;exact q _
end
theorem Qr {K:PySem.W.Frag} {a:Addr} {od:Option Addr} {tk:Nat} {sl:Array (Option Value)} {t0 t1:Tok} (l:K.lookup a=some ⟨.type "tuple",od,.seq ([.str "." t0,.str ".." t1]:List Value).toArray tk,sl⟩) (H:Hp):bJ K H a [.str ".",.str ".."]:=.inr ⟨_,_,_,l,rfl,rfl,fits (by simp),(.cons ⟨_,rfl⟩ (.cons ⟨_,rfl⟩ .nil))⟩
theorem Ox {K:PySem.W.Frag} {a:Addr} {od:Option Addr} {tk:Nat} {sl:Array (Option Value)} {t0 t1 t2 t3 t4 t5 t6 t7:Tok} (l:K.lookup a=some ⟨.type "tuple",od,.seq ([.str "" t0,.str "l" t1,.str "g" t2,.str "w" t3,.str "lg" t4,.str "lw" t5,.str "gw" t6,.str "lgw" t7]:List Value).toArray tk,sl⟩) (H:Hp):bJ K H a [.str "",.str "l",.str "g",.str "w",.str "lg",.str "lw",.str "gw",.str "lgw"]:=.inr ⟨_,_,_,l,rfl,rfl,fits (by simp),(.cons ⟨_,rfl⟩ (.cons ⟨_,rfl⟩ (.cons ⟨_,rfl⟩ (.cons ⟨_,rfl⟩ (.cons ⟨_,rfl⟩ (.cons ⟨_,rfl⟩ (.cons ⟨_,rfl⟩ (.cons ⟨_,rfl⟩ .nil))))))))⟩
theorem Wi {K:PySem.W.Frag} {a:Addr} {od:Option Addr} {tk:Nat} {sl:Array (Option Value)} {t0 t1 t2:Tok} (l:K.lookup a=some ⟨.type "tuple",od,.seq ([.str "l" t0,.str "g" t1,.str "w" t2]:List Value).toArray tk,sl⟩) (H:Hp):bJ K H a [.str "l",.str "g",.str "w"]:=.inr ⟨_,_,_,l,rfl,rfl,fits (by simp),(.cons ⟨_,rfl⟩ (.cons ⟨_,rfl⟩ (.cons ⟨_,rfl⟩ .nil)))⟩
theorem Vu {K:PySem.W.Frag} {H:Hp} {a:Addr} {ns:List Int} (hO:t8 H) (hS:aC K H a (ns.map V.int)):AB K [.ref a] H (fun v _=>v=.bl true) fun _ _ _=>False:=⟨⟨ns,hS⟩,hO,fun _=>rfl⟩
theorem walk {l:PySem.W.OpenLaw} {q:Program} {loose:List Str} {XP:(Str->Option Value)->Heap->Prop} {YP:World->Heap->Prop} {d:DefRec} {K:Params->PySem.W.Frag} (hn:l.most=some 63) (u4:d.params.defaults=[]) (qW:d.name = "law")
  (hY:∀ (w:World) (h:Heap),YP w h->(K w.params).In h)
  (F:∀ (w:World) (mg:Str->Option Value) (h:Heap),(K w.params).In h->h.Ns mainGlobals mg->∃ T:Tx (K w.params) mg,T.vg=T.vg) :
  PySem.W.WalkO q loose XP YP l.row.toRowW d [] (fun f vs=>PySem.call f vs) :=
 L2.WX (n:=63) (k:=20) (x := "_law_script") (CX:=fun _=>aJ) (sp:=fun w=>AB (K w.params)) hn (by decide) u4 ⟨rfl,by decide,by decide⟩ hY
  (fun w mg fa h KX G hfa=>by
   obtain ⟨T,_⟩:=F w mg h KX G;rw [qW] at hfa;have e:=hfa.symm.trans T.XD;cases e;exact ⟨T.xI,fun s u=>by obtain ⟨oc,od,kV,doc,pm,an,aw,ct,dW,e,_⟩:=T.vJ.ex; rw [e]; exact .of_eq rfl,fun base _ _=>Oi T⟩)
  (fun _ _ a ns _ hO hS=>Vu hO hS) fun _ _ _ _ _ z=>z
end L2.bO

open PySem PySem.W PyProof.Rows
local macro_rules | `(tactic| walk_at "fa")=>`(tactic| (refine' L2.FA.mk ?n ?l ?c ?k; (case n=>k_is); (case l=>k_is); (case c=>k_is); (case k=>k_is)))
local macro_rules | `(tactic| walk_at "ma")=>`(tactic| (refine' L2.MA.mk ?n ?l ?c ?k ?t; (case n=>k_is); (case l=>k_is); (case c=>k_is); (case k=>k_is); (case t=>k_is)))
local macro_rules | `(tactic| walk_at "ar")=>`(tactic| (intro _ _ _ _ _ _; first | (refine L2.Iw ?_; exact fun _=>rfl) | (refine L2.JP ?_; exact fun _ _=>rfl) | (refine L2.su ?_; exact fun _ _ _=>rfl) | (refine L2.qA ?_; exact fun _ _ _ _=>rfl) | (refine L2.wu ?_; exact fun _ _ _ _ _=>rfl) | (refine L2.BR ?_; exact fun _ _ _ _ _ _=>rfl) | (refine L2.OF ?_; exact fun _ _ _ _ _ _ _=>rfl) | (refine L2.Lp ?_; exact rfl)))
local macro_rules | `(tactic| walk_at "mg")=>`(tactic| (refine' PySem.W.mg_of (by assumption) (by assumption) ?n; (case n=>k_is)))
local macro_rules | `(tactic| walk_at "mn")=>`(tactic| (refine' PySem.W.mg_none_of (by assumption) (by assumption) ?n; (case n=>k_is)))
local macro_rules | `(tactic| walk_at "ft")=>`(tactic| (refine' Classical.choice (L2.FA.gt (by assumption) (by assumption) ?b ?a); (case a=>walk_at "fa"); (case b=>walk_at "ar")))
local macro_rules | `(tactic| walk_at "mt")=>`(tactic| (refine' Classical.choice (L2.MA.gt ?b ?a); (case a=>walk_at "ma"); (case b=>walk_at "ar")))
local macro_rules | `(tactic| walk_at "mk")=>`(tactic| (refine' L2.SM ?a ?b; (case a=>k_is); (case b=>k_is)))
local macro_rules | `(tactic| walk_at "xf")=>`(tactic| (refine' L2.Wl ?a ?b ?c ?d ?e ?f ?g; (case a=>kernel_rfl); (case b=>k_is); (case c=>k_is); (case d=>k_is); (case e=>k_is); (case f=>k_is); (case g=>k_is)))
local macro_rules | `(tactic| walk_at "cl")=>`(tactic| (refine' L2.cX.mk ?a ?b ?c ?d; (case a=>k_is); (case b=>k_is); (case c=>k_is); (case d=>k_is)))
local macro_rules | `(tactic| walk_at "fu")=>`(tactic| (refine' L2.CY ?l ?c ?k; (case l=>k_is); (case c=>k_is); (case k=>k_is)))
local macro_rules | `(tactic| walk_at "fd")=>`(tactic| (refine' L2.V6 ?l ?c ?k ?d ?h; (case l=>k_is); (case c=>k_is); (case k=>k_is); (case d=>k_is); (case h=>exact rfl)))
set_option maxRecDepth 100000 in
set_option maxHeartbeats 0 in
theorem PySem.Challenge.cw_leadnames_k33_leads_are_read_holds : PySem.Challenge.rw_leadnames_k33_leads_are_read.Holds := by
 refine L2.bO.hd0 ?_;unfold L2.bO.ff
 k_fill
 refine L2.bO.walk (l:=PySem.Challenge.rw_leadnames_k33_leads_are_read) rfl rfl rfl (fun w h Y=>PySem.W.kIn_of (e:=fun _=>by kernel_rfl) Y) ?F
 case F =>
  intro w mg h KX G;refine' ⟨L2.bO.Tx.mk ?_ ?_ ?_ ?_ ?_ ?_ ?_ ?_ ?_ ?_ ?_ ?_ ?_ ?_ ?_ ?_ ?_ ?_ ?_ ?ki ?_ ?Cf ?rq ?sX ?_ ?vE ?IT ?_ ?_ ?_ ?_ ?_ ?_ ?_ ?_ ?_ ?_ ?_ ?_ ?xj ?_ ?yy ?K2 ?Gb ?wq ?_ ?B7 ?FK ?KR ?_ ?_ ?_ ?_ ?_ ?_ ?_ ?_ ?_ ?_ ?_ ?_ ?_ ?_ ?_ ?_ ?_ ?_ ?_ ?_ ?_ ?_ ?_ ?_ ?vJ ?_ ?GW ?_ ?Aj ?_ ?_ ?_ ?_ ?_ ?_ ?_ ?_ ?_ ?_ ?_ ?_ ?_ ?_ ?_ ?_ ?_ ?_ ?_ ?_ ?zT ?_ ?_ ?An ?_ ?_ ?_ ?_ ?_ ?_ ?_ ?_ ?_ ?_ ?_ ?_ ?_ ?_ ?_ ?_ ?_ ?_ ?_ ?_ ?_ ?_ ?_ ?_ ?_ ?_ ?_ ?_ ?_ ?_ ?_ ?_ ?_ ?_ ?_ ?_ ?_ ?_ ?_ ?_ ?_ ?_ ?_ ?_ ?_ ?_ ?_ ?_ ?_ ?_ ?_ ?_ ?_ ?_ ?_ ?_ ?_ ?_ ?_ ?_ ?_ ?_ ?_ ?_ ?_ ?_ ?_ ?_ ?_ ?_ ?_ ?_ ?_ ?_ ?_ ?_ ?_ ?_ ?_ ?_ ?_ ?_ ?_ ?_ ?_ ?_ ?_ ?_ ?_ ?_ ?_ ?_ ?_ ?_ ?_ ?_ ?_ ?_ ?_ ?_ ?_ ?_ ?_ ?_ ?_ ?_ ?_ ?_ ?_ ?_ ?_ ?_ ?_ ?_ ?_ ?_ ?_ ?_ ?_ ?_ ?_ ?_ ?_ ?_ ?_ ?_ ?_ ?_ ?_ ?_ ?_ ?_ ?_ ?_ ?_ ?_ ?_ ?_ ?_ ?_ ?_ ?_ ?_ ?_ ?_ ?_ ?_ ?_ ?_ ?_ ?_ ?_,rfl⟩

  all_goals try (first | walk_at "mg" | walk_at "ft" | walk_at "mt" | k_is | (show PySem.W.findIn _ _ _=some none; k_is) | walk_at "mn" | kit_is | k_exc | walk_at "mk" | walk_at "cl" | walk_at "xf" | exact rfl | kernel_rfl)
  (case Aj=>(refine' L2.bO.Qr ?l_DOTS; (case l_DOTS=>k_is)))
  (case zT=>(refine' L2.bO.Ox ?l_RIGHTS; (case l_RIGHTS=>k_is)))
  (case An=>(refine' L2.bO.Wi ?l_SINGLE_RIGHTS; (case l_SINGLE_RIGHTS=>k_is)))
  (case ki=>walk_at "fd")
  (case Cf=>exact L2.jn (x := "walk") (y := "walk") (st:=L2.bO.tI) (ds:=[.bool true]) 1 (by k_is) (by exact rfl) (fun _ _ _ _ _ _ _ us hl=>by (have e:us.length=4:=(by have h:=hl; rw [List.length_append] at h; simp at h; omega)); clear hl; revert us; refine L2.qA ?_; exact fun _ _ _ _=>⟨_,rfl,rfl⟩))
  (case rq=>exact L2.jn (x := "walk") (y := "walk") (st:=L2.bO.tI) (ds:=[.bool true]) 0 (by k_is) (by exact rfl) (fun _ _ _ _ _ _ _ us hl=>by (have e:us.length=3:=(by have h:=hl; rw [List.length_append] at h; simp at h; omega)); clear hl; revert us; refine L2.su ?_; exact fun _ _ _=>⟨_,rfl,rfl⟩))
  (case sX=>walk_at "fd")
  (case vE=>exact L2.jn (x := "asked_of") (y := "asked_of") (st:=L2.bO.tM) (ds:=[.bool true]) 1 (by k_is) (by exact rfl) (fun _ _ _ _ _ _ _ us hl=>by (have e:us.length=4:=(by have h:=hl; rw [List.length_append] at h; simp at h; omega)); clear hl; revert us; refine L2.qA ?_; exact fun _ _ _ _=>⟨_,rfl,rfl⟩))
  (case IT=>exact L2.jn (x := "asked_of") (y := "asked_of") (st:=L2.bO.tM) (ds:=[.bool true]) 0 (by k_is) (by exact rfl) (fun _ _ _ _ _ _ _ us hl=>by (have e:us.length=3:=(by have h:=hl; rw [List.length_append] at h; simp at h; omega)); clear hl; revert us; refine L2.su ?_; exact fun _ _ _=>⟨_,rfl,rfl⟩))
  (case xj=>walk_at "fd")
  (case yy=>exact L2.jn (x := "make_folder") (y := "make_folder") (st:=L2.bO.qc) (ds:=[.str "lgw" _,.str "" _]) 2 (by k_is) (by exact rfl) (fun _ _ _ _ _ _ _ us hl=>by (have e:us.length=5:=(by have h:=hl; rw [List.length_append] at h; simp at h; omega)); clear hl; revert us; refine L2.wu ?_; exact fun _ _ _ _ _=>⟨_,rfl,rfl⟩))
  (case K2=>exact L2.jn (x := "make_folder") (y := "make_folder") (st:=L2.bO.qc) (ds:=[.str "lgw" _,.str "" _]) 1 (by k_is) (by exact rfl) (fun _ _ _ _ _ _ _ us hl=>by (have e:us.length=4:=(by have h:=hl; rw [List.length_append] at h; simp at h; omega)); clear hl; revert us; refine L2.qA ?_; exact fun _ _ _ _=>⟨_,rfl,rfl⟩))
  (case Gb=>exact L2.jn (x := "make_folder") (y := "make_folder") (st:=L2.bO.qc) (ds:=[.str "lgw" _,.str "" _]) 0 (by k_is) (by exact rfl) (fun _ _ _ _ _ _ _ us hl=>by (have e:us.length=3:=(by have h:=hl; rw [List.length_append] at h; simp at h; omega)); clear hl; revert us; refine L2.su ?_; exact fun _ _ _=>⟨_,rfl,rfl⟩))
  (case wq=>walk_at "fd")
  (case B7=>exact L2.jn (x := "make_file") (y := "make_file") (st:=L2.bO.pW) (ds:=[.str "lgw" _,.str "" _]) 2 (by k_is) (by exact rfl) (fun _ _ _ _ _ _ _ us hl=>by (have e:us.length=6:=(by have h:=hl; rw [List.length_append] at h; simp at h; omega)); clear hl; revert us; refine L2.BR ?_; exact fun _ _ _ _ _ _=>⟨_,rfl,rfl⟩))
  (case FK=>exact L2.jn (x := "make_file") (y := "make_file") (st:=L2.bO.pW) (ds:=[.str "lgw" _,.str "" _]) 1 (by k_is) (by exact rfl) (fun _ _ _ _ _ _ _ us hl=>by (have e:us.length=5:=(by have h:=hl; rw [List.length_append] at h; simp at h; omega)); clear hl; revert us; refine L2.wu ?_; exact fun _ _ _ _ _=>⟨_,rfl,rfl⟩))
  (case KR=>exact L2.jn (x := "make_file") (y := "make_file") (st:=L2.bO.pW) (ds:=[.str "lgw" _,.str "" _]) 0 (by k_is) (by exact rfl) (fun _ _ _ _ _ _ _ us hl=>by (have e:us.length=4:=(by have h:=hl; rw [List.length_append] at h; simp at h; omega)); clear hl; revert us; refine L2.qA ?_; exact fun _ _ _ _=>⟨_,rfl,rfl⟩))
  (case vJ=>walk_at "fu")
  (case GW=>exact L2.Binds.all (fun us hl=>match us,hl with | [_],_=>rfl))
  all_goals try (first | walk_at "mg" | walk_at "ft" | walk_at "mt" | k_is | (show PySem.W.findIn _ _ _=some none; k_is) | walk_at "mn" | kit_is | k_exc | walk_at "mk" | walk_at "cl" | walk_at "xf" | exact rfl | kernel_rfl)

