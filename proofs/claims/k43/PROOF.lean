import PyProof.Rows.All
import Wide.All
import OpenK.AllK
import Wide.FinOn
import Lean
import PyProof.EqAt
import PyProof.EqKinds
import PyProof.TupleCall
import PyProof.NsDelKeeps
import PyProof.InstStoreFacts
import KE.KLam
import KE.KRevIter
import PyProof.ZipIter
import KE.KUnpack
import PyProof.Conv_int_bool
import PyProof.CallStr
import KE.KRevSl
import PyProof.NeKinds
import PyProof.AttrMissHeap
import KE.KDictOf
import PySem.Challenge.RW_leadnames_k43_which_refusal_first
set_option Elab.async false
set_option linter.all false
set_option maxRecDepth 100000
namespace L2
open PySem PySem.W
def pJ (tb:String->Option Builtin) (p:Program) (w:World) (n₀:Nat) (ann:Option Value):Nat->SharedT->Thread->Option SharedT
 | 0,_,_=>none
 | n+1,s,t=>match through t with
  | true=>some s
  | false=>match stepOk n₀ ann t with
   | false=>none
   | true=>match stepT (denote tb) p w s t with
    | some (s',t')=>pJ tb p w n₀ ann n s' t'
    | none=>none
theorem Jy {tb:String->Option Builtin} {p:Program} {w:World} {n₀:Nat} {ann:Option Value}:∀ {n:Nat} {s s':SharedT} {t:Thread},pJ tb p w n₀ ann n s t=some s'->topRun tb p w n₀ ann n s.abs t=some s'.abs
 | 0,_,_,_,h=>by cases h
 | n+1,s,s',t,h=>by
  unfold pJ at h;unfold topRun;cases he:through t with
  | true=>rw [he] at h; cases h; rfl
  | false =>
   rw [he] at h;cases hk:stepOk n₀ ann t with
   | false=>rw [hk] at h; cases h
   | true =>
    rw [hk] at h;cases hs:stepT (denote tb) p w s t with
    | none=>rw [hs] at h; cases h
    | some r=>obtain ⟨s₂,t₂⟩:=r; rw [hs] at h; rw [stepT_spec hs]; exact Jy h
def treeOf:List Obj->Nat->BT->BT
 | [],_,t=>t
 | o::r,n,t=>treeOf r (n+1) (t.ins n o)
theorem LeftO.ZW {p q:Program} {loose:List Str} {Xt:Shared->Bool} {α:Type} {Yf:Shared->α} {Ya:World->α} {N:Nat} {g0:Bool} {H₀:Params->Heap} {T₀:Params->BT} {n₀:Nat} {life:Life} {m4:Array GenState} {d₀:Drawn} {k₀:Nat} {ann:Option Value}
  (EB:∀ w:World,(fencedOpening treeTable p w N).map (fun s=>(s.heap,s.gens,s.drawn,s.toks))=some (H₀ w.params,m4,d₀,k₀))
  (tr:∀ P:Params,absHeap (T₀ P) n₀ life=H₀ P)
  (size:∀ P:Params,((H₀ P).isNs mainGlobals && m4.size == 0,(H₀ P).objs.size,(H₀ P).nsMap mainGlobals "__annotations__")=(true,n₀,ann))
  (run:∀ (w:World) (os:OsState),(pJ treeTable p w n₀ ann N ⟨T₀ w.params,n₀,life,m4,d₀,k₀,os⟩ (topStub p)).map (fun s=>((staticsOk (importedModules p.main.body) (H₀ w.params) s.abs.heap && namesBound p s.abs.heap && gensDone s.abs && laidKept (H₀ w.params) s.abs.heap),
    openSeen q loose (importedModules p.main.body) Xt g0 s.abs,Yf s.abs))=some (true,openGood q loose,Ya w)):LeftO p q loose Xt Yf Ya N g0:=fun w=>by
 obtain ⟨⟨h,gs,d,k,os⟩,e,e'⟩:=Option.map_eq_some_iff.mp (EB w);obtain ⟨rfl,rfl,rfl,rfl⟩:h=H₀ w.params/\gs=m4/\d=d₀/\k=k₀:=by simpa using e'
 obtain ⟨z1,z2,z3⟩:_/\_/\_:=by simpa only [Prod.mk.injEq] using size w.params
 obtain ⟨s₁,r1,r2⟩:=Option.map_eq_some_iff.mp (run w os);obtain ⟨l1,l2,l3⟩:_/\_/\_:=by simpa only [Prod.mk.injEq] using r2
 have r:=Jy r1;have ea:SharedT.abs ⟨T₀ w.params,n₀,life,gs,d,k,os⟩=⟨H₀ w.params,gs,d,k,os⟩:=by
  unfold SharedT.abs;rw [tr]
 rw [ea] at r;have t:topFrom treeTable p w N ⟨H₀ w.params,gs,d,k,os⟩=some s₁.abs:=by
  unfold topFrom;dsimp only;rw [z1,z2,z3,r];show (match staticsOk (importedModules p.main.body) (H₀ w.params) s₁.abs.heap && namesBound p s₁.abs.heap && gensDone s₁.abs && laidKept (H₀ w.params) s₁.abs.heap with | true=>_ | false=>_)=_;rw [l1]
 unfold openEnds;rw [e];show (topFrom treeTable p w N _).map _=_;rw [t];exact congrArg some (Prod.ext l2 l3)
def eU (ok:Nat->Option Value->Thread->Bool) (st:SharedT->Thread->Option (SharedT×Thread)) (n₀:Nat) (ann:Option Value):Nat->SharedT->Thread->Option SharedT
 | 0,_,_=>none
 | n+1,s,t=>match through t with
  | true=>some s
  | false=>match ok n₀ ann t with
   | false=>none
   | true=>match st s t with
    | some (s',t')=>eU ok st n₀ ann n s' t'
    | none=>none
theorem FZ {tb:String->Option Builtin} {p:Program} {w:World} {n₀:Nat} {ann:Option Value}:∀ (n:Nat) (s:SharedT) (t:Thread),eU stepOk (stepT (denote tb) p w) n₀ ann n s t=pJ tb p w n₀ ann n s t
 | 0,_,_=>rfl
 | n+1,s,t=>by
  unfold eU pJ;cases through t with
  | true=>rfl
  | false =>
   cases stepOk n₀ ann t with
   | false=>rfl
   | true =>
    cases stepT (denote tb) p w s t with
    | none=>rfl
    | some r=>exact FZ n r.1 r.2
theorem LeftO.R0 {p q:Program} {loose:List Str} {Xt:Shared->Bool} {α:Type} {Yf:Shared->α} {Ya:World->α} {N:Nat} {g0:Bool} {H₀:Params->Heap} {T₀:Params->BT} {n₀:Nat} {life:Life} {m4:Array GenState} {d₀:Drawn} {k₀:Nat} {ann:Option Value}
  {ok:Nat->Option Value->Thread->Bool} {st:(Code->Sem Fin)->Program->World->SharedT->Thread->Option (SharedT×Thread)} {den:(String->Option Builtin)->Code->Sem Fin} {tb:String->Option Builtin}
  (e1:stepOk=ok) (e2:stepT=st) (e3:denote=den) (e4:treeTable=tb)
  (EB:∀ w:World,(fencedOpening treeTable p w N).map (fun s=>(s.heap,s.gens,s.drawn,s.toks))=some (H₀ w.params,m4,d₀,k₀))
  (tr:∀ P:Params,absHeap (T₀ P) n₀ life=H₀ P)
  (size:∀ P:Params,((H₀ P).isNs mainGlobals && m4.size == 0,(H₀ P).objs.size,(H₀ P).nsMap mainGlobals "__annotations__")=(true,n₀,ann))
  (run:∀ (w:World) (os:OsState),(eU ok (st (den tb) p w) n₀ ann N ⟨T₀ w.params,n₀,life,m4,d₀,k₀,os⟩ (topStub p)).map (fun s=>((staticsOk (importedModules p.main.body) (H₀ w.params) s.abs.heap && namesBound p s.abs.heap && gensDone s.abs && laidKept (H₀ w.params) s.abs.heap),
    openSeen q loose (importedModules p.main.body) Xt g0 s.abs,Yf s.abs))=some (true,openGood q loose,Ya w)):LeftO p q loose Xt Yf Ya N g0:=by
 subst e1 e2 e3 e4;refine LeftO.ZW EB tr size fun w os=>?_;rw [<- FZ];exact run w os
noncomputable def fT (P:Params):BT:=treeOf (boot_heap P).objs.toList 0 .nil
end L2

namespace L2
open PySem PySem.W PyProof.Rows
theorem Q5 {α β γ:Type} {o:Option α} {F:α->β×γ} {G:β×γ} (h1:o.map (fun s=>(F s).1)=some G.1) (h2:o.map (fun s=>(F s).2)=some G.2):o.map F=some G:=by
 cases o with
 | none=>cases h1
 | some a=>injection h1 with h1; injection h2 with h2; exact congrArg some (Prod.ext h1 h2)
theorem atS {α β:Type} {o:Option α} {s:α} {f:α->β} {g:β} (hs:o=some s) (h:o.map f=some g):f s=g:=by
 subst hs; exact Option.some.inj h
theorem jH {α β:Type} {a b:α} {c d:β} (h:a=b) (k:c=d):(a,c)=(b,d):=by rw [h,k]
def F0 (p:Program) (H₀:Heap) (s:SharedT):Bool:=staticsOk (importedModules p.main.body) H₀ s.abs.heap && namesBound p s.abs.heap && gensDone s.abs && laidKept H₀ s.abs.heap
def F3 (p q:Program) (loose:List Str) (Xt:Shared->Bool) (g0:Bool) (s:SharedT):Bool:=s.abs.heap.keysOk (looseW q loose) ((recsOf q).map (·.name)) ((litsOf q).map (·.1)) ((clssOf q (looseW q loose)).map (·.name)) && s.abs.heap.accountedOkI (importedModules p.main.body) && s.abs.heap.isNs mainGlobals && s.abs.heap.isNs builtinsNs && tablesOk q s.abs.heap && Xt s.abs && (if g0 then s.abs.gens.size == 0 else !leftWithCleanup s.abs.gens)
def F1 (q:Program) (s:SharedT):=seen ((recsOf q).map (·.name)) (ownsOf q) [] { s.abs with gens:=#[] }
theorem Zx {p q:Program} {loose:List Str} {Xt:Shared->Bool} {α:Type} {Yf:Shared->α} {Ya:World->α} {g0:Bool} {H₀:Heap} {o:Option SharedT} {w:World}
  (q0:o.map (F0 p H₀)=some true) (q1:o.map (F1 q)=some (expectedOf q)) (q2:o.map (fun s:SharedT=>s.abs.heap.bltView)=some bltViewBooted)
  (q3:o.map (F3 p q loose Xt g0)=some true) (q4:o.map (fun s:SharedT=>tabsOk q s.abs)=some true) (q5:o.map (fun s:SharedT=>pinSeenD q (drecsOf q) s.abs)=some (pinGoodD (drecsOf q)))
  (q6:o.map (fun s:SharedT=>plainSeenE q (looseW q loose) s.abs)=some (plainGoodE q (looseW q loose))) (q7:o.map (fun s:SharedT=>plainSeenD q loose s.abs)=some (plainGoodD q loose))
  (q8:o.map (fun s:SharedT=>wideSeen q s.abs)=some (wideGood q)) (q9:o.map (fun s:SharedT=>clsSeenW q loose s.abs)=some (clsGoodW q loose))
  (pR:o.map (fun s:SharedT=>Yf s.abs)=some (Ya w)) :
  o.map (fun s:SharedT=>(F0 p H₀ s,openSeen q loose (importedModules p.main.body) Xt g0 s.abs,Yf s.abs))=some (true,openGood q loose,Ya w):=by
 obtain ⟨s,hs,a0⟩:=Option.map_eq_some_iff.mp q0;have a1:=atS hs q1;have a2:=atS hs q2;have a3:=atS hs q3;have a4:=atS hs q4;have a5:=atS hs q5;have a6:=atS hs q6;have a7:=atS hs q7;have a8:=atS hs q8;have a9:=atS hs q9;have a10:=atS hs pR;clear q0 q1 q2 q3 q4 q5 q6 q7 q8 q9 pR;subst hs;show some _=some _;refine congrArg some (jH a0 (jH ?_ a10));unfold openSeen openGood;exact jH a1 (jH a2 (jH a3 (jH a4 (jH a5 (jH a6 (jH a7 (jH a8 a9)))))))
theorem uq {α β γ:Type} {o:Option α} {f:α->β} {g:α->γ} {b:β} {c:γ} (h:o.map (fun s=>(f s,g s))=some (b,c)):o.map f=some b:=by
 cases o with
 | none=>cases h
 | some a=>injection h with h; exact congrArg some (congrArg Prod.fst h)
theorem gk {α β γ:Type} {o:Option α} {f:α->β} {g:α->γ} {b:β} {c:γ} (h:o.map (fun s=>(f s,g s))=some (b,c)):o.map g=some c:=by
 cases o with
 | none=>cases h
 | some a=>injection h with h; exact congrArg some (congrArg Prod.snd h)
theorem uQ {α β γ:Type} {o:Option α} {l:List β} {f:α->β->γ} {g:β->γ} (n:Nat) (h1:o.map (fun s=>(l.take n).map (f s))=some ((l.take n).map g)) (h2:o.map (fun s=>(l.drop n).map (f s))=some ((l.drop n).map g)):o.map (fun s=>l.map (f s))=some (l.map g):=by
 cases o with
 | none=>cases h1
 | some a =>
  injection h1 with h1;injection h2 with h2;refine congrArg some ?_;show l.map (f a)=l.map g;rw [<- List.take_append_drop n l,List.map_append,List.map_append];exact congr (congrArg _ h1) h2
theorem SN {K:Params->Frag} {as:List Addr} {e:∀ P,as=(K P).map (·.1)} {ts:List Addr} {o:Option SharedT} {w:World} (h:o.map (fun s=>(K w.params).map fun p=>s.abs.heap.get? p.1)=some ((K w.params).map fun p=>some p.2)) (ht:o.map (fun s=>ts.map s.abs.heap.get?)=some (ts.map fun _=>some (tabObj #[]))) :
  o.map (fun s=>(kmHook K as e ts).obs s.abs)=some ((kmHook K as e ts).val w):=by
 refine Q5 (F:=fun s:SharedT=>(kmHook K as e ts).obs s.abs) (G:=(kmHook K as e ts).val w) ?_ ht;show o.map (fun s:SharedT=>as.map s.abs.heap.get?)=some ((K w.params).map fun p=>some p.2);rw [e w.params];simp only [List.map_map];exact h
end L2

section
open PySem PySem.W PyProof.Rows
namespace L2.bM
theorem sa:(PySem.Challenge.rw_leadnames_k43_which_refusal_first).row.wellSaid=true:=by kernel_rfl
theorem JL:(PySem.Challenge.rw_leadnames_k43_which_refusal_first).wellSaid=true:=by
 unfold OpenLaw.wellSaid
 iterate 18 refine look_both ?_ ?_
 ·exact sa
 all_goals kernel_rfl
noncomputable def QV:Program:=view (PySem.Challenge.rw_leadnames_k43_which_refusal_first).prog [0,2,3,4,5,6,7,8,9,10,11,12,13,15,16,17,18,20,21,22,23,24,25,26,27,28,29,30,31,32,33,34,35,36,37,38,40,41,42,43,44,46,47,48,49,50,51,52,53,54,56,57,58,59,60,61,62,63,64,65,68,70,71,73,74,75,76,77,78,79,80,81,82,83,84,85,86,87,88]
theorem iV:∀ w:World,(fencedOpening treeTable (PySem.Challenge.rw_leadnames_k43_which_refusal_first).prog w 16446).map (fun s=>(s.heap,s.gens,s.drawn,s.toks))=some (boot_heap w.params,Array.mk [],boot_drawn,boot_toks):=boot_open rfl rfl (fun _=>rfl)
theorem cf:∀ P:Params,absHeap (L2.fT P) 11 {}=boot_heap P:=by intro P; kernel_rfl
theorem jO:∀ P:Params,((boot_heap P).isNs mainGlobals && (Array.mk ([]:List GenState)).size == 0,(boot_heap P).objs.size,(boot_heap P).nsMap mainGlobals "__annotations__")=(true,11,some (.ref 6)):=by intro P; kernel_rfl
set_option maxHeartbeats 0
theorem qL (w:World) (os:OsState):((eU PySem.W.Fast.tw6613529449190102663 (PySem.W.Fast.tw10156331382660048174 (PySem.W.Fast.tw11892475500146522536 PySem.W.Fast.tw14364793385576792824) (PySem.Challenge.rw_leadnames_k43_which_refusal_first).prog w) 11 (some (.ref 6)) 16446 ⟨L2.fT w.params,11,{},Array.mk [],boot_drawn,boot_toks,os⟩ (topStub (PySem.Challenge.rw_leadnames_k43_which_refusal_first).prog))).map (fun s=>(((staticsOk (importedModules (PySem.Challenge.rw_leadnames_k43_which_refusal_first).prog.main.body) (boot_heap w.params) s.abs.heap && namesBound (PySem.Challenge.rw_leadnames_k43_which_refusal_first).prog s.abs.heap && gensDone s.abs && laidKept (boot_heap w.params) s.abs.heap)),s.abs.heap.bltView,pinSeenD QV (drecsOf QV) s.abs,plainSeenD QV [PySem.Str.ofString "make_folder",PySem.Str.ofString "make_file"] s.abs,clsSeenW QV [PySem.Str.ofString "make_folder",PySem.Str.ofString "make_file"] s.abs,[1055].map s.abs.heap.get?))=some ((true,bltViewBooted,pinGoodD (drecsOf QV),plainGoodD QV [PySem.Str.ofString "make_folder",PySem.Str.ofString "make_file"],clsGoodW QV [PySem.Str.ofString "make_folder",PySem.Str.ofString "make_file"],[1055].map fun _=>some (tabObj #[]))):=by kernel_rfl
theorem R5 (w:World) (os:OsState):((eU PySem.W.Fast.tw6613529449190102663 (PySem.W.Fast.tw10156331382660048174 (PySem.W.Fast.tw11892475500146522536 PySem.W.Fast.tw14364793385576792824) (PySem.Challenge.rw_leadnames_k43_which_refusal_first).prog w) 11 (some (.ref 6)) 16446 ⟨L2.fT w.params,11,{},Array.mk [],boot_drawn,boot_toks,os⟩ (topStub (PySem.Challenge.rw_leadnames_k43_which_refusal_first).prog))).map (fun s=>seen ((recsOf QV).map (·.name)) (ownsOf QV) [] { s.abs with gens:=#[] })=some (expectedOf QV):=by kernel_rfl
theorem Wi (w:World) (os:OsState):((eU PySem.W.Fast.tw6613529449190102663 (PySem.W.Fast.tw10156331382660048174 (PySem.W.Fast.tw11892475500146522536 PySem.W.Fast.tw14364793385576792824) (PySem.Challenge.rw_leadnames_k43_which_refusal_first).prog w) 11 (some (.ref 6)) 16446 ⟨L2.fT w.params,11,{},Array.mk [],boot_drawn,boot_toks,os⟩ (topStub (PySem.Challenge.rw_leadnames_k43_which_refusal_first).prog))).map (fun s=>wideSeen QV s.abs)=some (wideGood QV):=by kernel_rfl
theorem q3 (w:World) (os:OsState):((eU PySem.W.Fast.tw6613529449190102663 (PySem.W.Fast.tw10156331382660048174 (PySem.W.Fast.tw11892475500146522536 PySem.W.Fast.tw14364793385576792824) (PySem.Challenge.rw_leadnames_k43_which_refusal_first).prog w) 11 (some (.ref 6)) 16446 ⟨L2.fT w.params,11,{},Array.mk [],boot_drawn,boot_toks,os⟩ (topStub (PySem.Challenge.rw_leadnames_k43_which_refusal_first).prog))).map (fun s=>(s.abs.heap.keysOk (looseW QV [PySem.Str.ofString "make_folder",PySem.Str.ofString "make_file"]) ((recsOf QV).map (·.name)) ((litsOf QV).map (·.1)) ((clssOf QV (looseW QV [PySem.Str.ofString "make_folder",PySem.Str.ofString "make_file"])).map (·.name)) && s.abs.heap.accountedOkI (importedModules (PySem.Challenge.rw_leadnames_k43_which_refusal_first).prog.main.body) && s.abs.heap.isNs mainGlobals && s.abs.heap.isNs builtinsNs && tablesOk QV s.abs.heap && (fun s=>xlAt QV [] s && recOk (RowW.records (OpenRow.toRowW (PySem.Challenge.rw_leadnames_k43_which_refusal_first).row)) s) s.abs && (if true then s.abs.gens.size == 0 else !leftWithCleanup s.abs.gens)))=some (true):=by kernel_rfl
theorem q4 (w:World) (os:OsState):((eU PySem.W.Fast.tw6613529449190102663 (PySem.W.Fast.tw10156331382660048174 (PySem.W.Fast.tw11892475500146522536 PySem.W.Fast.tw14364793385576792824) (PySem.Challenge.rw_leadnames_k43_which_refusal_first).prog w) 11 (some (.ref 6)) 16446 ⟨L2.fT w.params,11,{},Array.mk [],boot_drawn,boot_toks,os⟩ (topStub (PySem.Challenge.rw_leadnames_k43_which_refusal_first).prog))).map (fun s=>tabsOk QV s.abs)=some (true):=by kernel_rfl
theorem R7 (w:World) (os:OsState):((eU PySem.W.Fast.tw6613529449190102663 (PySem.W.Fast.tw10156331382660048174 (PySem.W.Fast.tw11892475500146522536 PySem.W.Fast.tw14364793385576792824) (PySem.Challenge.rw_leadnames_k43_which_refusal_first).prog w) 11 (some (.ref 6)) 16446 ⟨L2.fT w.params,11,{},Array.mk [],boot_drawn,boot_toks,os⟩ (topStub (PySem.Challenge.rw_leadnames_k43_which_refusal_first).prog))).map (fun s=>(((plainsOf QV (looseW QV [PySem.Str.ofString "make_folder",PySem.Str.ofString "make_file"])).take 8).take 4).map fun c=>s.abs.heap.plainShapeAt c.withCmp)=some ((((plainsOf QV (looseW QV [PySem.Str.ofString "make_folder",PySem.Str.ofString "make_file"])).take 8).take 4).map fun c=>some c.withCmp.plainShape):=by kernel_rfl
theorem TJ (w:World) (os:OsState):((eU PySem.W.Fast.tw6613529449190102663 (PySem.W.Fast.tw10156331382660048174 (PySem.W.Fast.tw11892475500146522536 PySem.W.Fast.tw14364793385576792824) (PySem.Challenge.rw_leadnames_k43_which_refusal_first).prog w) 11 (some (.ref 6)) 16446 ⟨L2.fT w.params,11,{},Array.mk [],boot_drawn,boot_toks,os⟩ (topStub (PySem.Challenge.rw_leadnames_k43_which_refusal_first).prog))).map (fun s=>(((plainsOf QV (looseW QV [PySem.Str.ofString "make_folder",PySem.Str.ofString "make_file"])).take 8).drop 4).map fun c=>s.abs.heap.plainShapeAt c.withCmp)=some ((((plainsOf QV (looseW QV [PySem.Str.ofString "make_folder",PySem.Str.ofString "make_file"])).take 8).drop 4).map fun c=>some c.withCmp.plainShape):=by kernel_rfl
theorem q6a (w:World) (os:OsState):((eU PySem.W.Fast.tw6613529449190102663 (PySem.W.Fast.tw10156331382660048174 (PySem.W.Fast.tw11892475500146522536 PySem.W.Fast.tw14364793385576792824) (PySem.Challenge.rw_leadnames_k43_which_refusal_first).prog w) 11 (some (.ref 6)) 16446 ⟨L2.fT w.params,11,{},Array.mk [],boot_drawn,boot_toks,os⟩ (topStub (PySem.Challenge.rw_leadnames_k43_which_refusal_first).prog))).map (fun s=>((plainsOf QV (looseW QV [PySem.Str.ofString "make_folder",PySem.Str.ofString "make_file"])).take 8).map fun c=>s.abs.heap.plainShapeAt c.withCmp)=some (((plainsOf QV (looseW QV [PySem.Str.ofString "make_folder",PySem.Str.ofString "make_file"])).take 8).map fun c=>some c.withCmp.plainShape):=L2.uQ 4 (R7 w os) (TJ w os)
theorem YY (w:World) (os:OsState):((eU PySem.W.Fast.tw6613529449190102663 (PySem.W.Fast.tw10156331382660048174 (PySem.W.Fast.tw11892475500146522536 PySem.W.Fast.tw14364793385576792824) (PySem.Challenge.rw_leadnames_k43_which_refusal_first).prog w) 11 (some (.ref 6)) 16446 ⟨L2.fT w.params,11,{},Array.mk [],boot_drawn,boot_toks,os⟩ (topStub (PySem.Challenge.rw_leadnames_k43_which_refusal_first).prog))).map (fun s=>((plainsOf QV (looseW QV [PySem.Str.ofString "make_folder",PySem.Str.ofString "make_file"])).drop 8).map fun c=>s.abs.heap.plainShapeAt c.withCmp)=some (((plainsOf QV (looseW QV [PySem.Str.ofString "make_folder",PySem.Str.ofString "make_file"])).drop 8).map fun c=>some c.withCmp.plainShape):=by kernel_rfl
theorem q6 (w:World) (os:OsState):((eU PySem.W.Fast.tw6613529449190102663 (PySem.W.Fast.tw10156331382660048174 (PySem.W.Fast.tw11892475500146522536 PySem.W.Fast.tw14364793385576792824) (PySem.Challenge.rw_leadnames_k43_which_refusal_first).prog w) 11 (some (.ref 6)) 16446 ⟨L2.fT w.params,11,{},Array.mk [],boot_drawn,boot_toks,os⟩ (topStub (PySem.Challenge.rw_leadnames_k43_which_refusal_first).prog))).map (fun s=>plainSeenE QV (looseW QV [PySem.Str.ofString "make_folder",PySem.Str.ofString "make_file"]) s.abs)=some (plainGoodE QV (looseW QV [PySem.Str.ofString "make_folder",PySem.Str.ofString "make_file"])):=L2.uQ 8 (q6a w os) (YY w os)
end L2.bM
end
section
open PySem PySem.W PyProof.Rows
local macro_rules | `(tactic| o_head $H)=>`(tactic| (refine (by assumption:∀ h':PySem.W.Hook,h'=_->PySem.W.OpenRow.Holds _) $H ?_; rfl))
set_option maxHeartbeats 0 in
noncomputable def L2.bM.fJ:(h:Hook) ×' ((∀ h':Hook,h'=h->(PySem.Challenge.rw_leadnames_k43_which_refusal_first).row.Holds)->(PySem.Challenge.rw_leadnames_k43_which_refusal_first).row.Holds):=by
 refine' ⟨_,fun x=>_⟩
 rotate_left
 k_head
end
section
open PySem PySem.W PyProof.Rows
namespace L2.bM
set_option maxHeartbeats 0
theorem ya (w:World) (os:OsState):((eU PySem.W.Fast.tw6613529449190102663 (PySem.W.Fast.tw10156331382660048174 (PySem.W.Fast.tw11892475500146522536 PySem.W.Fast.tw14364793385576792824) (PySem.Challenge.rw_leadnames_k43_which_refusal_first).prog w) 11 (some (.ref 6)) 16446 ⟨L2.fT w.params,11,{},Array.mk [],boot_drawn,boot_toks,os⟩ (topStub (PySem.Challenge.rw_leadnames_k43_which_refusal_first).prog))).map (fun s=>(((fJ.heap_1 w.params).take 329).take 164).map fun p=>s.abs.heap.get? p.1)=some ((((fJ.heap_1 w.params).take 329).take 164).map fun p=>some p.2):=by kernel_rfl
theorem yb (w:World) (os:OsState):((eU PySem.W.Fast.tw6613529449190102663 (PySem.W.Fast.tw10156331382660048174 (PySem.W.Fast.tw11892475500146522536 PySem.W.Fast.tw14364793385576792824) (PySem.Challenge.rw_leadnames_k43_which_refusal_first).prog w) 11 (some (.ref 6)) 16446 ⟨L2.fT w.params,11,{},Array.mk [],boot_drawn,boot_toks,os⟩ (topStub (PySem.Challenge.rw_leadnames_k43_which_refusal_first).prog))).map (fun s=>(((fJ.heap_1 w.params).take 329).drop 164).map fun p=>s.abs.heap.get? p.1)=some ((((fJ.heap_1 w.params).take 329).drop 164).map fun p=>some p.2):=by kernel_rfl
theorem yc (w:World) (os:OsState):((eU PySem.W.Fast.tw6613529449190102663 (PySem.W.Fast.tw10156331382660048174 (PySem.W.Fast.tw11892475500146522536 PySem.W.Fast.tw14364793385576792824) (PySem.Challenge.rw_leadnames_k43_which_refusal_first).prog w) 11 (some (.ref 6)) 16446 ⟨L2.fT w.params,11,{},Array.mk [],boot_drawn,boot_toks,os⟩ (topStub (PySem.Challenge.rw_leadnames_k43_which_refusal_first).prog))).map (fun s=>(((fJ.heap_1 w.params).drop 329).take 164).map fun p=>s.abs.heap.get? p.1)=some ((((fJ.heap_1 w.params).drop 329).take 164).map fun p=>some p.2):=by kernel_rfl
theorem yd (w:World) (os:OsState):((eU PySem.W.Fast.tw6613529449190102663 (PySem.W.Fast.tw10156331382660048174 (PySem.W.Fast.tw11892475500146522536 PySem.W.Fast.tw14364793385576792824) (PySem.Challenge.rw_leadnames_k43_which_refusal_first).prog w) 11 (some (.ref 6)) 16446 ⟨L2.fT w.params,11,{},Array.mk [],boot_drawn,boot_toks,os⟩ (topStub (PySem.Challenge.rw_leadnames_k43_which_refusal_first).prog))).map (fun s=>(((fJ.heap_1 w.params).drop 329).drop 164).map fun p=>s.abs.heap.get? p.1)=some ((((fJ.heap_1 w.params).drop 329).drop 164).map fun p=>some p.2):=by kernel_rfl
theorem pR (w:World) (os:OsState):((eU PySem.W.Fast.tw6613529449190102663 (PySem.W.Fast.tw10156331382660048174 (PySem.W.Fast.tw11892475500146522536 PySem.W.Fast.tw14364793385576792824) (PySem.Challenge.rw_leadnames_k43_which_refusal_first).prog w) 11 (some (.ref 6)) 16446 ⟨L2.fT w.params,11,{},Array.mk [],boot_drawn,boot_toks,os⟩ (topStub (PySem.Challenge.rw_leadnames_k43_which_refusal_first).prog))).map (fun s=>Hook.obs fJ.1 s.abs)=some (Hook.val fJ.1 w) :=
 L2.SN (K:=fJ.heap_1) (e:=fun _=>by kernel_rfl) (L2.uQ 329 (L2.uQ 164 (ya w os) (yb w os)) (L2.uQ 164 (yc w os) (yd w os))) (L2.gk (L2.gk (L2.gk (L2.gk (L2.gk (qL w os))))))
end L2.bM
local macro_rules | `(tactic| o_law)=>`(tactic| refine PySem.W.holds_law L2.bM.JL fun JL=>?_)
local macro_rules | `(tactic| k_head)=>`(tactic| (
 refine holds_open (q:=L2.bM.QV) (loose:=[PySem.Str.ofString "make_folder",PySem.Str.ofString "make_file"]) (Xt:=fun s=>xlAt L2.bM.QV [] s && recOk (RowW.records (OpenRow.toRowW (PySem.Challenge.rw_leadnames_k43_which_refusal_first).row)) s) (XP:=XL L2.bM.QV []) (Yf:=Hook.obs L2.bM.fJ.1) (Ya:=Hook.val L2.bM.fJ.1) (YP:=Hook.says L2.bM.fJ.1) (N:=16446) ?hl (Hook.of L2.bM.fJ.1) (Hook.keeps L2.bM.fJ.1) (fun s e=>xl_of s (Bool.and_eq_true_iff.mp e).1) XL.keeps (by rfl) (by rfl) (by rfl) (fun s e=>recFacts_of (Bool.and_eq_true_iff.mp e).2) (by rfl) (by first | assumption | decide +kernel) (by decide +kernel) ⟨rfl,rfl,rfl,rfl,rfl,by decide +kernel⟩ ?hw ?hc
 case hl =>
  refine L2.LeftO.R0 PySem.W.Fast.te6613529449190102663 PySem.W.Fast.te10156331382660048174 PySem.W.Fast.te11892475500146522536 PySem.W.Fast.te14364793385576792824 L2.bM.iV L2.bM.cf L2.bM.jO (fun w os=>?_);exact L2.Zx (L2.uq (L2.bM.qL w os)) (L2.bM.R5 w os) (L2.uq (L2.gk (L2.bM.qL w os))) (L2.bM.q3 w os) (L2.bM.q4 w os) (L2.uq (L2.gk (L2.gk (L2.bM.qL w os)))) (L2.bM.q6 w os) (L2.uq (L2.gk (L2.gk (L2.gk (L2.bM.qL w os))))) (L2.bM.Wi w os) (L2.uq (L2.gk (L2.gk (L2.gk (L2.gk (L2.bM.qL w os)))))) (L2.bM.pR w os)))
set_option maxHeartbeats 0 in
open_top L2.bM.hd0 for PySem.Challenge.rw_leadnames_k43_which_refusal_first
end
namespace L2
abbrev ν:=PySem.W.Frag
end L2

namespace L2
open PySem PySem.Spec PyProof.Rows
def lm:=@wpAny_bind
def lv:=@Heap.get?_push_of_some
def mo:=@List.mem_cons
def nn:=@List.not_mem_nil
def pc:=@decide_eq_false
def pi:=@wpAny_pure
def pp:=@List.length_map
def ss:=@List.getElem?_eq_getElem
def sw:=@List.getElem?_eq_some_iff
def sB:=@Ne.symm
def sK:=@Nat.le_refl
def tz:=@List.size_toArray
def ul:=@Heap.lt_size
def ut:=@Heap.get?_push_size
def u8:=@Nat.le_trans
def wf:=@Bool.false_ne_true
def wn:=@Nat.lt_of_lt_of_le
def wE:=@List.length_append
def wP:=@decide_eq_true
def wS:=@Nat.ne_of_lt
def wT:=@List.mem_append_right
def xz:=@or_false
def xL:=@if_neg
def zn:=@Bool.and_eq_true
def At:=@List.all_eq_true
def AC:=@if_pos
def AT:=@List.getElem?_append_right
def Ch:=@List.map_cons
def Cl:=@Nat.zero_le
def Da:=@List.getElem?_map
def Db:=@List.getElem?_append_left
def Do:=@List.nodup_cons
def Ev:=@List.map_append
def EQ:=@List.mem_map
def Fa:=@beq_eq_false_iff_ne
def Fk:=@PySem.mem_of_lookup
def Fr:=@List.mem_append_left
def FB:=@wpAny_Call_Name_kw
def FM:=@List.mem_singleton
def FS:=@wpAny_holding
def Gc:=@List.length_cons
def Go:=@Option.some.inj
def GE:=@List.mem_cons_of_mem
def GM:=@PySem.W.looks_findIn
def GT:=@Heap.get?_update_other
def Id:=@List.nodup_append
def Ix:=@Nat.lt_irrefl
def IN:=@wpAny_mono
def IO:=@Bool.false_eq_true
def IR:=@PySem.F.slot_list_append
def KB:=@PySem.F.type_list_append
def KK:=@PySem.W.kia_one
def KM:=@List.all_cons
def LE:=@of_decide_eq_true
def LT:=@PySem.boot_len
def No:=@List.getElem?_set_ne
def NE:=@List.getElem?_set_self
def On:=@Nat.lt_succ_self
def Op:=@wpAny_truthy_bool
def Os:=@decide_eq_true_eq
def Pi:=@List.mem_of_getElem?
def Ps:=@congrArg
def PP:=@Option.map_eq_some_iff
def P3:=@List.take_of_length_le
def Re:=@Array.length_toList
def Rs:=@Heap.get?_update_self
def Sc:=@Array.getElem?_toList
def SC:=@PySem.W.callWith_K
def SL:=@call_meets
def ST:=@List.flatMap_cons
def SZ:=@PyProof.Rows.callWith_type1
def Tk:=@List.map_nil
def Tm:=@List.map_map
def Ty:=@List.length_take
def TD:=@beq_iff_eq
def TW:=@Calls.spliced_cons
def T0:=@wpAny_call
def Uf:=@List.mem_append
def UF:=@wpAny_passesOwn
def UV:=@Bool.eq_iff_iff
def Wp:=@List.find?_cons
def WF:=@PassesOwn.never
def WP:=@Heap.get?_none_of_le
def W1:=@Calls.spliced_nil
def XV:=@codeAny_mono
def ZB:=@if_false
def _a:=@codeAny_call_builtin
def _b:=@Around.under_plainId
def _c:=@List.any_cons
def _d:=@List.filterMap_cons
def _e:=@List.replicate_succ
def _f:=@PySem.W.looks_mroIn
def _g:=@wpAny_loadPart
def _h:=@Heap.size_push
def _i:=@PySem.W.Looks.ld
def _j:=@PySem.F.attr_ValueError
def _k:=@List.length_eq_zero_iff
def _l:=@wpAny_typeNameOfWhole_keyiter
def _m:=@List.mem_cons_self
def _n:=@tupleKind_room_in1
def _o:=@Calls.callWith_builtin
def _p:=@Nat.lt_of_le_of_lt
def _q:=@PySem.F.slot_str_split
def _r:=@PySem.F.type_str_split
def _s:=@codeAny_builtin
def _t:=@F.slot_dict_keyiterator_next
def _u:=@List.length_filter_le
def _v:=@not_or
def _w:=@List.append_assoc
def _x:=@wpAny_newObj_type
def _y:=@typeIs_str
def _z:=@Calls.evalArgs_plain
def _A:=@List.getD_eq_getElem?_getD
def _B:=@PySem.F.excBase_ValueError
def _C:=@F.plain_min_loop
def _D:=@List.mem_of_find?_eq_some
def _E:=@List.getElem?_zip_eq_some
def _F:=@Bool.not_true
def _G:=@F.slot_list_getattribute
def _H:=@wpAny_execs_nil
def _I:=@Int.emod_nonneg
def _J:=@List.mem_filterMap
def _K:=@Int.emod_lt_of_pos
def _L:=@PySem.F.slot_list_index
def _M:=@Int.eq_ofNat_of_zero_le
def _N:=@PySem.W.cellsFrom_some
def _O:=@List.flatten_cons
def _P:=@List.nodup_nil
def _Q:=@Bool.not_eq_true'
def _R:=@not_false_eq_true
def _S:=@PySem.W.methodCall_KW
def _T:=@PySem.F.slot_dict_get
def _U:=@List.getElem?_eq_none
def _V:=@List.mem_iff_getElem?
def _W:=@List.getElem_mem
def _X:=@wpAny_call_entry
def _Y:=@wpAny_standAt
def _Z:=@wpAny_attempt
def _0:=@plainId_quiet
def _1:=@Nat.le_succ
def _2:=@List.not_lt
def _3:=@Array.toArray_toList
def _4:=@List.getElem?_of_mem
def _5:=@List.append_nil
def _6:=@List.of_mem_zip
def _7:=@List.length_nil
def _8:=@wpAny_ite_split
def _9:=@PySem.W.hideAll_get
def Ja0:=@PySem.W.plainGet_of
def Ja1:=@PySem.W.callWith_K0
def Ja2:=@ne_true_of_eq_false
def Ja3:=@List.getElem_of_mem
def Ja4:=@List.length_reverse
def Ja5:=@Nat.le_of_lt
def Ja6:=@Nat.ne_of_gt
def Ja7:=@if_true
def Ja8:=@PySem.W.of_hideAll
def Ja9:=@List.mem_range
def Jaa:=@Bool.false_and
def Jab:=@F.args_str_split_2
def Jac:=@List.filter_append
def Jad:=@SeqAt.RcNeAt.lists
def Jae:=@Obj.data_mapFields
def Jaf:=@Code.quiet_builtin
def Jag:=@wpAny_seqItems
def Jah:=@wpAny_tryCatch
def Jai:=@Bool.or_false
def Jaj:=@Prod.mk.injEq
abbrev Key:=Sum Int Str
def lq:Key->Value->Bool
 | .inl k,v=>Value.isInt k v
 | .inr x,v=>Value.isStrOf x v
def Ph (w:World):Key->Int
 | .inl k=>hashInt k
 | .inr x=>hashStr w x
def kU:∀ {k:Key} {v:Value},lq k v=true->(∃ i t,k=Sum.inl i/\v=Value.int i t)\/(∃ x t,k=Sum.inr x/\v=Value.str x t)
 | .inl i,v,h=>by
  obtain ⟨t,e⟩:=Value.isInt_shape (k:=i) (v:=v) h;exact .inl ⟨i,t,rfl,e⟩
 | .inr x,v,h=>by
  obtain ⟨t,e⟩:=Value.isStrOf_shape (x:=x) (v:=v) h;exact .inr ⟨x,t,rfl,e⟩
def WX (i:Int) (t:Tok):lq (.inl i) (.int i t)=true:=by simp [lq,Value.isInt]
def abS (x:Str) (t:Tok):lq (.inr x) (.str x t)=true:=by simp [lq,Value.isStrOf]
def abI (a b:Int):decide ((Sum.inl a:Key)=Sum.inl b)=(a == b):=by
 by_cases e:a=b
 ·subst e; simp
 ·have h:¬ (Sum.inl a:Key)=Sum.inl b:=fun q=>e (Sum.inl.inj q);rw [pc h];exact (Fa.mpr e).symm
def RG (a b:Str):decide ((Sum.inr a:Key)=Sum.inr b)=decide (a=b):=by
 by_cases e:a=b
 ·subst e; simp
 ·have h:¬ (Sum.inr a:Key)=Sum.inr b:=fun q=>e (Sum.inr.inj q);rw [pc h,pc e]
def R9 (a:Int) (b:Str):decide ((Sum.inl a:Key)=Sum.inr b)=false:=pc (fun q=>nomatch q)
def WG (a:Str) (b:Int):decide ((Sum.inr a:Key)=Sum.inl b)=false:=pc (fun q=>nomatch q)
def dM (prog:Program) (w:World):PySem.KeyKind prog w Key where
 is:=lq
 hash:=Ph w
 inj:=fun v a b ha hb=>by
  rcases kU ha with ⟨i,t,rfl,rfl⟩ | ⟨x,t,rfl,rfl⟩
  ·rcases kU hb with ⟨j,u,rfl,e⟩ | ⟨y,u,rfl,e⟩
   ·injection e with e1 _; rw [e1]
   ·exact nomatch e
  ·rcases kU hb with ⟨j,u,rfl,e⟩ | ⟨y,u,rfl,e⟩
   ·exact nomatch e
   ·injection e with e1 _; rw [e1]
 byValue:=fun k v h=>by
  rcases kU h with ⟨i,t,rfl,rfl⟩ | ⟨x,t,rfl,rfl⟩ <;> rfl
 pyHash:=fun hv h=>by
  rcases kU hv with ⟨i,t,rfl,rfl⟩ | ⟨x,t,rfl,rfl⟩
  ·exact wpAny_pyHash_int h
  ·exact wpAny_pyHash_str h
 eqBool:=fun hu hv h=>by
  rcases kU hu with ⟨i,t,rfl,rfl⟩ | ⟨x,t,rfl,rfl⟩
  ·rcases kU hv with ⟨j,u,rfl,rfl⟩ | ⟨y,u,rfl,rfl⟩
   ·rw [abI] at h; exact wpAny_eqBool_int h
   ·rw [R9] at h; exact SeqAt.EqAt.int_str i t y u _ _ _ _ h
  ·rcases kU hv with ⟨j,u,rfl,rfl⟩ | ⟨y,u,rfl,rfl⟩
   ·rw [WG] at h; exact SeqAt.EqAt.str_int x t j u _ _ _ _ h
   ·rw [RG] at h; exact wpAny_eqBool_str h
 «strs»:=fun k x t v h=>by
  rcases kU h with ⟨i,u,rfl,e⟩ | ⟨y,u,rfl,e⟩
  ·exact nomatch e
  ·injection e with e1 _;subst e1;cases v <;> rfl
def SQ (prog:Program) (w:World) (i:Int) (t:Tok):(dM prog w).is (.inl i) (.int i t)=true:=WX i t
def Uu (prog:Program) (w:World) (x:Str) (t:Tok):(dM prog w).is (.inr x) (.str x t)=true:=abS x t
inductive V where
 | aw | bl (b:Bool) | int (i:Int) | str (x:Str) | byt (b:Array UInt8) | nO (b:UInt64) | ref (a:Addr) | ty (n:String)
 deriving DecidableEq
def RelV:V->Value->Prop
 | .aw,u=>u=Value.none
 | .bl b,u=>u=Value.bool b
 | .int i,u=>∃ t,u=Value.int i t
 | .str x,u=>∃ t,u=Value.str x t
 | .byt b,u=>∃ t,u=Value.bytes b t
 | .nO b,u=>∃ t,u=Value.float b t
 | .ref a,u=>u=Value.ref a
 | .ty n,u=>u=Value.type n
abbrev Vals:List V->List Value->Prop:=Paired RelV
def Vals.length {xs:List V} {us:List Value} (r:Vals xs us):xs.length=us.length:=Paired.length r
def Vals.get:∀ {xs:List V} {us:List Value} {i:Nat} {x:V},Vals xs us->xs[i]?=some x->∃ u,us[i]?=some u/\RelV x u
 | _,_,_,_,.nil,e=>by simp at e
 | _,_,0,_,.cons r _,e=>by simp at e; subst e; exact ⟨_,rfl,r⟩
 | _,_,i+1,x,.cons _ t,e=>by
  obtain ⟨u,h1,h2⟩:=Vals.get (i:=i) (x:=x) t (by simpa using e);exact ⟨u,by simpa using h1,h2⟩
def Vals.set {x:V} {u:Value} (r:RelV x u):∀ {xs:List V} {us:List Value} (i:Nat),Vals xs us->Vals (xs.set i x) (us.set i u)
 | _,_,_,.nil=>.nil
 | _,_,0,.cons _ t=>.cons r t
 | _,_,i+1,.cons q t=>.cons q (Vals.set r i t)
def Vals.append:∀ {xs ys:List V} {us ws:List Value},Vals xs us->Vals ys ws->Vals (xs++ys) (us++ws)
 | _,_,_,_,.nil,s=>s
 | _,_,_,_,.cons r t,s=>.cons r (Vals.append t s)
def Vals.take:∀ {xs:List V} {us:List Value} (n:Nat),Vals xs us->Vals (xs.take n) (us.take n)
 | _,_,0,_=>.nil
 | _,_,_+1,.nil=>.nil
 | _,_,n+1,.cons r t=>.cons r (Vals.take n t)
def Vals.drop:∀ {xs:List V} {us:List Value} (n:Nat),Vals xs us->Vals (xs.drop n) (us.drop n)
 | _,_,0,r=>r
 | _,_,_+1,.nil=>.nil
 | _,_,n+1,.cons _ t=>Vals.drop n t
def e9:Option V->Option Value->Prop
 | some v,some u=>RelV v u
 | none,none=>True
 | _,_=>False
def KV {κ:Type}:List (κ×V)->List (κ×Value)->Prop:=Paired fun (p:κ×V) (q:κ×Value)=>p.1=q.1/\RelV p.2 q.2
def kV:Key->V
 | .inl i=>.int i
 | .inr x=>.str x
inductive HO where
 /-- a list -/
 | lst (xs:List V)
 /-- a tuple (never changes) -/
 | tup (xs:List V)
 /-- a dict whose keys are ints and texts; one whose keys are tuples of ints and texts (km empty one is both) -/
 | dK (kvs:List (Key×V)) | dT (kvs:List (List Key×V))
 /-- a set of ints: aq members,aq size -/
 | set (S:Int->Bool) (n:Nat)
 /-- an instance of km class at C,aq dict at dx,aq attributes -/
 | ins (C dx:Addr) (fs:List (Str×V))
 /-- km dict of km instance at x -/
 | own (x:Addr)
 /-- km dict of an exception -/
 | xd (fs:List (Str×V))
 /-- a bound method,f of x -/
 | met (f x:Addr)
 /-- a range object lo,lo+1,.. below hi -/
 | xT (lo hi:Int)
 /-- a thing that is known to km object (km script; a dict while a loop walks it): read,never written while it is so -/
 | eV (o:Obj) (u:HO)
 /-- a code object's table -/
 | mG (ps:Array Value)
 /-- any other thing,by what is true of aq one object (a def of one's own: SetO a S n:=HO.ext fun h=>..) -/
 | ext (φ:Heap->Prop)
abbrev Hp:=Addr->Option HO
def upd (H:Hp) (a:Addr) (o:HO):Hp:=fun b=>if b=a then some o else H b
def au {H:Hp} {a:Addr} {o:HO}:upd H a o a=some o:=by unfold upd; rw [AC rfl]
def aj {H:Hp} {a b:Addr} {o:HO} (h:b≠a):upd H a o b=H b:=by unfold upd; rw [xL h]
def mj {H:Hp} {a:Addr} {o u:HO}:upd (upd H a o) a u=upd H a u:=by
 funext b; unfold upd; split <;> rfl
def So {H:Hp} {a b:Addr} {o u:HO} (h:H a=some o) (h':H b=some u) (d:o≠u):a≠b:=by
 intro e; subst e; rw [h] at h'; exact d (Go h')
def gv {H:Hp} {a b:Addr} {o:HO} (h:H a=some o) (h':H b=none):a≠b:=by
 intro e; subst e; rw [h] at h'; cases h'
def AZ (h:Heap) (a:Addr) (items:Array Value):Prop:=∃ o,h.get? a=some o/\o.cls=.type "tuple" /\ ∃ n,o.data=.seq items n/\o.dict=none
def AZ.t {h:Heap} {a:Addr} {items:Array Value} (x:AZ h a items):IsTup h a items:=let ⟨o,e,c,n,d,_⟩:=x; ⟨o,e,c,n,d⟩
section
variable (P:Program) (w:World)
def bG (H:Hp) (h:Heap) (a:Addr):HO->Prop
 | .lst xs=>xs.length<=sizeLine/\∃ (aq:List Value) (n:Nat),Vals xs aq/\h.get? a=some { cls:=.type "list",data:=.seq aq.toArray n }
 | .tup xs=>xs.length<=sizeLine/\∃ aq:List Value,Vals xs aq/\AZ h a aq.toArray
 | .dK kvs=>kvs.length<=sizeLine/\(a == sysModules)=false/\∃ vs,KV kvs vs/\h.DictOf (dM P w) a vs
 | .dT kvs=>kvs.length<=sizeLine/\(a == sysModules)=false/\∃ xs:List (List Key×Addr×Value),
   Paired (fun (p:List Key×V) (q:List Key×Addr×Value)=>p.1=q.1/\H q.2.1=some (.tup (p.1.map kV))/\RelV p.2 q.2.2) kvs xs /\
   ∃ o es ep,h.get? a=some o/\o.ExactDict/\o.data=.dict es ep/\es.toList=xs.map (entryOfKey (tupleKind (dM P w)))/\(xs.map (·.1)).Nodup
 | .set S n=>h.SetOf (intKind P w) a S n
 | .ins C dx fs=>H dx=some (.own a)/\fs.length<=1000/\dx≠a/\h.get? a=some (PySem.W.instObj C dx) /\
   ∃ mA,h.Ns1 dx mA/\(∀ f,e9 (fs.lookup f) (mA f))/\PySem.Within mA (fs.map (·.1))
 | .own _=>∃ o,h.get? a=some o
 | .xd fs=>∃ mA,h.Ns1 a mA/\∀ f,e9 (fs.lookup f) (mA f)
 | .xT lo hi=>∃ t u v,h.get? a=some { cls:=.type "range",data:=.fields #[.int lo t,.int hi u,.int 1 v] }
 | .eV o u=>h.get? a=some o/\bG H h a u
 | .mG ps=>h.get? a=some { cls:=.none,data:=.fields ps }
 | .met f x=>h.get? a=some (PySem.W.methodObj (.ref f) (.ref x))
 | .ext φ=>φ h/\(∃ o,h.get? a=some o)/\∀ h1 h2:Heap,φ h1->(∀ o,h1.get? a=some o->h2.get? a=some o)->φ h2
def cj (H:Hp) (h:Heap):Prop:=∀ a o,H a=some o->bG P w H h a o
end
section
variable {P:Program} {w:World} {H H':Hp} {h h':Heap} {a:Addr} {o:HO}
def bG.lt (x:bG P w H h a o):a < h.objs.size:=by
 cases o with
 | lst xs=>obtain ⟨_,_,_,_,e⟩:=x; exact ul e
 | tup xs=>obtain ⟨_,_,_,p⟩:=x; exact p.t.lt
 | dK kvs=>obtain ⟨_,_,_,_,o,_,_,e,_⟩:=x; exact ul e
 | dT kvs=>obtain ⟨_,_,_,_,o,_,_,e,_⟩:=x; exact ul e
 | set S n=>obtain ⟨o,_,_,_,e,_⟩:=x; exact ul e
 | ins C dx fs=>obtain ⟨_,_,_,e,_⟩:=x; exact ul e
 | own y=>obtain ⟨_,e⟩:=x; exact ul e
 | xd fs=>obtain ⟨_,⟨_,_,_,e,_⟩,_⟩:=x; exact ul e
 | xT lo hi=>obtain ⟨_,_,_,e⟩:=x; exact ul e
 | eV ob u=>obtain ⟨e,_⟩:=x; exact ul e
 | mG ps=>exact ul (show h.get? a=some _ from x)
 | met f y=>exact ul (show h.get? a=some _ from x)
 | ext φ=>obtain ⟨_,⟨_,e⟩,_⟩:=x; exact ul e
def Paired.Ay {α β:Type} {F G:α->β->Prop}:∀ {l₁:List α} {l₂:List β},Paired F l₁ l₂->(∀ a b,F a b->G a b)->Paired G l₁ l₂
 | _,_,.nil,_=>.nil
 | _,_,.cons r t,f=>.cons (f _ _ r) (Paired.Ay t f)
def bG.gS (x:bG P w H h a o) (k:∀ b u,(b=a\/H b=some (.own a))->h.get? b=some u->h'.get? b=some u)
  (ho:∀ b,H b=some (.own a)->H' b=some (.own a)) (ht:∀ b xs,H b=some (.tup xs)->H' b=some (.tup xs)):bG P w H' h' a o:=by
 induction o with
 | lst xs=>obtain ⟨z,aq,n,r,e⟩:=x; exact ⟨z,aq,n,r,k _ _ (.inl rfl) e⟩
 | tup xs=>obtain ⟨z,aq,r,ob,e,c⟩:=x; exact ⟨z,aq,r,ob,k _ _ (.inl rfl) e,c⟩
 | dK kvs=>obtain ⟨z,y,vs,r,ob,es,ep,e,c⟩:=x; exact ⟨z,y,vs,r,ob,es,ep,k _ _ (.inl rfl) e,c⟩
 | dT kvs =>
  obtain ⟨z,y,xs,r,ob,es,ep,e,c⟩:=x;exact ⟨z,y,xs,Paired.Ay r fun p q z=>⟨z.1,ht _ _ z.2.1,z.2.2⟩,ob,es,ep,k _ _ (.inl rfl) e,c⟩
 | set S n=>obtain ⟨ob,es,ep,t,e,c⟩:=x; exact ⟨ob,es,ep,t,k _ _ (.inl rfl) e,c⟩
 | ins C dx fs =>
  obtain ⟨d,z,ne,e,mA,⟨od,es,ep,e2,c⟩,r⟩:=x;exact ⟨ho _ d,z,ne,k _ _ (.inl rfl) e,mA,⟨od,es,ep,k _ _ (.inr d) e2,c⟩,r⟩
 | own y=>obtain ⟨ob,e⟩:=x; exact ⟨ob,k _ _ (.inl rfl) e⟩
 | xd fs=>obtain ⟨mA,⟨od,es,ep,e,c⟩,r⟩:=x; exact ⟨mA,⟨od,es,ep,k _ _ (.inl rfl) e,c⟩,r⟩
 | xT lo hi=>obtain ⟨t,u,v,e⟩:=x; exact ⟨t,u,v,k _ _ (.inl rfl) e⟩
 | eV ob u ih=>obtain ⟨e,q⟩:=x; exact ⟨k _ _ (.inl rfl) e,ih q⟩
 | mG ps =>
  have e:h.get? a=some { cls:=.none,data:=.fields ps }:=x;show h'.get? a=some { cls:=.none,data:=.fields ps };exact k a _ (.inl rfl) e
 | met f y =>
  have e:h.get? a=some (PySem.W.methodObj (.ref f) (.ref y)):=x;show h'.get? a=some (PySem.W.methodObj (.ref f) (.ref y));exact k a _ (.inl rfl) e
 | ext φ=>obtain ⟨p,⟨o,e⟩,st⟩:=x; exact ⟨st _ _ p fun o q=>k _ _ (.inl rfl) q,⟨o,k _ _ (.inl rfl) e⟩,st⟩
def cj.lt (x:cj P w H h) (e:H a=some o):a < h.objs.size:=(x a o e).lt
def cj.fresh (x:cj P w H h) (e:h.objs.size<=a):H a=none:=by
 cases q:H a with
 | none=>rfl
 | some u=>exact absurd (wn (x.lt q) e) (Ix _)
def cj.kept (x:cj P w H h) (k:∀ b u,h.get? b=some u->h'.get? b=some u):cj P w H h':=fun a o e =>
 (x a o e).gS (fun b u _ q=>k b u q) (fun _ q=>q) fun _ _ q=>q
def cj.laid (x:cj P w H h) (k:∀ b u,h.get? b=some u->h'.get? b=some u) (hp:h.objs.size<=a) (new:bG P w (upd H a o) h' a o):cj P w (upd H a o) h':=fun b u e=>by
 have hn:=x.fresh hp;by_cases hb:b=a
 ·subst hb; rw [au] at e; cases e; exact new
 ·rw [aj hb] at e;exact (x b u e).gS (fun c v _ q=>k c v q) (fun c q=>by rw [aj (gv q hn)]; exact q) fun c xs q=>by rw [aj (gv q hn)]; exact q
end
def Rd (H:Hp) (a:Addr) (u:HO):Prop:=H a=some u\/∃ o,H a=some (.eV o u)
def Rd.ok {P:Program} {w:World} {H:Hp} {h:Heap} {a:Addr} {u:HO} (r:Rd H a u) (x:cj P w H h):bG P w H h a u:=by
 rcases r with r | ⟨o,r⟩
 ·exact x a u r
 ·obtain ⟨_,q⟩:=x a _ r;exact q
def sG:Option HO->Prop
 | some (.lst _)=>True
 | some (.dK _)=>True
 | some (.dT _)=>True
 | some (.set _ _)=>True
 | some (.ins _ _ _)=>True
 | some (.ext _)=>True
 | _=>False
section
variable {P:Program} {w:World} {H:Hp} {h h':Heap} {x e:Addr} {o':HO}
def cj.write (ok:cj P w H h) (mu:sG (H x)) (he:e=x\/H e=some (.own x)) (k:∀ b u,b≠e->h.get? b=some u->h'.get? b=some u) (rA:∃ u,h'.get? e=some u)
  (new:bG P w (upd H x o') h' x o'):cj P w (upd H x o') h':=fun b u q=>by
 have Nq:∀ c y,H c=some (.own y)->c≠x:=fun c y r z=>by subst z; rw [r] at mu; exact mu
 have ntup:∀ c xs,H c=some (.tup xs)->c≠x:=fun c xs r z=>by subst z; rw [r] at mu; exact mu
 by_cases hb:b=x
 ·subst hb; rw [au] at q; cases q; exact new
 ·rw [aj hb] at q;by_cases pk:b=e
  ·have q':H b=some (.own x):=by
    rcases he with z | z
    ·exact absurd (pk.trans z) hb
    ·rw [pk]; exact z
   rw [q] at q'; cases q';obtain ⟨v,hv⟩:=rA;exact ⟨v,by rw [pk]; exact hv⟩
  ·refine (ok b u q).gS (fun c v hc r=>k c v ?_ r) (fun c r=>by rw [aj (Nq c b r)]; exact r) fun c xs r=>by rw [aj (ntup c xs r)]; exact r
   rcases hc with rfl | hc
   ·exact pk
   ·rintro rfl;rcases he with z | z
    ·exact Nq c b hc z
    ·rw [hc] at z; cases z; exact hb rfl
end
structure Un (fs ex:List Addr) (H H':Hp) (h h':Heap):Prop where
 keep:∀ b o,h.get? b=some o->H b=none->b ∉ fs->b ∉ ex->h'.get? b=some o
 slot:∀ b o,h.get? b=some o->H b=none->b∈fs->b ∉ ex->∃ sl,h'.get? b=some { o with slots:=sl }
 free:∀ b o,h.get? b=some o->H b=none->b ∉ ex->H' b=none
 there:∀ b o,h.get? b=some o->b ∉ ex->∃ o',h'.get? b=some o'
 gb:∀ b xs,H b=some (.tup xs)->H' b=some (.tup xs)
 fR:∀ b o u,H b=some (.eV o u)->H' b=some (.eV o u)
 gm:∀ b ps,H b=some (.mG ps)->∃ more,H' b=some (.mG (ps++more))
section
variable {fs fs' ex ex':List Addr} {H H1 H2:Hp} {h h1 h2 h':Heap} {a x e:Addr} {o:HO}
def Un.any (u:Un fs ex H H1 h h1) {b:Addr} {ob:Obj} (q:h.get? b=some ob) (n:H b=none) (hx:b ∉ ex):∃ sl,h1.get? b=some { ob with slots:=sl }:=by
 by_cases hb:b∈fs
 ·exact u.slot b ob q n hb hx
 ·exact ⟨ob.slots,u.keep b ob q n hb hx⟩
def Un.kept (k:∀ b u,h.get? b=some u->h'.get? b=some u):Un fs ex H H h h' :=
 ⟨fun b ob q _ _ _=>k b ob q,fun b ob q _ _ _=>⟨ob.slots,k b ob q⟩,fun _ _ _ n _=>n,fun b ob q _=>⟨ob,k b ob q⟩,fun _ _ q=>q,fun _ _ _ q=>q,fun _ ps q=>⟨#[],by rw [q]; simp⟩⟩
def Un.refl:Un fs ex H H h h:=Un.kept fun _ _ q=>q
def Un.laid (k:∀ b u,h.get? b=some u->h'.get? b=some u) (hp:h.objs.size<=a) (hn:H a=none):Un fs ex H (upd H a o) h h' where
 keep:=fun b u q _ _ _=>k b u q
 slot:=fun b u q _ _ _=>⟨u.slots,k b u q⟩
 free:=fun b u q n _=>by rw [aj (wS (wn (ul q) hp))]; exact n
 there:=fun b u q _=>⟨u,k b u q⟩
 gb:=fun b xs q=>by rw [aj (gv q hn)]; exact q
 fR:=fun b u xs q=>by rw [aj (gv q hn)]; exact q
 gm:=fun b ps q=>⟨#[],by rw [aj (gv q hn),q]; simp⟩
def Un.write (mu:sG (H x)) (he:e=x\/H e=some (.own x)) (k:∀ b u,b≠e->h.get? b=some u->h'.get? b=some u) (rA:∃ u,h'.get? e=some u):Un fs ex H (upd H x o) h h':=by
 have hx:∀ b,H b=none->b≠x:=fun b n z=>by subst z; rw [n] at mu; exact mu
 have hb:∀ b,H b=none->b≠e:=fun b n z=>by
  subst z;rcases he with r | r
  ·exact hx b n r
  ·rw [n] at r; cases r
 have hm:∀ b u,H b=some u->¬ sG (some u)->b≠x:=fun b u q nm z=>by subst z; rw [q] at mu; exact nm mu
 refine ⟨fun b u q n _ _=>k b u (hb b n) q,fun b u q n _ _=>⟨u.slots,k b u (hb b n) q⟩,fun b u q n _=>by rw [aj (hx b n)]; exact n,fun b u q _=>?_,
  fun b xs q=>by rw [aj (hm b _ q fun z=>z)]; exact q,fun b u xs q=>by rw [aj (hm b _ q fun z=>z)]; exact q,fun b ps q=>⟨#[],by rw [aj (hm b _ q fun z=>z),q]; simp⟩⟩
 by_cases pk:b=e
 ·subst pk; exact rA
 ·exact ⟨u,k b u pk q⟩
end
def xS (h:Heap) (H:Hp):List Addr:=(List.range h.objs.size).filter fun a=>(H a).isSome
def iX (h:Heap) (H:Hp):Heap:=PySem.W.hideAll h (xS h H)
def Vy (h:Heap) (H:Hp):(iX h H).objs.size=h.objs.size:=PySem.W.hideAll_size _ _
def Va {h:Heap} {H:Hp} {b:Addr} {o:Obj} (e:h.get? b=some o) (n:H b=none):(iX h H).get? b=some o :=
 _9 _ e fun hm=>by
  have q:(H b).isSome=true:=(List.mem_filter.mp hm).2;rw [n] at q; simp at q
def Xi {h:Heap} {H:Hp} {b:Addr} {o:Obj} (e:(iX h H).get? b=some o):h.get? b=some o/\H b=none:=by
 have e':h.get? b=some o:=Ja8 (xS h H) e;refine ⟨e',?_⟩;cases q:H b with
 | none=>rfl
 | some x =>
  have hm:b∈xS h H:=List.mem_filter.mpr ⟨Ja9.mpr (ul e'),by simp [q]⟩;have z:(iX h H).get? b=none:=PySem.W.hideAll_none (xS h H) hm;rw [z] at e; cases e
def acn (g h:Heap) (L:Addr):List (Addr×Obj):=(List.range h.objs.size).filterMap fun a=>if a=L\/(g.get? a).isSome=true then none else (h.get? a).map fun o=>(a,o)
def rest (g h:Heap) (L d:Addr):List (Addr×Obj):=(acn g h L).filter fun p=>decide (p.1≠d)
structure Mod (K:ν) (mg:Str->Option Value) (base:Heap):Prop where
 iH:K.In base
 glob:base.Ns mainGlobals mg
 blt:∃ mb,base.Ns builtinsNs mb/\∀ x:Str,x ≠ "__name__" -> mb x=bootBuiltins x
 nolimit:base.NoLimit
structure Cx where
 prog:Program
 w:World
 K:ν
 mg:Str->Option Value
 base:Heap
 A:Around
 N:List Str
 s₀:Shared
 H₀:Hp
 env:Env
 outer:List Env
 stack:List Env
 ex:List Addr
 fn:Str->Bool
 calm:Bool
 pn:List (Addr×Obj)
 xe:Value->Shared->Prop
def bH (l:List Env):List Addr:=l.filterMap (·.frame)
abbrev Cx.fs (X:Cx):List Addr:=bH X.outer
def mC (sc:Scope) (x:Str):Prop:=sc.names.lookup x=some .local\/sc.names.lookup x=some .cell\/sc.names.lookup x=some .free
def Loc (sc:Scope) (x:Str):Prop:=sc.names.lookup x=some .local\/sc.names.lookup x=some .cell
def Look (env:Env) (h:Heap) (m:Str->Option Value) (x:Str) (u:Value):Prop :=
 (env.kindOf x=some .local/\m x=some u)\/((env.kindOf x=some .cell\/env.kindOf x=some .free)/\∃ c,env.cells.lookup x=some c/\h.IsCell c (some u))
structure Cx.Ok (X:Cx):Prop where
 mod:Mod X.K X.mg X.base
 kind:X.env.scope.kind=.function
 glob:X.env.globals=mainGlobals
 blt:X.env.builtins=builtinsNs
 above:X.s₀.heap.objs.size<=X.env.locals
 inj:∀ x y c,X.env.cells.lookup x=some c->X.env.cells.lookup y=some c->x=y
 has:∀ x,(X.env.kindOf x=some .cell\/X.env.kindOf x=some .free)->∃ c,X.env.cells.lookup x=some c
 lE:∀ x c,X.fn x=true->X.env.cells.lookup x=some c->X.s₀.heap.objs.size<=c
 hd:X.calm=true->X.A.handled=none
 frames:X.A.frames=some X.stack
 dB:X.stack=X.outer\/(X.stack=X.env::X.outer/\X.env.frame=some X.env.locals)
 tW:∀ b∈X.ex,b≠X.env.locals/\∀ x c,X.env.cells.lookup x=some c->c≠b
 bs:∀ b o,X.base.get? b=some o->X.s₀.heap.get? b=some o/\X.H₀ b=none
 gU:X.base.objs.size<=X.s₀.heap.objs.size
 mf:∀ b o,X.base.get? b=some o->b ∉ X.ex
 mQ:∀ b∈X.ex,b ∉ X.fs
 fC:X.s₀.heap.FunFrames X.base X.outer
 iU:∀ b∈X.fs,X.H₀ b=none
structure Inv (X:Cx) (π:List (Addr×Obj)) (σ:List (Option V)) (H:Hp) (s:Shared):Prop where
 ok:X.Ok
 os:s.os=X.s₀.os
 bare:AllBare s.gens
 base:Un X.fs X.ex X.H₀ H X.s₀.heap s.heap
 loc:∃ m,s.heap.Ns X.env.locals m/\∀ (i:Nat) (x:Str) (v:V),X.N[i]?=some x->σ[i]?=some (some v)->mC X.env.scope x->∃ u,RelV v u/\Look X.env s.heap m x u
 cell:∀ x c,X.env.cells.lookup x=some c->∃ v,s.heap.IsCell c v
 free:H X.env.locals=none
 fB:∀ x c,X.env.cells.lookup x=some c->H c=none
 pin:∀ p∈X.pn++π,s.heap.get? p.1=some p.2/\H p.1=none/\p.1≠X.env.locals/\p.1 ∉ X.fs/\∀ v,p.2.data≠.cell v
 ay:cj X.prog X.w H s.heap
 len:σ.length=X.N.length
section
variable {X:Cx} {π:List (Addr×Obj)} {σ:List (Option V)} {H H':Hp} {s:Shared} {h':Heap}
def Cx.Ok.RO (ok:X.Ok) {b:Addr} {o:Obj} (e:X.base.get? b=some o):b ∉ X.fs:=fun hb=>by
 have:=(ok.fC.mem hb).1;rw [e] at this; cases this
def Inv.bs (I:Inv X π σ H s):∀ b o,X.base.get? b=some o->s.heap.get? b=some o/\H b=none:=fun b o e =>
 ⟨I.base.keep b o (I.ok.bs b o e).1 (I.ok.bs b o e).2 (I.ok.RO e) (I.ok.mf b o e),I.base.free b o (I.ok.bs b o e).1 (I.ok.bs b o e).2 (I.ok.mf b o e)⟩
def Inv.bk (I:Inv X π σ H s):∀ b o,X.base.get? b=some o->s.heap.get? b=some o:=fun b o e=>(I.bs b o e).1
def Inv.mod (I:Inv X π σ H s):Mod X.K X.mg X.base:=I.ok.mod
def Inv.bR (I:Inv X π σ H s):X.K.In s.heap:=I.ok.mod.iH.keeps I.bk
def Inv.lt (I:Inv X π σ H s):X.env.locals < s.heap.objs.size:=let ⟨_,hn,_⟩:=I.loc; hn.lt
def Inv.sz (I:Inv X π σ H s):X.s₀.heap.objs.size<=s.heap.objs.size:=u8 I.ok.above (Ja5 I.lt)
def Inv.FX (I:Inv X π σ H s) {a:Addr} (h:s.heap.objs.size<=a):a ∉ X.fs:=fun hb=>by
 obtain ⟨_,o,ho,_⟩:=I.ok.fC.mem hb;exact absurd (wn (ul ho) (u8 I.sz h)) (Ix _)
def Inv.jF (I:Inv X π σ H s):∀ x c,X.env.cells.lookup x=some c->c≠X.env.locals:=fun x c e z=>by
 obtain ⟨v,o,ho,hd⟩:=I.cell x c e;obtain ⟨m,⟨o',es,ep,ho',hd',_⟩,_⟩:=I.loc;rw [z,ho'] at ho; cases ho; rw [hd'] at hd; cases hd
def Inv.fC (I:Inv X π σ H s):s.heap.FunFrames X.base X.outer:=by
 have all:∀ (l:List Env),(∀ b∈bH l,b∈X.fs)->X.s₀.heap.FunFrames X.base l->s.heap.FunFrames X.base l:=by
  intro l
  induction l with
  | nil=>intro _ _; trivial
  | cons env r ih =>
   intro hs hl;obtain ⟨hk,⟨L,o,hf,hn,ho,hd⟩,hr⟩:=hl;have hL:L∈X.fs:=hs L (by unfold bH; rw [_d,hf]; exact _m);obtain ⟨sl,e⟩:=I.base.slot L o ho (I.ok.iU L hL) hL fun z=>I.ok.mQ L z hL;exact ⟨hk,⟨L,_,hf,hn,e,hd⟩,ih (fun b hb=>hs b (by unfold bH; rw [_d,hf]; exact GE _ hb)) hr⟩
 exact all X.outer (fun _ hb=>hb) I.ok.fC
def Inv.stack (I:Inv X π σ H s):s.heap.FunFrames X.base X.stack:=by
 rcases I.ok.dB with e | ⟨e,hf⟩
 ·rw [e]; exact I.fC
 ·rw [e];obtain ⟨m,hn,_⟩:=I.loc;refine .cons (by rw [I.ok.kind]; decide) hf hn ?_ I.fC;exact WP (u8 I.ok.gU I.ok.above)
def Inv.sU (I:Inv X π σ H s):∀ b∈bH X.stack,b∈X.env.locals::X.fs:=fun b hb=>by
 rcases I.ok.dB with e | ⟨e,hf⟩
 ·rw [e] at hb; exact GE _ hb
 ·rw [e] at hb;unfold bH at hb;rw [_d,hf] at hb;exact hb
def Inv.wW (I:Inv X π σ H s):∀ b∈bH X.stack,H b=none:=fun b hb=>by
 rcases mo.mp (I.sU b hb) with e | hb
 ·rw [e]; exact I.free
 ·obtain ⟨_,o,ho,_⟩:=I.ok.fC.mem hb;exact I.base.free b o ho (I.ok.iU b hb) fun z=>I.ok.mQ b z hb
def Inv.step {g':Array GenState} {t':Nat} {d':Drawn} {ch:List Addr} (I:Inv X π σ H s)
  (kq:∀ b∈ch,(b∈X.ex\/X.s₀.heap.objs.size<=b)/\b≠X.env.locals/\(∀ x c,X.env.cells.lookup x=some c->c≠b)/\∀ p∈X.pn++π,p.1≠b)
  (keep:∀ b o,b≠X.env.locals->b ∉ X.fs->b ∉ ch->s.heap.get? b=some o->H b=none->h'.get? b=some o)
  (slot:∀ b o,b≠X.env.locals->b∈X.fs->b ∉ ch->s.heap.get? b=some o->H b=none->∃ sl,h'.get? b=some { o with slots:=sl }) (free:∀ b o,b ∉ ch->s.heap.get? b=some o->H b=none->H' b=none)
  (there:∀ b o,b ∉ ch->s.heap.get? b=some o->∃ o',h'.get? b=some o')
  (gb:∀ b xs,H b=some (.tup xs)->H' b=some (.tup xs)) (fR:∀ b o u,H b=some (.eV o u)->H' b=some (.eV o u)) (gm:∀ b ps,H b=some (.mG ps)->∃ more,H' b=some (.mG (ps++more)))
  (ns:∀ m,s.heap.Ns X.env.locals m->h'.Ns X.env.locals m) (ay:cj X.prog X.w H' h') (hg:AllBare g') :
  Inv X π σ H' { s with heap:=h',gens:=g',drawn:=d',toks:=t' }:=by
 have vi:∀ b o,X.s₀.heap.get? b=some o->b≠X.env.locals:=fun b o e=>wS (wn (ul e) I.ok.above);have yv:∀ b o,X.s₀.heap.get? b=some o->b ∉ X.ex->b ∉ ch:=fun b o e hx hb=>by
  rcases (kq b hb).1 with z | z
  ·exact hx z
  ·exact absurd (wn (ul e) z) (Ix _)
 have cellK:∀ x c,X.env.cells.lookup x=some c->∀ v,s.heap.IsCell c v->h'.IsCell c v:=fun x c e v ⟨o,ho,hd⟩=>by
  have vq:c ∉ ch:=fun z=>(kq c z).2.2.1 x c e rfl;by_cases hc:c∈X.fs
  ·obtain ⟨sl,q⟩:=slot c o (I.jF x c e) hc vq ho (I.fB x c e);exact ⟨_,q,hd⟩
  ·exact ⟨o,keep c o (I.jF x c e) hc vq ho (I.fB x c e),hd⟩
 refine ⟨I.ok,I.os,hg,⟨fun b o e n hb hx=>?_,fun b o e n hb hx=>?_,fun b o e n hx=>?_,fun b o e hx=>?_,fun b xs e=>gb b xs (I.base.gb b xs e),fun b o xs e=>fR b o xs (I.base.fR b o xs e),fun b ps e=>?_⟩,?_,fun x c e=>?_,?_,fun x c e=>?_,fun p hp=>?_,ay,I.len⟩
 ·exact keep b o (vi b o e) hb (yv b o e hx) (I.base.keep b o e n hb hx) (I.base.free b o e n hx)
 ·obtain ⟨sl,e1⟩:=I.base.slot b o e n hb hx;obtain ⟨sl',e2⟩:=slot b _ (vi b o e) hb (yv b o e hx) e1 (I.base.free b o e n hx);exact ⟨sl',e2⟩
 ·obtain ⟨o',e1⟩:=I.base.there b o e hx;exact free b o' (yv b o e hx) e1 (I.base.free b o e n hx)
 ·obtain ⟨o',e1⟩:=I.base.there b o e hx;exact there b o' (yv b o e hx) e1
 ·obtain ⟨m1,e1⟩:=I.base.gm b ps e;obtain ⟨m2,e2⟩:=gm b _ e1;exact ⟨m1++m2,by rw [e2,Array.append_assoc]⟩
 ·obtain ⟨m,hn,hl⟩:=I.loc;refine ⟨m,ns m hn,fun i x v e1 e2 e3=>?_⟩;obtain ⟨u,r,l⟩:=hl i x v e1 e2 e3;refine ⟨u,r,?_⟩;rcases l with l | ⟨k,c,e,z⟩
  ·exact .inl l
  ·exact .inr ⟨k,c,e,cellK x c e _ z⟩
 ·obtain ⟨v,z⟩:=I.cell x c e;exact ⟨v,cellK x c e v z⟩
 ·obtain ⟨m,⟨o,_,_,ho,_⟩,_⟩:=I.loc;exact free _ o (fun z=>(kq _ z).2.1 rfl) ho I.free
 ·obtain ⟨v,o,ho,hd⟩:=I.cell x c e;exact free c o (fun z=>(kq c z).2.2.1 x c e rfl) ho (I.fB x c e)
 ·obtain ⟨e,n,ne,nf,d⟩:=I.pin p hp;have vq:p.1 ∉ ch:=fun z=>(kq p.1 z).2.2.2 p hp rfl;exact ⟨keep p.1 p.2 ne nf vq e n,free p.1 p.2 vq e n,ne,nf,d⟩
def Inv.un {t':Nat} (I:Inv X π σ H s) (u:Un X.fs [] H H' s.heap h') (ay:cj X.prog X.w H' h'):Inv X π σ H' { s with heap:=h',toks:=t' }:=by
 obtain ⟨m,⟨o,es,ep,ho,r⟩,_⟩:=id I.loc;obtain ⟨sl,hL⟩:=u.any ho I.free (by simp);exact I.step (g':=s.gens) (d':=s.drawn) (ch:=[]) (fun _ z=>nomatch z) (fun b o _ hb _ e n=>u.keep b o e n hb (by simp)) (fun b o _ hb _ e n=>u.slot b o e n hb (by simp)) (fun b o _ e n=>u.free b o e n (by simp)) (fun b o _ e=>u.there b o e (by simp)) u.gb u.fR u.gm (fun m' hm=>by
  obtain ⟨o',es',ep',ho',r'⟩:=hm;rw [ho] at ho'; cases ho';exact ⟨_,es',ep',hL,r'⟩) ay I.bare
def Inv.call {g':Array GenState} {t':Nat} {d':Drawn} {ch:List Addr} (I:Inv X π σ H s) (u:Un (bH X.stack) ch H H' s.heap h') (ay:cj X.prog X.w H' h') (hg:AllBare g')
  (kq:∀ b∈ch,(b∈X.ex\/X.s₀.heap.objs.size<=b)/\b≠X.env.locals/\(∀ x c,X.env.cells.lookup x=some c->c≠b)/\∀ p∈X.pn++π,p.1≠b) :
  Inv X π σ H' { s with heap:=h',gens:=g',drawn:=d',toks:=t' }:=by
 obtain ⟨m,⟨o,es,ep,ho,r⟩,_⟩:=id I.loc;obtain ⟨sl,hL⟩:=u.any ho I.free fun z=>(kq _ z).2.1 rfl;exact I.step (ch:=ch) kq (fun b o hL hb hc e n=>u.keep b o e n (fun z=>(mo.mp (I.sU b z)).elim hL hb) hc) (fun b o _ _ hc e n=>u.any e n hc) (fun b o hc e n=>u.free b o e n hc) (fun b o hc e=>u.there b o e hc) u.gb u.fR u.gm (fun m' hm=>by
  obtain ⟨o',es',ep',ho',r'⟩:=hm;rw [ho] at ho'; cases ho';exact ⟨_,es',ep',hL,r'⟩) ay hg
def Inv.turned {t':Nat} {it:Addr} (I:Inv X π σ H s) (k:∀ b o,b≠it->s.heap.get? b=some o->h'.get? b=some o) (hn:H it=none) (hL:it≠X.env.locals)
  (h1:it∈X.ex\/X.s₀.heap.objs.size<=it) (h2:∀ x c,X.env.cells.lookup x=some c->c≠it) (h3:∀ p∈X.pn++π,p.1≠it):Inv X π σ H { s with heap:=h',toks:=t' }:=by
 have Mo:∀ b u,H b=some u->b≠it:=fun b u e z=>by rw [z,hn] at e; cases e
 refine I.step (g':=s.gens) (d':=s.drawn) (ch:=[it]) (fun b hb=>?_) (fun b o _ _ hc e _=>k b o (fun z=>hc (by simp [z])) e) (fun b o _ _ hc e _=>⟨o.slots,k b o (fun z=>hc (by simp [z])) e⟩) (fun _ _ _ _ n=>n)
  (fun b o hc e=>⟨o,k b o (fun z=>hc (by simp [z])) e⟩) (fun _ _ e=>e) (fun _ _ _ e=>e) (fun b ps e=>⟨#[],by rw [e]; simp⟩) (fun m hm=>?_) (fun b u e=>?_) I.bare
 ·have e:b=it:=by simpa using hb
  subst e;exact ⟨h1,hL,h2,h3⟩
 ·obtain ⟨o,es,ep,ho,r⟩:=hm;exact ⟨o,es,ep,k _ o (sB hL) ho,r⟩
 ·refine (I.ay b u e).gS (fun c v hc q=>k c v ?_ q) (fun _ q=>q) fun _ _ q=>q;rcases hc with z | z
  ·rw [z]; exact Mo b u e
  ·exact Mo c _ z
def Inv.tok (I:Inv X π σ H s) (t:Nat):Inv X π σ H { s with toks:=t }:=I.un (h':=s.heap) (t':=t) Un.refl I.ay
def Inv.kept {t':Nat} (I:Inv X π σ H s) (k:∀ b u,s.heap.get? b=some u->h'.get? b=some u):Inv X π σ H { s with heap:=h',toks:=t' }:=I.un (Un.kept k) (I.ay.kept k)
def Inv.laid {a:Addr} {o:HO} {t':Nat} (I:Inv X π σ H s) (k:∀ b u,s.heap.get? b=some u->h'.get? b=some u) (hp:s.heap.objs.size<=a) (new:bG X.prog X.w (upd H a o) h' a o) :
  Inv X π σ (upd H a o) { s with heap:=h',toks:=t' }:=I.un (Un.laid k hp (I.ay.fresh hp)) (I.ay.laid k hp new)
def Inv.write {x e:Addr} {o:HO} {t':Nat} (I:Inv X π σ H s) (mu:sG (H x)) (he:e=x\/H e=some (.own x)) (k:∀ b u,b≠e->s.heap.get? b=some u->h'.get? b=some u) (rA:∃ u,h'.get? e=some u)
  (new:bG X.prog X.w (upd H x o) h' x o):Inv X π σ (upd H x o) { s with heap:=h',toks:=t' }:=I.un (Un.write mu he k rA) (I.ay.write mu he k rA new)
def Inv.tL {π':List (Addr×Obj)} (I:Inv X π σ H s) (h:∀ p∈π',s.heap.get? p.1=some p.2/\H p.1=none/\p.1≠X.env.locals/\p.1 ∉ X.fs/\∀ v,p.2.data≠.cell v):Inv X π' σ H s :=
 ⟨I.ok,I.os,I.bare,I.base,I.loc,I.cell,I.free,I.fB,fun p hp=>(Uf.mp hp).elim (fun z=>I.pin p (Fr _ z)) (h p),I.ay,I.len⟩
def AK {N:List Str} (hN:N.Nodup) {i j:Nat} {x:Str} (a:N[i]?=some x) (b:N[j]?=some x):i=j:=by
 obtain ⟨h1,e1⟩:=sw.mp a;obtain ⟨h2,e2⟩:=sw.mp b;exact (List.getElem_inj hN).mp (e1.trans e2.symm)
def F6 {M:Model} {A:Around} {E:Value->Shared->Prop} {i:Nat} {x:Str} {v:V} {u:Value} {Q:Unit->Shared->Prop} (I:Inv X π σ H s) (hN:X.N.Nodup) (hi:X.N[i]?=some x) (hx:Loc X.env.scope x) (r:RelV v u)
  (h:∀ s',Inv X π (σ.set i (some v)) H s'->(∃ a,Heap.SameBut a s.heap s'.heap/\(a=X.env.locals\/X.env.cells.lookup x=some a))->Q () s') (hf:X.fn x=true\/X.env.scope.names.lookup x=some .local:=by first | exact .inl rfl | exact .inr rfl | assumption):wpAny M A (storeName X.env x u) Q E s:=by
 obtain ⟨m,hn,hl⟩:=id I.loc;have u0:(X.env.scope.kind == .class || (X.env.scope.kind == .module && X.env.locals != X.env.globals))=false:=by rw [I.ok.kind]; rfl
 have LM:i < σ.length:=by rw [I.len]; exact (sw.mp hi).1
 have jF:=I.jF;have tracked:∀ {a:Addr} {h':Heap},(∃ o,s.heap.get? a=some o/\H a=none)->Heap.SameBut a s.heap h'->cj X.prog X.w H h':=fun {a h'} ha hs b ob e=>by
  obtain ⟨_,_,mZ⟩:=ha;refine (I.ay b ob e).gS (fun c w' hc q=>(hs.2 c ?_).trans q) (fun _ q=>q) fun _ _ q=>q;rintro rfl;rcases hc with rfl | hc
  ·rw [mZ] at e; cases e
  ·rw [mZ] at hc; cases hc
 rcases hx with hk | hk
 ·refine wpAny_storeName_local hk hn (fun h' hn' hs=>?_) u0;obtain ⟨oL,_,_,lU,_⟩:=id hn;refine h _ ⟨I.ok,I.os,I.bare,⟨fun b o e n hb hx=>?_,fun b o e n hb hx=>?_,I.base.free,fun b o e hx=>?_,I.base.gb,I.base.fR,I.base.gm⟩,⟨_,hn',fun j y v' e1 e2 e3=>?_⟩,fun y c e=>?_,I.free,I.fB,fun p hp=>?_,tracked ⟨oL,lU,I.free⟩ hs,by simpa using I.len⟩ ⟨_,hs,.inl rfl⟩
  ·exact (hs.2 b (wS (wn (ul e) I.ok.above))).trans (I.base.keep b o e n hb hx)
  ·obtain ⟨sl,e1⟩:=I.base.slot b o e n hb hx;exact ⟨sl,(hs.2 b (wS (wn (ul e) I.ok.above))).trans e1⟩
  ·obtain ⟨o',e1⟩:=I.base.there b o e hx;exact ⟨o',(hs.2 b (wS (wn (ul e) I.ok.above))).trans e1⟩
  ·by_cases hj:j=i
   ·subst hj;rw [hi] at e1; cases e1;rw [NE LM] at e2;cases e2;exact ⟨u,r,.inl ⟨hk,by simp⟩⟩
   ·rw [No (sB hj)] at e2;obtain ⟨u',r',q⟩:=hl j y v' e1 e2 e3;refine ⟨u',r',?_⟩;rcases q with ⟨k,e⟩ | ⟨k,c,e,z⟩
    ·refine .inl ⟨k,?_⟩;have:y≠x:=fun e=>hj (AK hN e1 (e ▸ hi));simp [this,e]
    ·exact .inr ⟨k,c,e,z.sameBut hs (jF y c e)⟩
  ·obtain ⟨w',z⟩:=I.cell y c e;exact ⟨w',z.sameBut hs (jF y c e)⟩
  ·obtain ⟨e,n,ne,nf,d⟩:=I.pin p hp;exact ⟨(hs.2 p.1 ne).trans e,n,ne,nf,d⟩
 ·have oR:X.fn x=true:=by
   rcases hf with z | z
   ·exact z
   ·rw [z] at hk; cases hk
  obtain ⟨c,hc⟩:=I.ok.has x (.inl hk);obtain ⟨w',z⟩:=I.cell x c hc;refine wpAny_storeName_cell I.ok.kind hk hc z (fun h' hc' hs=>?_);obtain ⟨oc,LO,hocd⟩:=id z;refine h { s with heap:=h' } ⟨I.ok,I.os,I.bare,⟨fun b o e n hb hx=>?_,fun b o e n hb hx=>?_,I.base.free,fun b o e hx=>?_,I.base.gb,I.base.fR,I.base.gm⟩,⟨m,hn.sameBut hs (sB (jF x c hc)),fun j y v' e1 e2 e3=>?_⟩,fun y c' e=>?_,I.free,I.fB,fun p hp=>?_,tracked ⟨oc,LO,I.fB x c hc⟩ hs,by simpa using I.len⟩ ⟨c,hs,.inr hc⟩
  ·exact (hs.2 b (wS (wn (ul e) (I.ok.lE x c oR hc)))).trans (I.base.keep b o e n hb hx)
  ·obtain ⟨sl,e1⟩:=I.base.slot b o e n hb hx;exact ⟨sl,(hs.2 b (wS (wn (ul e) (I.ok.lE x c oR hc)))).trans e1⟩
  ·obtain ⟨o',e1⟩:=I.base.there b o e hx;exact ⟨o',(hs.2 b (wS (wn (ul e) (I.ok.lE x c oR hc)))).trans e1⟩
  ·by_cases hj:j=i
   ·subst hj;rw [hi] at e1; cases e1;rw [NE LM] at e2;cases e2;exact ⟨u,r,.inr ⟨.inl hk,c,hc,hc'⟩⟩
   ·rw [No (sB hj)] at e2;obtain ⟨u',r',q⟩:=hl j y v' e1 e2 e3;refine ⟨u',r',?_⟩;rcases q with q | ⟨k,c',e,z'⟩
    ·exact .inl q
    ·refine .inr ⟨k,c',e,z'.sameBut hs ?_⟩;rintro rfl;exact hj (AK hN e1 (I.ok.inj _ _ _ e hc ▸ hi))
  ·by_cases yl:c'=c
   ·subst yl; exact ⟨_,hc'⟩
   ·obtain ⟨w2,z2⟩:=I.cell y c' e;exact ⟨w2,z2.sameBut hs yl⟩
  ·obtain ⟨e,n,ne,nf,d⟩:=I.pin p hp;refine ⟨(hs.2 p.1 ?_).trans e,n,ne,nf,d⟩;intro q;rw [q,LO] at e;have q':oc=p.2:=Go e;exact d w' (by rw [<- q']; exact hocd)
def BW {M:Model} {A:Around} {E:Value->Shared->Prop} {i:Nat} {x:Str} {v:V} {u:Value} {Q:Unit->Shared->Prop} (I:Inv X π σ H s) (hN:X.N.Nodup) (hi:X.N[i]?=some x) (hx:Loc X.env.scope x) (r:RelV v u)
  (h:∀ s',Inv X π (σ.set i (some v)) H s'->Q () s') (hf:X.fn x=true\/X.env.scope.names.lookup x=some .local:=by first | exact .inl rfl | exact .inr rfl | assumption):wpAny M A (storeName X.env x u) Q E s :=
 F6 I hN hi hx r (fun s' I' _=>h s' I') hf
def Inv.Ho {s':Shared} {ch:List Addr} (I:Inv X π σ H s) (ho:s'.os=s.os) (u:Un (bH X.stack) ch H H' s.heap s'.heap) (ay:cj X.prog X.w H' s'.heap) (hg:AllBare s'.gens)
  (kq:∀ b∈ch,(b∈X.ex\/X.s₀.heap.objs.size<=b)/\b≠X.env.locals/\(∀ x c,X.env.cells.lookup x=some c->c≠b)/\∀ p∈X.pn++π,p.1≠b):Inv X π σ H' s':=by
 obtain ⟨h',g',d',t',o'⟩:=s';have e:o'=s.os:=ho;subst e;exact I.call (g':=g') (t':=t') (d':=d') u ay hg kq
end
abbrev XK:=Value->Option Addr->Hp->Prop
abbrev St:=List (Option V)
abbrev VK:=V->Hp->Prop
abbrev TE:=St->Hp->VK->Prop
abbrev TT:=St->Hp->(Bool->Hp->Prop)->Prop
abbrev TA:=St->Hp->(List V->Hp->Prop)->Prop
structure Ends where
 nx:St->Hp->Prop
 rt:VK
 bk:St->Hp->Prop:=fun _ _=>False
 ct:St->Hp->Prop:=fun _ _=>False
abbrev TS:=Ends->St->Hp->Prop
def EP (X:Cx) (π:List (Addr×Obj)) (σ:St) (Q:VK) (u:Value) (s':Shared):Prop:=∃ v H',Inv X π σ H' s'/\RelV v u/\Q v H'
def TP (X:Cx) (π:List (Addr×Obj)) (σ:St) (Q:Bool->Hp->Prop) (b:Bool) (s':Shared):Prop:=∃ H',Inv X π σ H' s'/\Q b H'
def AP (X:Cx) (π:List (Addr×Obj)) (σ:St) (Q:List V->Hp->Prop) (us:List Value) (s':Shared):Prop:=∃ vs H',Inv X π σ H' s'/\Vals vs us/\Q vs H'
def SP (X:Cx) (π:List (Addr×Obj)) (D:Ends) (f:Flow) (s':Shared):Prop :=
 match f with
 | .next=>∃ σ' H',Inv X π σ' H' s'/\D.nx σ' H'
 | .brk=>∃ σ' H',Inv X π σ' H' s'/\D.bk σ' H'
 | .cont=>∃ σ' H',Inv X π σ' H' s'/\D.ct σ' H'
 | .ret u=>∃ v σ' H',Inv X π σ' H' s'/\RelV v u/\D.rt v H'
def PE (X:Cx) (e:Expr) (t:TE):Prop :=
 ∀ (π:List (Addr×Obj)) (s:Shared) (σ:St) (H:Hp) (Q:VK),Inv X π σ H s->t σ H Q->wpAny (model X.prog X.w) X.A (eval e X.env) (EP X π σ Q) X.xe s
def PT (X:Cx) (e:Expr) (t:TT):Prop :=
 ∀ (π:List (Addr×Obj)) (s:Shared) (σ:St) (H:Hp) (Q:Bool->Hp->Prop),Inv X π σ H s->t σ H Q->wpAny (model X.prog X.w) X.A (isTrue e X.env (eval e X.env)) (TP X π σ Q) X.xe s
def PW (X:Cx) (e:Expr) (t:TT):Prop :=
 ∀ (whole:Sem Value) (π:List (Addr×Obj)) (s:Shared) (σ:St) (H:Hp) (Q:Bool->Hp->Prop),Inv X π σ H s->t σ H Q->wpAny (model X.prog X.w) X.A (isTrue e X.env whole) (TP X π σ Q) X.xe s
def PW.pt {X:Cx} {e:Expr} {t:TT} (h:PW X e t):PT X e t:=h _
def PA (X:Cx) (es:List Expr) (t:TA):Prop :=
 ∀ (pos:Pos) (π:List (Addr×Obj)) (s:Shared) (σ:St) (H:Hp) (Q:List V->Hp->Prop),Inv X π σ H s->t σ H Q->wpAny (model X.prog X.w) X.A (spliced (backTo pos (starEach es X.env))) (AP X π σ Q) X.xe s
def PS (X:Cx) (st:Stmt) (t:TS):Prop :=
 ∀ (π:List (Addr×Obj)) (s:Shared) (σ:St) (H:Hp) (D:Ends),Inv X π σ H s->t D σ H->wpAny (model X.prog X.w) X.A (exec st X.env) (SP X π D) X.xe s
def dH (X:Cx) (st:List Stmt) (t:TS):Prop :=
 ∀ (π:List (Addr×Obj)) (s:Shared) (σ:St) (H:Hp) (D:Ends),Inv X π σ H s->t D σ H->wpAny (model X.prog X.w) X.A (execs st X.env) (SP X π D) X.xe s
def aC {α:Type} {t:Sem α} {Q Q':α->Shared->Prop} {M:Model} {A:Around} {E:Value->Shared->Prop} {s:Shared} (h:wpAny M A t Q E s) (hQ:∀ a s,Q a s->Q' a s):wpAny M A t Q' E s:=IN h hQ fun _ _ x=>x
section
variable {X:Cx}
def Kg (i:Nat):TE:=fun σ H Q=>∃ v,σ[i]?=some (some v)/\Q v H
def tC (v:V):TE:=fun _ H Q=>Q v H
def BO {i:Nat} {x:Str} {pos:Pos} (hN:X.N[i]?=some x) (hv:mC X.env.scope x) (hd:(x == ("__debug__" : Str))=false:=by decide) (bQ:(x == ("__classdict__" : Str))=false:=by decide):PE X (.Name x pos) (Kg i):=by
 intro π s σ H Q I h;obtain ⟨v,e,h⟩:=h;obtain ⟨m,hn,hl⟩:=I.loc;obtain ⟨u,r,l⟩:=hl i x v hN e hv;have fin:EP X π σ Q u s:=⟨v,H,I,r,h⟩;rcases l with ⟨hk,hm⟩ | ⟨hk,c,hc,NO⟩
 ·exact wpAny_Name (wpAny_loadName_local I.ok.kind hk hn hm fin) hd
 ·rcases hk with hk | hk
  ·exact wpAny_Name (wpAny_loadName_cell I.ok.kind hk hc NO fin) hd
  ·exact wpAny_Name (wpAny_loadName_free I.ok.kind hk hc NO fin bQ) hd
def aa9 {i j pos}:PE X (.Constant (.int i) j pos) (tC (.int i)):=fun _ _ _ H _ I h=>wpAny_Constant_int ⟨.int i,H,I.tok _,⟨_,rfl⟩,h⟩
def Xd {b j pos}:PE X (.Constant (.bool b) j pos) (tC (.bl b)):=fun _ _ _ H _ I h=>Constant_bool ⟨.bl b,H,I,rfl,h⟩
def Xs {j pos}:PE X (.Constant .none j pos) (tC .aw):=fun _ _ _ H _ I h=>Constant_none ⟨.aw,H,I,rfl,h⟩
def O5 {x j pos}:PE X (.Constant (.str x) j pos) (tC (.str x)):=fun _ _ _ H _ I h=>Calls.Constant_str ⟨.str x,H,I.tok _,⟨_,rfl⟩,h⟩
def Gl (X:Cx) (x:Str):Prop:=X.env.kindOf x=some .globalImplicit
def jW {E:Value->Shared->Prop} {π:List (Addr×Obj)} {s:Shared} {σ:St} {H:Hp} {x:Str} {u:Value} {pos:Pos} {Q:Value->Shared->Prop} (I:Inv X π σ H s) (hg:Gl X x) (hm:X.mg x=some u) (h:Q u s)
  (hd:(x == ("__debug__" : Str))=false:=by decide):wpAny (model X.prog X.w) X.A (eval (.Name x pos) X.env) Q E s :=
 Calls.Name_function_global I.ok.kind hg (Calls.loadGlobal_global (by rw [I.ok.glob]; exact I.mod.glob.keeps I.bk) hm h) hd
def oz {E:Value->Shared->Prop} {π:List (Addr×Obj)} {s:Shared} {σ:St} {H:Hp} {x:Str} {u:Value} {pos:Pos} {Q:Value->Shared->Prop} (I:Inv X π σ H s) (hg:Gl X x) (hm:X.mg x=none) (hv:bootBuiltins x=some u) (h:Q u s)
  (hn:x ≠ "__name__" := by decide) (hd:(x == ("__debug__" : Str))=false:=by decide):wpAny (model X.prog X.w) X.A (eval (.Name x pos) X.env) Q E s:=by
 obtain ⟨mb,h1,h2⟩:=I.mod.blt;exact Calls.Name_function_global I.ok.kind hg (Calls.loadGlobal_builtin (by rw [I.ok.glob]; exact I.mod.glob.keeps I.bk) hm (by rw [I.ok.blt]; exact h1.keeps I.bk) ((h2 x hn).trans hv) h) hd
def Zv {x:Str} {v:V} {u:Value} {pos:Pos} (hg:Gl X x) (hm:X.mg x=some u) (r:RelV v u) (hd:(x == ("__debug__" : Str))=false:=by decide):PE X (.Name x pos) (tC v) :=
 fun _ _ _ H _ I h=>jW I hg hm ⟨v,H,I,r,h⟩ hd
def R8 {x:Str} {v:V} {u:Value} {pos:Pos} (hg:Gl X x) (hm:X.mg x=none) (hv:bootBuiltins x=some u) (r:RelV v u) (hn:x ≠ "__name__" := by decide) (hd:(x == ("__debug__" : Str))=false:=by decide):PE X (.Name x pos) (tC v) :=
 fun _ _ _ H _ I h=>oz I hg hm hv ⟨v,H,I,r,h⟩ hn hd
def RU (ta tb:TE) (k:Int->Int->Hp->Prop):St->Hp->Prop:=fun σ H=>ta σ H fun x H1=>tb σ H1 fun y H2=>∃ i j,x=.int i/\y=.int j/\k i j H2
variable {a b:Expr} {ta tb:TE} {pos:Pos}
def PC (X:Cx) (op:CmpOp) (a b:Expr) (t:TE):Prop :=
 ∀ (π:List (Addr×Obj)) (s:Shared) (σ:St) (H:Hp) (Q:VK),Inv X π σ H s->t σ H Q ->
  wpAny (model X.prog X.w) X.A (eval a X.env) (fun v s₁=>wpAny (model X.prog X.w) X.A (eval b X.env) (fun u s₂=>wpAny (model X.prog X.w) X.A (compareOp op v u) (EP X π σ Q) X.xe s₂) X.xe s₁) X.xe s
def xv (b:Expr) {op:CmpOp} (h:op≠.In) (h2:op≠.NotIn):behindInMarks op b=false:=by
 have e1:(op == CmpOp.In)=false:=by cases op <;> first | rfl | exact absurd rfl h
 have e2:(op == CmpOp.NotIn)=false:=by cases op <;> first | rfl | exact absurd rfl h2
 cases b <;> simp [behindInMarks,e1,e2]
def qD (p:Int->Int->Bool) (ta tb:TE):TE:=fun σ H Q=>RU ta tb (fun i j H2=>Q (.bl (p i j)) H2) σ H
abbrev tLt:TE->TE->TE:=qD fun i j=>decide (i < j)
abbrev tLe:TE->TE->TE:=qD fun i j=>decide (i<=j)
abbrev tGt:TE->TE->TE:=qD fun i j=>decide (j < i)
abbrev tGe:TE->TE->TE:=qD fun i j=>decide (j<=i)
abbrev acS:TE->TE->TE:=qD fun i j=>decide (i=j)
abbrev acN:TE->TE->TE:=qD fun i j=>!decide (i=j)
def VF (ta:TE):TE:=fun σ H Q=>ta σ H fun x H1=>Q (.bl (decide (x=.aw))) H1
def tB (t:TE):TT:=fun σ H Q=>t σ H fun x H1=>∃ c,x=.bl c/\Q c H1
variable {tA tB':TT} {rest:List Expr}
def Cp (t u:TT):TT:=fun σ H Q=>t σ H fun c H1=>if c=true then u σ H1 Q else Q false H1
def zj (t u:TT):TT:=fun σ H Q=>t σ H fun c H1=>if c=true then Q true H1 else u σ H1 Q
def AO (t:TT):TT:=fun σ H Q=>t σ H fun c H1=>Q (!c) H1
def R4 (ha:PT X a tA):PW X (.BoolOp .And [a] pos) tA:=by
 intro wh π s σ H Q I h;refine isTrue_and (aC (ha π s σ H Q I h) fun c s1 e=>?_);cases c with
 | true=>exact isTrue_and_nil e
 | false=>exact e
def acB (ha:PT X a tA):PW X (.BoolOp .Or [a] pos) tA:=by
 intro wh π s σ H Q I h;refine isTrue_or (aC (ha π s σ H Q I h) fun c s1 e=>?_);cases c with
 | false=>exact isTrue_or_nil e
 | true=>exact e
def abO (ha:PT X a tA) (hb:PW X (.BoolOp .And (b::rest) pos) tB'):PW X (.BoolOp .And (a::b::rest) pos) (Cp tA tB'):=by
 intro wh π s σ H Q I h;refine isTrue_and (aC (ha π s σ H _ I h) fun c s1 ⟨H1,I1,q1⟩=>?_);cases c with
 | true=>exact hb wh π s1 σ H1 Q I1 q1
 | false=>exact ⟨H1,I1,q1⟩
def ZN (ha:PT X a tA) (hb:PW X (.BoolOp .Or (b::rest) pos) tB'):PW X (.BoolOp .Or (a::b::rest) pos) (zj tA tB'):=by
 intro wh π s σ H Q I h;refine isTrue_or (aC (ha π s σ H _ I h) fun c s1 ⟨H1,I1,q1⟩=>?_);cases c with
 | true=>exact ⟨H1,I1,q1⟩
 | false=>exact hb wh π s1 σ H1 Q I1 q1
def Vs (ha:PT X a tA):PT X (.UnaryOp .Not a pos) (AO tA):=by
 intro π s σ H Q I h;exact isTrue_not (ha π s σ H (fun c H1=>Q (!c) H1) I h)
def Rx {op} {t:TE} (h:PE X a t):PE X (.BoolOp op [a] pos) t:=fun π s σ H Q I hw=>BoolOp_one (h π s σ H Q I hw)
def z8 (t:TT) (ta tb:TE):TE:=fun σ H Q=>t σ H fun c H1=>if c=true then ta σ H1 Q else tb σ H1 Q
def Zh {c:Expr} (hc:PT X c tA) (ha:PE X a ta) (hb:PE X b tb):PE X (.IfExp c a b pos) (z8 tA ta tb):=by
 intro π s σ H Q I h;refine wpAny_IfExp (aC (hc π s σ H _ I h) fun d s1 ⟨H1,I1,q1⟩=>?_);cases d with
 | true=>exact ha π s1 σ H1 Q I1 q1
 | false=>exact hb π s1 σ H1 Q I1 q1
end
def aD (K:ν) (H:Hp) (a:Addr) (xs:List V):Prop :=
 Rd H a (.lst xs) \/
  ∃ (o:Obj) (aq:Array Value) (n:Nat),K.lookup a=some o/\o.cls=.type "list" /\ o.dict=none/\o.data=.seq aq n/\aq.size<=sizeLine/\Vals xs aq.toList
def bE (K:ν) (H:Hp) (a:Addr) (xs:List V):Prop :=
 Rd H a (.tup xs) \/
  ∃ (o:Obj) (aq:Array Value) (n:Nat),K.lookup a=some o/\o.cls=.type "tuple" /\ o.data=.seq aq n/\aq.size<=sizeLine/\Vals xs aq.toList
def XY:Value->Option V
 | .none=>some .aw
 | .bool b=>some (.bl b)
 | .int i _=>some (.int i)
 | .str x _=>some (.str x)
 | .bytes b _=>some (.byt b)
 | .float b _=>some (.nO b)
 | .ref a=>some (.ref a)
 | .type n=>some (.ty n)
 | _=>none
def RelV.abs {x:V} {u:Value} (r:RelV x u):XY u=some x:=by
 cases x with
 | aw=>cases r; rfl
 | bl _=>cases r; rfl
 | int _=>obtain ⟨t,rfl⟩:=r; rfl
 | str _=>obtain ⟨t,rfl⟩:=r; rfl
 | byt _=>obtain ⟨t,rfl⟩:=r; rfl
 | nO _=>obtain ⟨t,rfl⟩:=r; rfl
 | ref _=>cases r; rfl
 | ty _=>cases r; rfl
def RelV.inj {x y:V} {u:Value} (r:RelV x u) (q:RelV y u):x=y:=Go (r.abs.symm.trans q.abs)
def Vals.inj:∀ {xs ys:List V} {us:List Value},Vals xs us->Vals ys us->xs=ys
 | _,_,_,.nil,.nil=>rfl
 | _,_,_,.cons r t,.cons r' t'=>by rw [r.inj r',Vals.inj t t']
section
variable {X:Cx} {π:List (Addr×Obj)} {σ:St} {H:Hp} {s:Shared} {a:Addr} {xs ys:List V}
def aD.of {K:ν} (h:H a=some (.lst xs)):aD K H a xs:=.inl (.inl h)
def bE.of {K:ν} (h:H a=some (.tup xs)):bE K H a xs:=.inl (.inl h)
def Inv.list (I:Inv X π σ H s) (h:aD X.K H a xs):∃ aq:List Value,Vals xs aq/\PlainL s.heap a aq.toArray/\xs.length<=sizeLine:=by
 rcases h with h | ⟨o,aq,n,hk,hc,hd,hs,hz,r⟩
 ·obtain ⟨z,aq,n,r,e⟩:=h.ok I.ay;exact ⟨aq,r,⟨_,n,e,rfl,rfl,rfl⟩,z⟩
 ·refine ⟨aq.toList,r,⟨o,n,I.bR a o hk,hc,hd,by simpa using hs⟩,?_⟩;have e:=r.length;simp only [Re] at e;omega
def Inv.tuple (I:Inv X π σ H s) (h:bE X.K H a xs):∃ aq:List Value,Vals xs aq/\IsTup s.heap a aq.toArray/\xs.length<=sizeLine:=by
 rcases h with h | ⟨o,aq,n,hk,hc,hs,hz,r⟩
 ·obtain ⟨z,aq,r,p⟩:=h.ok I.ay;exact ⟨aq,r,p.t,z⟩
 ·refine ⟨aq.toList,r,⟨o,I.bR a o hk,hc,n,by simpa using hs⟩,?_⟩;have e:=r.length;simp only [Re] at e;omega
def Inv.aaN (I:Inv X π σ H s) (h:aD X.K H a xs) (h':aD X.K H a ys):xs=ys:=by
 obtain ⟨aq,r,⟨o,n,e,_,_,d⟩,_⟩:=I.list h;obtain ⟨its',r',⟨o',n',e',_,_,d'⟩,_⟩:=I.list h';rw [e] at e'; cases e';rw [d] at d';injection d' with d1 _;have:aq=its':=by simpa using Ps Array.toList d1
 subst this;exact r.inj r'
end
abbrev Cx.cA (X:Cx) (E:Value->Shared->Prop):Cx:={ X with xe:=E }
abbrev Cx.wg (X:Cx):Cx:=X.cA fun _ _=>False
def Cx.Ok.cA {X:Cx} (ok:X.Ok) (E:Value->Shared->Prop):(X.cA E).Ok :=
 ⟨ok.mod,ok.kind,ok.glob,ok.blt,ok.above,ok.inj,ok.has,ok.lE,ok.hd,ok.frames,ok.dB,ok.tW,ok.bs,ok.gU,ok.mf,ok.mQ,ok.fC,ok.iU⟩
def Cx.Ok.mw {X:Cx} {E:Value->Shared->Prop} (ok:(X.cA E).Ok):X.Ok :=
 ⟨ok.mod,ok.kind,ok.glob,ok.blt,ok.above,ok.inj,ok.has,ok.lE,ok.hd,ok.frames,ok.dB,ok.tW,ok.bs,ok.gU,ok.mf,ok.mQ,ok.fC,ok.iU⟩
section
variable {X:Cx} {π:List (Addr×Obj)} {σ:St} {H:Hp} {s:Shared} {E:Value->Shared->Prop}
def Inv.cA (I:Inv X π σ H s) (E:Value->Shared->Prop):Inv (X.cA E) π σ H s:=⟨I.ok.cA E,I.os,I.bare,I.base,I.loc,I.cell,I.free,I.fB,I.pin,I.ay,I.len⟩
def Inv.mw (I:Inv (X.cA E) π σ H s):Inv X π σ H s:=⟨I.ok.mw,I.os,I.bare,I.base,I.loc,I.cell,I.free,I.fB,I.pin,I.ay,I.len⟩
def SP.mw {D:Ends} {f:Flow} {s':Shared} (h:SP (X.cA E) π D f s'):SP X π D f s':=by
 cases f with
 | next=>obtain ⟨σ',H',I,q⟩:=h; exact ⟨σ',H',I.mw,q⟩
 | brk=>obtain ⟨σ',H',I,q⟩:=h; exact ⟨σ',H',I.mw,q⟩
 | cont=>obtain ⟨σ',H',I,q⟩:=h; exact ⟨σ',H',I.mw,q⟩
 | ret u=>obtain ⟨v,σ',H',I,r,q⟩:=h; exact ⟨v,σ',H',I.mw,r,q⟩
def dH.wg {st:List Stmt} {t:TS} (h:dH X.wg st t):dH X st t:=fun π s σ H D I hw =>
 IN (h π s σ H D (I.cA _) hw) (fun _ _ q=>q.mw) fun _ _ z=>False.elim z
end
section
variable {X:Cx} {st:Stmt} {rest:List Stmt} {t u:TS} {e:Expr} {te:TE} {pos:Pos}
def zE:TS:=fun D σ H=>D.nx σ H
def abM (t u:TS):TS:=fun D σ H=>t { D with nx:=u D } σ H
def N9:dH X [] zE:=fun _ _ σ H _ I h=>_H ⟨σ,H,I,h⟩
def Tz (h1:PS X st t) (h2:dH X rest u):dH X (st::rest) (abM t u):=by
 intro π s σ H D I h;refine wpAny_execs_cons (aC (h1 π s σ H { D with nx:=u D } I h) fun f s1 q=>?_);cases f with
 | next =>
  obtain ⟨σ',H',I',q⟩:=q;exact h2 π s1 σ' H' D I' q
 | ret v=>exact q
 | brk=>exact q
 | cont=>exact q
def aaT (h1:PS X st t):dH X [st] t:=by
 intro π s σ H D I h;refine wpAny_execs_cons (aC (h1 π s σ H D I h) fun f s1 q=>?_);cases f with
 | next=>exact _H q
 | ret v=>exact q
 | brk=>exact q
 | cont=>exact q
def Inv.quiet {π:List (Addr×Obj)} {σ:St} {H:Hp} {s:Shared} (I:Inv X π σ H s):interactive X.env=false:=by simp [interactive,I.ok.kind]
def yV (te:TE):TS:=fun D σ H=>te σ H fun _ H1=>D.nx σ H1
def aaa (he:PE X e te) (hs:swapsWith e none pos.line X.env=pure false:=by rfl):PS X (.Expr e pos) (yV te):=by
 intro π s σ H D I h;exact wpAny_Expr_any (aC (he π s σ H _ I h) fun v s1 ⟨x,H1,I1,r1,q1⟩=>⟨σ,H1,I1,q1⟩) I.quiet hs
def Dg (te:TE):TS:=fun D σ H=>te σ H D.rt
def S3 (he:PE X e te):PS X (.Return (some e) pos) (Dg te):=by
 intro π s σ H D I h;exact wpAny_Return_some (aC (he π s σ H _ I h) fun v s1 ⟨x,H1,I1,r1,q1⟩=>⟨x,σ,H1,I1,r1,q1⟩)
def Ac:TS:=fun D _ H=>D.rt .aw H
def Pr:PS X (.Return none pos) Ac:=fun _ _ σ H _ I h=>wpAny_Return_none ⟨.aw,σ,H,I,rfl,h⟩
def yW (c:TT) (t u:TS):TS:=fun D σ H=>c σ H fun b H1=>if b=true then t D σ H1 else u D σ H1
def Yj {c:Expr} {a b:List Stmt} {tc:TT} (hc:PT X c tc) (ha:dH X a t) (hb:dH X b u):PS X (.If c a b pos) (yW tc t u):=by
 intro π s σ H D I h;refine wpAny_If (aC (hc π s σ H _ I h) fun d s1 ⟨H1,I1,q1⟩=>?_);cases d with
 | true=>exact ha π s1 σ H1 D I1 q1
 | false=>exact hb π s1 σ H1 D I1 q1
def BN:TS:=fun _ _ _=>False
def aa1:PS X st BN:=fun _ _ _ _ _ _ h=>h.elim
end
abbrev TG:=V->St->Hp->(St->Hp->Prop)->Prop
abbrev jD:=List V->St->Hp->(St->Hp->Prop)->Prop
def PG (X:Cx) (target:Expr) (t:TG):Prop :=
 ∀ (π:List (Addr×Obj)) (s:Shared) (σ:St) (H:Hp) (v:V) (u:Value) (Q:St->Hp->Prop),Inv X π σ H s->RelV v u->t v σ H Q ->
  wpAny (model X.prog X.w) X.A (assign target X.env u) (fun _ s'=>∃ σ' H',Inv X π σ' H' s'/\Q σ' H') X.xe s
def sQ (X:Cx) (ts:List Expr) (t:jD):Prop :=
 ∀ (π:List (Addr×Obj)) (s:Shared) (σ:St) (H:Hp) (vs:List V) (us:List Value) (Q:St->Hp->Prop),Inv X π σ H s->Vals vs us->t vs σ H Q ->
  wpAny (model X.prog X.w) X.A (assignInOrder ((assignEach ts X.env).map (·.2)) us) (fun _ s'=>∃ σ' H',Inv X π σ' H' s'/\Q σ' H') X.xe s
abbrev ux:=V->V->V->Hp->(Hp->Prop)->Prop
def vK (X:Cx) (t:ux):Prop :=
 ∀ (π:List (Addr×Obj)) (s:Shared) (σ:St) (H:Hp) (o i v:V) (ov iv u:Value) (Q:Hp->Prop),Inv X π σ H s->RelV o ov->RelV i iv->RelV v u->t o i v H Q ->
  wpAny (model X.prog X.w) X.A (setItem ov iv u) (fun _ s'=>∃ H',Inv X π σ H' s'/\Q H') X.xe s
abbrev TIp:=V->V->Hp->VK->Prop
section
variable {X:Cx} {pos:Pos}
def fE (i:Nat):TG:=fun v σ H Q=>Q (σ.set i (some v)) H
def abf {i:Nat} {x:Str} (hN:X.N.Nodup) (hi:X.N[i]?=some x) (hx:Loc X.env.scope x) (hf:X.fn x=true\/X.env.scope.names.lookup x=some .local:=by first | exact .inl rfl | exact .inr rfl | assumption):PG X (.Name x pos) (fE i):=by
 intro π s σ H v u Q I r h;exact wpAny_assign_Name (BW I hN hi hx r (fun s' I'=>⟨_,H,I',h⟩) hf)
def zu:jD:=fun vs σ H Q=>vs=[]/\Q σ H
def Bt (t:TG) (u:jD):jD:=fun vs σ H Q=>∃ v r,vs=v::r/\t v σ H fun σ' H'=>u r σ' H' Q
def Tn:sQ X [] zu:=by
 intro π s σ H vs us Q I r h;obtain ⟨e,h⟩:=h;subst e;cases r;exact assignInOrder_nil ⟨σ,H,I,h⟩
def ZA {e:Expr} {es:List Expr} {t:TG} {u:jD} (h1:PG X e t) (h2:sQ X es u)
  (hs:(assignEach (e::es) X.env).map (·.2)=assign e X.env::(assignEach es X.env).map (·.2):=by rfl):sQ X (e::es) (Bt t u):=by
 intro π s σ H vs us Q I r h;obtain ⟨v,vr,e1,h⟩:=h;subst e1;cases r with
 | cons r rr =>
  rw [hs];refine assignInOrder_cons (aC (h1 π s σ H _ _ _ I r h) fun _ s1 ⟨σ1,H1,I1,q1⟩=>?_);exact h2 π s1 σ1 H1 _ _ Q I1 rr q1
def C1 (K:ν) (n:Nat) (t:jD):TG:=fun v σ H Q=>∃ a xs,v=.ref a/\bE K H a xs/\xs.length=n/\t xs σ H Q
def SW {es:List Expr} {k:Nat} {t:jD} {n:Nat} (hc:X.calm=true) (h:sQ X es t)
  (hn:(assignEach es X.env).length=n:=by rfl) (aM:(assignEach es X.env).findIdx? (·.1)=none:=by rfl):PG X (.Tuple es k pos) (C1 X.K n t):=by
 intro π s σ H v u Q I r hw;obtain ⟨a,xs,e1,hq,hl,hw⟩:=hw;subst e1;cases r;obtain ⟨aq,rv,ht,hz⟩:=I.tuple hq;refine assign_Tuple_tuple (I.ok.hd hc) ht (by simp [hn,<- hl,rv.length]) aM fun h' hx=>?_;have I1:Inv X π σ H { s with heap:=h' }:=I.kept (t':=s.toks) fun b o e=>hx b o (wS (ul e)) e;exact h π _ σ H xs _ Q I1 (by simpa using rv) hw
def z7 (to ti:TE) (t:ux):TG:=fun v σ H Q=>to σ H fun o H1=>ti σ H1 fun i H2=>t o i v H2 fun H3=>Q σ H3
def Oj {o i:Expr} {to ti:TE} {t:ux} (ho:PE X o to) (hi:PE X i ti) (hs:vK X t)
  (ha:∀ v,assign (.Subscript o i pos) X.env v=(do
   let ov <- holding [v] (eval o X.env)
   let iv <- holding [v,ov] (eval i X.env)
   standAt pos
   holding [v,ov,iv] (setItem ov iv v)
   release [v,ov,iv] []):=by intro _; rfl):PG X (.Subscript o i pos) (z7 to ti t):=by
 intro π s σ H v u Q I r h;rw [ha];refine lm (FS (aC (ho π s σ H _ I h) fun ov s1 ⟨x,H1,I1,r1,q1⟩=>?_));refine lm (FS (aC (hi π s1 σ H1 _ I1 q1) fun iv s2 ⟨y,H2,I2,r2,q2⟩=>?_));refine lm (_Y (lm (FS (aC (hs π s2 σ H2 x y v ov iv u _ I2 r1 r2 r q2) fun _ s3 ⟨H3,I3,q3⟩=>?_))));exact wpAny_release ⟨σ,H3,I3,q3⟩
def mL (te:TE) (g:TG):TS:=fun D σ H=>te σ H fun x H1=>g x σ H1 D.nx
def UK {tg e:Expr} {te:TE} {g:TG} (he:PE X e te) (hg:PG X tg g) (hs:swapsWithSole [tg] e pos.line X.env=pure false:=by rfl) (hw:swappedStores [tg] e X.env=pure none:=by rfl)
  (h1:(assignEach [tg] X.env).map (·.2)=[assign tg X.env]:=by rfl):PS X (.Assign [tg] e pos) (mL te g):=by
 intro π s σ H D I h;refine wpAny_Assign_stores (aC (he π s σ H _ I h) fun v s1 ⟨x,H1,I1,r1,q1⟩=>?_) hs hw;rw [h1];exact aC (hg π s1 σ H1 x v _ I1 r1 q1) fun _ s2 q=>q
def Sl {i:Nat} {x:Str} {e:Expr} {te:TE} {pos':Pos} (hN:X.N.Nodup) (hi:X.N[i]?=some x) (hx:Loc X.env.scope x) (he:PE X e te) (hs:swapsWith e (some (.Name x pos')) pos.line X.env=pure false:=by rfl) (hf:X.fn x=true\/X.env.scope.names.lookup x=some .local:=by first | exact .inl rfl | exact .inr rfl | assumption) :
  PS X (.Assign [.Name x pos'] e pos) (mL te (fE i)):=by
 intro π s σ H D I h;refine wpAny_Assign_Name (aC (he π s σ H _ I h) fun v s1 ⟨y,H1,I1,r1,q1⟩=>?_) hs;exact BW I1 hN hi hx r1 (fun s2 I2=>⟨_,H1,I2,q1⟩) hf
end
section
variable {X:Cx} {pos:Pos}
def JA (c:TT) (tb:TS):TS:=fun D σ H=>∃ W:Nat->St->Hp->Prop,(∃ m,W m σ H)/\∀ m σ H,W m σ H ->
 c σ H fun b H1=>if b=true then ∃ N:St->Hp->Prop,(∀ σ' H',N σ' H'->∃ m',m' < m/\W m' σ' H')/\tb { D with nx:=N,ct:=N,bk:=D.nx } σ H1 else D.nx σ H1
def Oz {c:Expr} {body:List Stmt} {tc:TT} {tb:TS} (hp:PassesOwn (model X.prog X.w) X.A X.env X.xe) (hc:PT X c tc) (hb:dH X body tb):PS X (.While c body [] pos) (JA tc tb):=by
 intro π s σ H D I h;obtain ⟨W,⟨m0,w0⟩,turn⟩:=h;refine wpAny_While (codeAny_whileLoop (fun n s'=>∃ σ' H',Inv X π σ' H' s'/\W n σ' H') ?_ m0 ⟨σ,H,I,w0⟩);rintro n s1 ⟨σ1,H1,I1,w1⟩;refine UF hp (aC (hc π s1 σ1 H1 _ I1 (turn n σ1 H1 w1)) fun b s2 ⟨H2,I2,q2⟩=>?_);cases b with
 | true =>
  obtain ⟨N,hN,q2⟩:=q2;rw [AC rfl];refine UF hp (aC (hb π s2 σ1 H2 _ I2 q2) fun f s3 q3=>?_);cases f with
  | next =>
   obtain ⟨σ3,H3,I3,n3⟩:=q3;obtain ⟨m',hm,w3⟩:=hN σ3 H3 n3;exact ⟨m',hm,σ3,H3,I3,w3⟩
  | cont =>
   obtain ⟨σ3,H3,I3,n3⟩:=q3;obtain ⟨m',hm,w3⟩:=hN σ3 H3 n3;exact ⟨m',hm,σ3,H3,I3,w3⟩
  | brk=>exact q3
  | ret v=>exact q3
 | false =>
  rw [xL wf];exact _H ⟨σ1,H2,I2,q2⟩
end
structure It where
 go:Nat->Hp->Prop
 mM:Nat->Hp->V->Hp->Prop
 stop:Nat->Hp->Prop
def lG (X:Cx) (π:List (Addr×Obj)) (H:Hp) (b:Addr):Prop :=
 H b=none/\b≠X.env.locals/\b ∉ X.fs/\(b∈X.ex\/X.s₀.heap.objs.size<=b)/\(∀ x c,X.env.cells.lookup x=some c->c≠b)/\∀ p∈X.pn++π,p.1≠b
def Inv.zx {X:Cx} {π:List (Addr×Obj)} {σ:St} {H H':Hp} {s:Shared} {b:Addr} (I:Inv X π σ H s) (hb:s.heap.objs.size<=b) (hn:H' b=none):lG X π H' b:=by
 refine ⟨hn,Ja6 (wn I.lt hb),I.FX hb,.inr (u8 I.sz hb),fun x c e z=>?_,fun p hp z=>?_⟩
 ·obtain ⟨v,q⟩:=I.cell x c e;exact absurd (wn q.lt (by rw [z]; exact hb)) (Ix _)
 ·exact absurd (wn (ul (I.pin p hp).1) (by rw [z]; exact hb)) (Ix _)
structure Turn (P:Program) (w:World) (K:ν) (tg:Expr) (J:It) (fp:List Addr) (it:Addr) (tn:Nat->Heap->Prop):Prop where
 mem:it∈fp
 obj:∀ i h,tn i h->∀ b∈fp,∃ o,h.get? b=some o/\∀ v,o.data≠.cell v
 keep:∀ i h h',tn i h->(∀ b∈fp,∀ o,h.get? b=some o->h'.get? b=some o)->tn i h'
 item:∀ (X:Cx),X.prog=P->X.w=w->X.K=K->X.calm=true->∀ (i:Nat) (π:List (Addr×Obj)) (s:Shared) (σ:St) (H:Hp) (E:Value->Shared->Prop),Inv X π σ H s->(∀ b∈fp,lG X π H b)->tn i s.heap->J.go i H ->
  wpAny (model P w) X.A (pyNext (.ref it)) (fun r s1=>∃ u,r=some u /\
   wpAny (model P w) X.A (letOwnedTupleGo tg (.ref it) u) (fun _ s2=>∃ x H',Inv X π σ H' s2/\RelV x u/\J.mM i H x H'/\tn (i+1) s2.heap/\∀ b∈fp,H' b=none) E s1) E s
 done:∀ (X:Cx),X.prog=P->X.w=w->X.K=K->X.calm=true->∀ (i:Nat) (π:List (Addr×Obj)) (s:Shared) (σ:St) (H:Hp) (E:Value->Shared->Prop),Inv X π σ H s->(∀ b∈fp,lG X π H b)->tn i s.heap->J.stop i H ->
  wpAny (model P w) X.A (pyNext (.ref it)) (fun r s1=>r=none/\Inv X π σ H s1) E s
 self:∀ (A:Around) (i:Nat) (s:Shared) (Q:Value->Shared->Prop) (E:Value->Shared->Prop),tn i s.heap->Q (.ref it) s->wpAny (model P w) A (pyIter (.ref it)) Q E s
abbrev TI:=St->Hp->(It->Hp->Prop)->Prop
def F8 (X:Cx) (π:List (Addr×Obj)) (σ:St) (tg:Expr) (R:It->Hp->Prop) (DA:Value) (s2:Shared):Prop :=
 ∃ (it:Addr) (fp:List Addr) (tn:Nat->Heap->Prop) (J:It) (H':Hp),DA=.ref it/\Inv X π σ H' s2/\Turn X.prog X.w X.K tg J fp it tn/\tn 0 s2.heap/\(∀ b∈fp,lG X π H' b)/\R J H'
def PI (X:Cx) (tg iter:Expr) (wi:TI):Prop :=
 ∀ (π:List (Addr×Obj)) (s:Shared) (σ:St) (H:Hp) (R:It->Hp->Prop),Inv X π σ H s->wi σ H R ->
  wpAny (model X.prog X.w) X.A (eval iter X.env) (fun v s1=>wpAny (model X.prog X.w) X.A (pyIter v) (F8 X π σ tg R) X.xe s1) X.xe s
def AN {M:Model} {A:Around} {E:Value->Shared->Prop} {s:Shared} {tg:Expr} {it:Addr} {u:Value} {o:Obj} {n:String} {vs:Array Value} {Q:Unit->Shared->Prop} (ho:s.heap.get? it=some o) (hc:o.cls=.type n) (hd:o.data=.fields vs)
  (hn:["enumerate","zip","dict_itemiterator","dict_reverseitemiterator","odict_iterator","itertools.zip_longest","itertools.pairwise"].contains n=false) (hQ:Q () s):wpAny M A (letOwnedTupleGo tg (.ref it) u) Q E s:=by
 unfold letOwnedTupleGo;cases tg <;> first
  | exact pi hQ
  | (cases u <;> first
    | exact pi hQ
    | (refine lm (wpAny_load ho ?_)
       rw [hc,hd];show wpAny M A (if (["enumerate","zip","dict_itemiterator","dict_reverseitemiterator","odict_iterator","itertools.zip_longest","itertools.pairwise"].contains n && vs[0]? == some (rawInt _))=true then _ else _) Q E s;rw [xL (by intro h; rw [hn,Jaa] at h; cases h)];exact pi hQ))
def lF (K:ν) (a:Addr):It :=
 ⟨fun i H=>∃ xs x,aD K H a xs/\xs[i]?=some x,fun i H x H'=>H'=H/\∀ xs,aD K H a xs->xs[i]?=some x,fun i H=>∃ xs,aD K H a xs/\xs.length<=i⟩
def oK (lo:Int) (n:Nat):It:=⟨fun i _=>i < n,fun i H x H'=>H'=H/\x=.int (lo+i),fun i _=>n<=i⟩
def aaK {P:Program} {w:World} {K:ν} {tg:Expr} (a it:Addr):Turn P w K tg (lF K a) [it] it (fun i h=>h.IsListIter it a i) where
 mem:=by simp
 obj:=fun i h st b hb=>by
  have e:b=it:=by simpa using hb
  subst e;obtain ⟨o,e,c,d⟩:=st;exact ⟨o,e,fun v z=>by rw [d] at z; cases z⟩
 keep:=fun i h h' st k=>st.at fun o e=>k it (by simp) o e
 item:=by
  intro X hP hw hK hc i π s σ H E I hf st hg;subst hP hw hK;obtain ⟨xs,x,hq,hx⟩:=hg;obtain ⟨aq,rv,p,hz⟩:=I.list hq;obtain ⟨u,hu,ru⟩:=rv.get hx;obtain ⟨f0,f1,f2,f3,f4,f5⟩:=hf it (by simp);refine wpAny_pyNext_list_item st p.isList (x:=u) (by simpa using hu) fun h' st' sb=>?_;have I1:Inv X π σ H { s with heap:=h' }:=I.turned (t':=s.toks) (fun b o hb e=>(sb.2 b hb).trans e) f0 f1 f3 f4 f5;obtain ⟨o,e,c,d⟩:=id st';exact ⟨u,rfl,AN (s:={ s with heap:=h' }) e c d (by decide) ⟨x,H,I1,ru,⟨rfl,fun ys hy=>by rw [I.aaN hy hq]; exact hx⟩,st',fun b hb=>(hf b hb).1⟩⟩
 done:=by
  intro X hP hw hK hc i π s σ H E I hf st hg;subst hP hw hK;obtain ⟨xs,hq,hx⟩:=hg;obtain ⟨aq,rv,p,hz⟩:=I.list hq;obtain ⟨f0,f1,f2,f3,f4,f5⟩:=hf it (by simp);have hl:=rv.length;exact wpAny_pyNext_list_end (I.ok.hd hc) st p.isList (by simp; omega) fun h' eb=>⟨rfl,I.turned (t':=s.toks) (fun b o hb e=>eb b o hb e) f0 f1 f3 f4 f5⟩
 self:=fun _ _ _ _ _ st h=>wpAny_pyIter_listiter st h
def RI {P:Program} {w:World} {K:ν} {tg:Expr} (it:Addr) (lo:Int) (n:Nat):Turn P w K tg (oK lo n) [it] it (fun i h=>IsRangeIter h it (lo+(i:Nat) * 1) ((n:Int) - (i:Nat)) 1) where
 mem:=by simp
 obj:=fun i h st b hb=>by
  have e:b=it:=by simpa using hb
  subst e;exact ⟨_,st,fun v z=>by
   have z':Data.fields _=Data.cell v:=z;cases z'⟩
 keep:=fun i h h' st k=>k it (by simp) _ st
 item:=by
  intro X hP hw hK hc i π s σ H E I hf st hg;subst hP hw hK;obtain ⟨f0,f1,f2,f3,f4,f5⟩:=hf it (by simp);have W:=Walks.range (prog:=X.prog) (w:=X.w) (I.ok.hd hc) it lo 1 n;refine W.item i s _ _ hg st fun v h' tk hv st' kk=>?_;obtain ⟨t,rfl⟩:=hv;have I1:Inv X π σ H { s with heap:=h',toks:=tk }:=I.turned (fun b o hb e=>kk b o (by simpa using hb) e) f0 f1 f3 f4 f5;refine ⟨_,rfl,AN (s:={ s with heap:=h',toks:=tk }) (n := "range_iterator") st' rfl rfl (by decide) ⟨.int (lo+i),H,I1,⟨t,?_⟩,⟨rfl,rfl⟩,st',fun b hb=>(hf b hb).1⟩⟩;rw [Int.mul_one]
 done:=by
  intro X hP hw hK hc i π s σ H E I hf st hg;subst hP hw hK;obtain ⟨f0,f1,f2,f3,f4,f5⟩:=hf it (by simp);exact wpAny_pyNext_range_end (I.ok.hd hc) st (by have:n<=i:=hg; omega) fun h' eb=>⟨rfl,I.turned (t':=s.toks) (fun b o hb e=>eb b o hb e) f0 f1 f3 f4 f5⟩
 self:=fun _ _ _ _ _ st h=>wpAny_pyIter_rangeiter st h
section
variable {X:Cx} {tg:Expr}
def Yw (K:ν) (tl:TE):TI:=fun σ H R=>tl σ H fun x H1=>∃ a,x=.ref a/\(∃ xs,aD K H1 a xs)/\R (lF K a) H1
def Xe {l:Expr} {tl:TE} (hl:PE X l tl):PI X tg l (Yw X.K tl):=by
 intro π s σ H R I h;refine aC (hl π s σ H _ I h) fun v s1 ⟨x,H1,I1,r1,q1⟩=>?_;obtain ⟨a,e,⟨xs,hq⟩,q⟩:=q1;subst e;cases r1;obtain ⟨aq,rv,p,hz⟩:=I1.list hq;refine wpAny_pyIter_list p.isList ?_;refine ⟨s1.heap.objs.size,[s1.heap.objs.size],_,_,H1,rfl,I1.kept (t':=s1.toks) fun b o e=>lv _ e,aaK a _,⟨_,ut _ rfl,rfl,rfl⟩,fun b hb=>?_,q⟩;have e:b=s1.heap.objs.size:=by simpa using hb
 subst e;exact I1.zx (sK _) (I1.ay.fresh (sK _))
def aaR {π:List (Addr×Obj)} {σ:St} {H:Hp} {s:Shared} {R:It->Hp->Prop} {E:Value->Shared->Prop} {lo hi:Int} {t u v:Tok} {tk:Nat} (I:Inv X π σ H s) (h1:-(2 ^ 62)<=lo) (h2:lo < 2 ^ 62) (h3:-(2 ^ 62)<=hi) (h4:hi < 2 ^ 62)
  (q:R (oK lo (hi - lo).toNat) H):wpAny (model X.prog X.w) X.A (pyIter (.ref s.heap.objs.size)) (F8 X π σ tg R) E { s with heap:=s.heap.push { cls:=.type "range",data:=.fields #[.int lo t,.int hi u,.int 1 v] },toks:=tk }:=by
 refine wpAny_pyIter_range (IsRange.new ..) (small_one h1 h2 h3 h4) ?_;have I1:Inv X π σ H { s with heap:=s.heap.push { cls:=.type "range",data:=.fields #[.int lo t,.int hi u,.int 1 v] },toks:=tk }:=I.kept fun b o e=>lv _ e;refine ⟨(s.heap.push { cls:=.type "range",data:=.fields #[.int lo t,.int hi u,.int 1 v] }).objs.size,[(s.heap.push { cls:=.type "range",data:=.fields #[.int lo t,.int hi u,.int 1 v] }).objs.size],_,_,H,rfl,
  I1.kept (t':=tk) fun b o e=>lv _ e,RI _ lo (hi - lo).toNat,?_,fun b hb=>?_,q⟩
 ·have e1:lo+((0:Nat):Int) * 1=lo:=by simp
  have e2:(((hi - lo).toNat:Nat):Int) - ((0:Nat):Int)=Builtin.Range.rangeSize lo hi 1:=by rw [rangeSize_one]; split <;> omega
  show IsRangeIter _ _ (lo+((0:Nat):Int) * 1) ((((hi - lo).toNat:Nat):Int) - ((0:Nat):Int)) 1;rw [e1,e2];exact ut _ rfl
 ·have e:b=(s.heap.push { cls:=.type "range",data:=.fields #[.int lo t,.int hi u,.int 1 v] }).objs.size:=by simpa using hb
  subst e;exact I1.zx (sK _) (I1.ay.fresh (sK _))
def aaI (ta:TA):TI:=fun σ H R=>ta σ H fun vs H1=>∃ j:Int,vs=[.int j]/\-(2 ^ 62)<=j/\j < 2 ^ 62/\R (oK 0 j.toNat) H1
def T2 {a:Expr} {ta:TA} {p pos:Pos} (hg:Gl X "range") (hm:X.mg "range" = none) (ha:PA X [a] ta) (hs:starEach [a] X.env=[(false,eval a X.env)]:=by rfl):PI X tg (.Call (.Name "range" p) [a] [] pos) (aaI ta):=by
 intro π s σ H R I h;refine Call_ (oz I hg hm boot_range (SZ (aC (ha pos π s σ H _ I h) fun us s1 ⟨vs,H1,I1,r1,q1⟩=>?_) hs rfl));obtain ⟨j,e,q1,q2,q⟩:=q1;subst e;cases r1 with
 | cons r rr =>
  cases rr;obtain ⟨t,rfl⟩:=r;exact call_range_1 (aaR I1 (by omega) (by omega) q1 q2 (by simpa using q))
def BV (wi:TI) (g:TG) (tb:TS):TS:=fun D σ H=>wi σ H fun J H1=>∃ W:Nat->Nat->St->Hp->Prop,(∃ m,W 0 m σ H1)/\∀ i m σ H,W i m σ H ->
 (J.stop i H/\D.nx σ H)\/(J.go i H/\∃ N:St->Hp->Prop,(∀ σ' H',N σ' H'->∃ m',m' < m/\W (i+1) m' σ' H')/\∀ x H',J.mM i H x H'->g x σ H' fun σ2 H2=>tb { D with nx:=N,ct:=N,bk:=D.nx } σ2 H2)
def sY (fp:List Addr) (h:Heap):List (Addr×Obj):=fp.filterMap fun b=>(h.get? b).map fun o=>(b,o)
def wR {fp:List Addr} {h:Heap} {b:Addr} {o:Obj} (hb:b∈fp) (e:h.get? b=some o):(b,o)∈sY fp h:=_J.mpr ⟨b,hb,by rw [e]; rfl⟩
def YM {fp:List Addr} {h:Heap} {p:Addr×Obj} (hp:p∈sY fp h):p.1∈fp/\h.get? p.1=some p.2:=by
 obtain ⟨b,hb,e⟩:=_J.mp hp;cases q:h.get? b with
 | none=>rw [q] at e; cases e
 | some o =>
  rw [q] at e;have e':(b,o)=p:=Go e;subst e';exact ⟨hb,q⟩
def Inv.pinned {π:List (Addr×Obj)} {σ:St} {H:Hp} {s:Shared} {fp:List Addr} (I:Inv X π σ H s) (hf:∀ b∈fp,lG X π H b) (ho:∀ b∈fp,∃ o,s.heap.get? b=some o/\∀ v,o.data≠.cell v):Inv X (π++sY fp s.heap) σ H s :=
 I.tL fun p hp=>(Uf.mp hp).elim (fun z=>I.pin p (wT _ z)) fun z=>by
  obtain ⟨hb,e⟩:=YM z;obtain ⟨f0,f1,f2,_⟩:=hf p.1 hb;obtain ⟨o,e',d⟩:=ho p.1 hb;rw [e] at e'; cases e';exact ⟨e,f0,f1,f2,d⟩
def Inv.BP {π pl:List (Addr×Obj)} {σ:St} {H:Hp} {s:Shared} (I:Inv X (π++pl) σ H s):Inv X π σ H s:=I.tL fun p hp=>I.pin p (wT _ (Fr _ hp))
def Wj {iter:Expr} {body:List Stmt} {wi:TI} {g:TG} {tb:TS} {pos:Pos} (hp:PassesOwn (model X.prog X.w) X.A X.env X.xe) (hc:X.calm=true) (hi:PI X tg iter wi) (hg:PG X tg g) (hb:dH X body tb)
  (hs:∀ x,foldedSetIterable iter X.env x=pure x:=by intro _; rfl):PS X (.For tg iter body [] pos) (BV wi g tb):=by
 intro π s σ H D I h;refine wpAny_For (aC (hi π s σ H _ I h) fun v s1 h1=>aC h1 fun DA s2 h2=>?_) hs;obtain ⟨it,fp,tn,J,H2,e,I2,T,kx,f2,W,⟨m0,w0⟩,turn⟩:=h2;subst e
 -- what stays true of km iterator's objects through km loop
 have ET:∀ {H':Hp},(∀ b∈fp,H' b=none)->∀ b∈fp,lG X π H' b:=fun hn b hb=>⟨hn b hb,(f2 b hb).2⟩;refine codeAny_forLoop_any (fun n s'=>∃ i σ' H',Inv X π σ' H' s'/\tn i s'.heap/\(∀ b∈fp,H' b=none)/\W i n σ' H') ?_ m0 ⟨0,σ,H2,I2,kx,fun b hb=>(f2 b hb).1,w0⟩;rintro n s3 ⟨i,σ3,H3,I3,NU,yI,w3⟩;rcases turn i n σ3 H3 w3 with ⟨stop,qn⟩ | ⟨go,N,hN,step⟩
 ·refine UF hp (aC (T.done X rfl rfl rfl hc i π s3 σ3 H3 X.xe I3 (ET yI) NU stop) fun r s4 ⟨hr,I4⟩=>?_);subst hr;exact _H ⟨σ3,H3,I4,qn⟩
 ·refine UF hp (aC (T.item X rfl rfl rfl hc i π s3 σ3 H3 X.xe I3 (ET yI) NU go) fun r s4 ⟨u,hr,h4⟩=>?_);subst hr;refine UF hp (aC h4 fun _ s5 ⟨x,H5,I5,r5,y5,rO,yw⟩=>?_);have I5':=I5.pinned (ET yw) (T.obj _ _ rO);refine UF hp (aC (hg _ s5 σ3 H5 x u _ I5' r5 (step x H5 y5)) fun _ s6 ⟨σ6,H6,I6,q6⟩=>?_);refine UF hp (aC (hb _ s6 σ6 H6 _ I6 q6) fun f s7 q7=>?_);have again:∀ {σ7:St} {H7:Hp},Inv X (π++sY fp s5.heap) σ7 H7 s7->N σ7 H7->∃ m,m < n/\∃ i σ' H',Inv X π σ' H' s7/\tn i s7.heap/\(∀ b∈fp,H' b=none)/\W i m σ' H':=fun {σ7 H7} I7 n7=>by
   obtain ⟨m',hm,w7⟩:=hN σ7 H7 n7;refine ⟨m',hm,i+1,σ7,H7,I7.BP,T.keep _ _ _ rO fun b hb o e=>(I7.pin (b,o) (wT _ (wT _ (wR hb e)))).1,fun b hb=>?_,w7⟩;obtain ⟨o,e,d⟩:=T.obj _ _ rO b hb;exact (I7.pin (b,o) (wT _ (wT _ (wR hb e)))).2.1
  cases f with
  | next=>obtain ⟨σ7,H7,I7,n7⟩:=q7; exact again I7 n7
  | cont=>obtain ⟨σ7,H7,I7,n7⟩:=q7; exact again I7 n7
  | brk=>obtain ⟨σ7,H7,I7,q7⟩:=q7; exact ⟨σ7,H7,I7.BP,q7⟩
  | ret v=>obtain ⟨x7,σ7,H7,I7,r7,q7⟩:=q7; exact ⟨x7,σ7,H7,I7.BP,r7,q7⟩
end
def Wn {K:ν} {a:Addr} {xs:List V} {g:TG} {tb:TS} {D:Ends} {σ:St} {H:Hp} (Pv:Nat->St->Hp->Prop) (h0:Pv 0 σ H) (hl:∀ i σ H,i<=xs.length->Pv i σ H->aD K H a xs)
  (hs:∀ i x σ H,xs[i]?=some x->Pv i σ H->g x σ H fun σ2 H2=>tb { D with nx:=Pv (i+1),ct:=Pv (i+1),bk:=D.nx } σ2 H2) (hd:∀ σ H,Pv xs.length σ H->D.nx σ H) :
  ∃ W:Nat->Nat->St->Hp->Prop,(∃ m,W 0 m σ H)/\∀ i m σ H,W i m σ H ->
   ((lF K a).stop i H/\D.nx σ H)\/((lF K a).go i H/\∃ N:St->Hp->Prop,(∀ σ' H',N σ' H'->∃ m',m' < m/\W (i+1) m' σ' H')/\∀ x H',(lF K a).mM i H x H'->g x σ H' fun σ2 H2=>tb { D with nx:=N,ct:=N,bk:=D.nx } σ2 H2):=by
 refine ⟨fun i m σ H=>m=xs.length - i/\i<=xs.length/\Pv i σ H,⟨xs.length,by simp,Cl _,h0⟩,?_⟩;rintro i m σ H ⟨rfl,hi,p⟩;have q:=hl i σ H hi p;by_cases bK:i < xs.length
 ·refine .inr ⟨⟨xs,xs[i],q,by simp [bK]⟩,Pv (i+1),fun σ' H' p'=>⟨xs.length - (i+1),by omega,rfl,bK,p'⟩,fun x H' y=>?_⟩;obtain ⟨e,y⟩:=y;subst e;exact hs i x σ _ (y xs q) p
 ·have e:i=xs.length:=by omega
  subst e;exact .inl ⟨⟨xs,q,sK _⟩,hd σ H p⟩
abbrev R2:=V->V->Hp->VK->Prop
def bc (X:Cx) (f:Value->Value->Sem Value) (r:R2):Prop :=
 ∀ (π:List (Addr×Obj)) (s:Shared) (σ:St) (H:Hp) (x y:V) (v u:Value) (Q:VK),Inv X π σ H s->RelV x v->RelV y u->r x y H Q ->
  wpAny (model X.prog X.w) X.A (f v u) (EP X π σ Q) X.xe s
def uJ (X:Cx) (f:Value->Sem Value) (r:V->Hp->VK->Prop):Prop :=
 ∀ (π:List (Addr×Obj)) (s:Shared) (σ:St) (H:Hp) (x:V) (v:Value) (Q:VK),Inv X π σ H s->RelV x v->r x H Q ->
  wpAny (model X.prog X.w) X.A (f v) (EP X π σ Q) X.xe s
def cT (X:Cx) (f:Value) (r:List V->Hp->VK->Prop):Prop :=
 ∀ (π:List (Addr×Obj)) (s:Shared) (σ:St) (H:Hp) (xs:List V) (us:List Value) (Q:VK),Inv X π σ H s->Vals xs us->r xs H Q ->
  wpAny (model X.prog X.w) X.A (call f us) (EP X π σ Q) X.xe s
def lh (r:R2) (ta tb:TE):TE:=fun σ H Q=>ta σ H fun x H1=>tb σ H1 fun y H2=>r x y H2 Q
def zy (r:V->Hp->VK->Prop) (ta:TE):TE:=fun σ H Q=>ta σ H fun x H1=>r x H1 Q
def rI (C:Int->Int->Prop) (g:Int->Int->V):R2:=fun x y H Q=>∃ i j,x=.int i/\y=.int j/\C i j/\Q (g i j) H
def n8 (g:Int->Int->V):R2:=fun x y H Q=>∃ i j,x=.int i/\y=.int j/\Q (g i j) H
def rU (g:Int->V):V->Hp->VK->Prop:=fun x H Q=>∃ i,x=.int i/\Q (g i) H
section
variable {X:Cx} {a b c:Expr} {ta tb tc:TE} {pos:Pos}
def yP (ha:PE X a ta) (hb:PE X b tb) {π:List (Addr×Obj)} {s:Shared} {σ:St} {H:Hp} {R:V->V->Hp->Prop} (I:Inv X π σ H s)
  (h:ta σ H fun x H1=>tb σ H1 fun y H2=>R x y H2) {Q:Value->Shared->Prop} {f:Value->Value->Sem Value}
  (hf:∀ v u s2 x y H2,Inv X π σ H2 s2->RelV x v->RelV y u->R x y H2->wpAny (model X.prog X.w) X.A (f v u) Q X.xe s2) :
  wpAny (model X.prog X.w) X.A (eval a X.env) (fun v s₁=>wpAny (model X.prog X.w) X.A (eval b X.env) (fun u s₂=>wpAny (model X.prog X.w) X.A (f v u) Q X.xe s₂) X.xe s₁) X.xe s:=by
 refine aC (ha π s σ H _ I h) fun v s1 ⟨x,H1,I1,r1,q1⟩=>?_;refine aC (hb π s1 σ H1 _ I1 q1) fun u s2 ⟨y,H2,I2,r2,q2⟩=>?_;exact hf v u s2 x y H2 I2 r1 r2 q2
def U3 {op:Operator} {r:R2} (ho:bc X (binaryOp op) r) (ha:PE X a ta) (hb:PE X b tb):PE X (.BinOp a op b pos) (lh r ta tb):=by
 intro π s σ H Q I h;exact wpAny_BinOp (yP ha hb I h fun v u s2 x y H2 I2 rx ry q=>ho π s2 σ H2 x y v u Q I2 rx ry q)
def Q6 {op:UnaryOp} {r:V->Hp->VK->Prop} (ho:uJ X (unaryOp op) r) (ha:PE X a ta):PE X (.UnaryOp op a pos) (zy r ta):=by
 intro π s σ H Q I h;exact UnaryOp_ (aC (ha π s σ H _ I h) fun v s1 ⟨x,H1,I1,r1,q1⟩=>ho π s1 σ H1 x v Q I1 r1 q1)
def xM {f:Value->Value->Sem Value} {C:Int->Int->Prop} {g:Int->Int->Int}
  (rule:∀ (i j:Int) (t u:Tok) (s:Shared) (Q:Value->Shared->Prop) (E:Value->Shared->Prop),C i j->Q (.int (g i j) s.toks) { s with toks:=s.toks+1 }->wpAny (model X.prog X.w) X.A (f (.int i t) (.int j u)) Q E s) :
  bc X f (rI C fun i j=>.int (g i j)):=by
 intro π s σ H x y v u Q I rx ry h;obtain ⟨i,j,rfl,rfl,hc,q⟩:=h;obtain ⟨t,rfl⟩:=rx;obtain ⟨t',rfl⟩:=ry;exact rule i j t t' s _ _ hc ⟨.int (g i j),H,I.tok _,⟨_,rfl⟩,q⟩
def Om {f:Value->Value->Sem Value} {g:Int->Int->Int}
  (rule:∀ (i j:Int) (t u:Tok) (s:Shared) (Q:Value->Shared->Prop) (E:Value->Shared->Prop),Q (.int (g i j) s.toks) { s with toks:=s.toks+1 }->wpAny (model X.prog X.w) X.A (f (.int i t) (.int j u)) Q E s) :
  bc X f (n8 fun i j=>.int (g i j)):=by
 intro π s σ H x y v u Q I rx ry h;obtain ⟨i,j,rfl,rfl,q⟩:=h;obtain ⟨t,rfl⟩:=rx;obtain ⟨t',rfl⟩:=ry;exact rule i j t t' s _ _ ⟨.int (g i j),H,I.tok _,⟨_,rfl⟩,q⟩
def C0 {f:Value->Value->Sem Value} {g:Int->Int->Bool}
  (rule:∀ (i j:Int) (t u:Tok) (s:Shared) (Q:Value->Shared->Prop) (E:Value->Shared->Prop),Q (.bool (g i j)) s->wpAny (model X.prog X.w) X.A (f (.int i t) (.int j u)) Q E s) :
  bc X f (n8 fun i j=>.bl (g i j)):=by
 intro π s σ H x y v u Q I rx ry h;obtain ⟨i,j,rfl,rfl,q⟩:=h;obtain ⟨t,rfl⟩:=rx;obtain ⟨t',rfl⟩:=ry;exact rule i j t t' s _ _ ⟨.bl (g i j),H,I,rfl,q⟩
def KJ (i j:Int):Prop:=0 < j/\j < 1073741824
def Jf (i j:Int):Prop:=0<=j/\j<=1000000/\i.natAbs < 2 ^ 64
def w6 (i j:Int):Prop:=(-(2 ^ 64) < i/\i < 2 ^ 64)\/(-(2 ^ 64) < j/\j < 2 ^ 64)
def w6.ok {i j:Int} (h:w6 i j):IntMulOk i j:=by
 rcases h with ⟨h1,h2⟩ | ⟨h1,h2⟩
 ·exact .of_left (intBits_le_64 h1 h2)
 ·exact .of_right (intBits_le_64 h1 h2)
def Xr:bc X (binaryOp .Add) (n8 fun i j=>.int (i+j)):=Om fun _ _ _ _ _ _ _ q=>add_int q
def U5:bc X (binaryOp .Mult) (rI w6 fun i j=>.int (i * j)):=xM fun _ _ _ _ _ _ _ hc q=>mul_int q hc.ok
def abe:bc X (binaryOp .FloorDiv) (rI KJ fun i j=>.int (i / j)):=xM fun i j _ _ _ _ _ hc q=>by
 have h1:(0:Int) < j:=hc.1;have h2:j < 1073741824:=hc.2;exact floordiv_int (by omega) (by rw [Int.fdiv_eq_ediv_of_nonneg i (by omega)]; exact q) (.inl (PyProof.noPylong_small (by omega)))
def acj:bc X (binaryOp .Mod) (rI (fun _ j=>0 < j) fun i j=>.int (i % j)):=xM fun i j _ _ _ _ _ hc q=>by
 have h1:(0:Int) < j:=hc;exact mod_int' (by omega) (by rw [Int.fmod_eq_emod_of_nonneg i (by omega)]; exact q)
def T3:bc X (binaryOp .Pow) (rI Jf fun i j=>.int (i ^ j.toNat)):=xM fun _ _ _ _ _ _ _ hc q=>pow_int_small hc.1 hc.2.1 hc.2.2 q
def V5 {f:Value->Sem Value} {g:Int->Int}
  (rule:∀ (i:Int) (t:Tok) (s:Shared) (Q:Value->Shared->Prop) (E:Value->Shared->Prop),Q (.int (g i) s.toks) { s with toks:=s.toks+1 }->wpAny (model X.prog X.w) X.A (f (.int i t)) Q E s) :
  uJ X f (rU fun i=>.int (g i)):=by
 intro π s σ H x v Q I rx h;obtain ⟨i,rfl,q⟩:=h;obtain ⟨t,rfl⟩:=rx;exact rule i t s _ _ ⟨.int (g i),H,I.tok _,⟨_,rfl⟩,q⟩
def ZU:uJ X (unaryOp .USub) (rU fun i=>.int (-i)):=V5 fun _ _ _ _ _ q=>neg_int q
end
def wD:V->V->Bool
 | .aw,.aw=>true | .aw,.int _=>true | .int _,.aw=>true | .aw,.bl _=>true | .bl _,.aw=>true | .aw,.str _=>true | .str _,.aw=>true
 | .int _,.int _=>true | .bl _,.bl _=>true | .str _,.str _=>true | .byt _,.byt _=>true
 | .int _,.str _=>true | .str _,.int _=>true | .bl _,.str _=>true | .str _,.bl _=>true
 | _,_=>false
def Oo:R2:=fun x y H Q=>wD x y=true/\Q (.bl (decide (x=y))) H
def Z1:R2:=fun x y H Q=>wD x y=true/\Q (.bl (!decide (x=y))) H
def Kt {i j:Int}:decide (V.int i=V.int j)=(i == j):=by
 rw [UV];simp
def Lp {i j:Bool}:decide (V.bl i=V.bl j)=(i == j):=by
 rw [UV];simp
def HW {i j:Str}:decide (V.str i=V.str j)=(i == j):=by
 rw [UV];simp
def HI {i j:Array UInt8}:decide (V.byt i=V.byt j)=(i.toList == j.toList):=by
 rw [UV];cases i;cases j;simp
section
variable {X:Cx} {a b c:Expr} {ta tb tc:TE} {pos:Pos}
def cH {π:List (Addr×Obj)} {σ:St} {H:Hp} {s:Shared} {Q:VK} {k k':Bool} (I:Inv X π σ H s) (q:Q (.bl k) H) (e:k=k'):EP X π σ Q (.bool k') s:=by
 subst e;exact ⟨.bl k,H,I,rfl,q⟩
def Z0:bc X (compareOp .Eq) Oo:=by
 intro π s σ H x y v u Q I rx ry h;obtain ⟨hs,q⟩:=h;cases x with
 | aw =>
  cases rx;cases y with
  | aw=>cases ry; exact PySem.EqNone.eq_none_none (cH I q (by simp))
  | bl j=>cases ry; exact PySem.EqNone.eq_none_bool (cH I q (by simp))
  | int j=>obtain ⟨t',rfl⟩:=ry; exact PySem.EqNone.eq_none_int (cH I q (by simp))
  | str j=>obtain ⟨t',rfl⟩:=ry; exact PySem.EqNone.eq_none_str (cH I q (by simp))
  | _=>exact absurd (show false=true from hs) wf
 | bl i =>
  cases rx;cases y with
  | aw=>cases ry; exact PySem.EqNone.eq_bool_none (cH I q (by simp))
  | bl j=>cases ry; exact eq_bool (cH I q Lp)
  | str j=>obtain ⟨t',rfl⟩:=ry; exact PySem.EqMixed.eq_bool_str (cH I q (by simp))
  | _=>exact absurd (show false=true from hs) wf
 | int i =>
  obtain ⟨t,rfl⟩:=rx;cases y with
  | aw=>cases ry; exact PySem.EqNone.eq_int_none (cH I q (by simp))
  | int j=>obtain ⟨t',rfl⟩:=ry; exact eq_int (cH I q Kt)
  | str j=>obtain ⟨t',rfl⟩:=ry; exact PySem.EqMixed.eq_int_str (cH I q (by simp))
  | _=>exact absurd (show false=true from hs) wf
 | str i =>
  obtain ⟨t,rfl⟩:=rx;cases y with
  | aw=>cases ry; exact PySem.EqNone.eq_str_none (cH I q (by simp))
  | bl j=>cases ry; exact PySem.EqMixed.eq_str_bool (cH I q (by simp))
  | int j=>obtain ⟨t',rfl⟩:=ry; exact PySem.EqMixed.eq_str_int (cH I q (by simp))
  | str j=>obtain ⟨t',rfl⟩:=ry; exact eq_str (cH I q HW)
  | _=>exact absurd (show false=true from hs) wf
 | byt i =>
  obtain ⟨t,rfl⟩:=rx;cases y with
  | byt j=>obtain ⟨t',rfl⟩:=ry; exact PySem.W.eq_bytes (cH I q HI)
  | _=>exact absurd (show false=true from hs) wf
 | _=>cases y <;> exact absurd (show false=true from hs) wf
def VM:bc X (compareOp .NotEq) Z1:=by
 intro π s σ H x y v u Q I rx ry h;obtain ⟨hs,q⟩:=h;cases x with
 | aw =>
  cases rx;cases y with
  | aw=>cases ry; exact PySem.EqNone.ne_none_none (cH I q (by simp))
  | bl j=>cases ry; exact PySem.EqNone.ne_none_bool (cH I q (by simp))
  | int j=>obtain ⟨t',rfl⟩:=ry; exact PySem.EqNone.ne_none_int (cH I q (by simp))
  | str j=>obtain ⟨t',rfl⟩:=ry; exact PySem.EqNone.ne_none_str (cH I q (by simp))
  | _=>exact absurd (show false=true from hs) wf
 | bl i =>
  cases rx;cases y with
  | aw=>cases ry; exact PySem.EqNone.ne_bool_none (cH I q (by simp))
  | bl j=>cases ry; exact ne_bool (cH I q (Ps not Lp))
  | str j=>obtain ⟨t',rfl⟩:=ry; exact PySem.EqMixed.ne_bool_str (cH I q (by simp))
  | _=>exact absurd (show false=true from hs) wf
 | int i =>
  obtain ⟨t,rfl⟩:=rx;cases y with
  | aw=>cases ry; exact PySem.EqNone.ne_int_none (cH I q (by simp))
  | int j=>obtain ⟨t',rfl⟩:=ry; exact ne_int (cH I q (Ps not Kt))
  | str j=>obtain ⟨t',rfl⟩:=ry; exact PySem.EqMixed.ne_int_str (cH I q (by simp))
  | _=>exact absurd (show false=true from hs) wf
 | str i =>
  obtain ⟨t,rfl⟩:=rx;cases y with
  | aw=>cases ry; exact PySem.EqNone.ne_str_none (cH I q (by simp))
  | bl j=>cases ry; exact PySem.EqMixed.ne_str_bool (cH I q (by simp))
  | int j=>obtain ⟨t',rfl⟩:=ry; exact PySem.EqMixed.ne_str_int (cH I q (by simp))
  | str j=>obtain ⟨t',rfl⟩:=ry; exact ne_str (cH I q (Ps not HW))
  | _=>exact absurd (show false=true from hs) wf
 | byt i =>
  obtain ⟨t,rfl⟩:=rx;cases y with
  | byt j=>obtain ⟨t',rfl⟩:=ry; exact PySem.W.ne_bytes (cH I q (Ps not HI))
  | _=>exact absurd (show false=true from hs) wf
 | _=>cases y <;> exact absurd (show false=true from hs) wf
def Wh:bc X (compareOp .Lt) (n8 fun i j=>.bl (decide (i < j))):=C0 fun _ _ _ _ _ _ _ q=>lt_int q
def OL:bc X (compareOp .LtE) (n8 fun i j=>.bl (decide (i<=j))):=C0 fun _ _ _ _ _ _ _ q=>le_int q
def QC:bc X (compareOp .Gt) (n8 fun i j=>.bl (decide (j < i))):=C0 fun _ _ _ _ _ _ _ q=>gt_int q
def WO:bc X (compareOp .In) (fun x y H Q=>∃ i j,x=.str i/\y=.str j/\Q (.bl (!(Builtin.Str.occurrences j i 0 j.length 1).isEmpty)) H):=by
 intro π s σ H x y v u Q I rx ry h;obtain ⟨i,j,rfl,rfl,q⟩:=h;obtain ⟨t,rfl⟩:=rx;obtain ⟨t',rfl⟩:=ry;exact in_str (cH I q rfl)
def tS:bc X (compareOp .Is) (fun x y H Q=>y=.aw/\Q (.bl (decide (x=.aw))) H):=by
 intro π s σ H x y v u Q I rx ry h;obtain ⟨rfl,q⟩:=h;cases ry;refine is_none_gen (cH I q ?_);cases x <;> first
  | (cases rx; rfl)
  | (obtain ⟨t,rfl⟩:=rx; rfl)
def CK:bc X (compareOp .IsNot) (fun x y H Q=>y=.aw/\Q (.bl (!decide (x=.aw))) H):=by
 intro π s σ H x y v u Q I rx ry h;obtain ⟨rfl,q⟩:=h;cases ry;refine isnot_none_gen (cH I q ?_);cases x <;> first
  | (cases rx; rfl)
  | (obtain ⟨t,rfl⟩:=rx; rfl)
def bc.or {f:Value->Value->Sem Value} {r r':R2} (h:bc X f r) (h':bc X f r'):bc X f (fun x y H Q=>r x y H Q\/r' x y H Q):=by
 intro π s σ H x y v u Q I rx ry q;rcases q with q | q
 ·exact h π s σ H x y v u Q I rx ry q
 ·exact h' π s σ H x y v u Q I rx ry q
def YW {op:CmpOp} {r:R2} (ho:bc X (compareOp op) r) (ha:PE X a ta) (hb:PE X b tb) (hm:behindInMarks op b=false):PE X (.Compare a [op] [b] pos) (lh r ta tb):=by
 intro π s σ H Q I h;exact wpAny_Compare1 (yP ha hb I h fun v u s2 x y H2 I2 rx ry q=>ho π s2 σ H2 x y v u Q I2 rx ry q) hm
def r6:(sizeLine:Nat) < 2 ^ 63:=by rw [sizeLine_eq]; decide
def Xn:bc X (binaryOp .Add) (fun x y H Q=>∃ i j,x=.str i/\y=.str j/\i.length+j.length<=sizeLine/\Q (.str (i++j)) H):=by
 intro π s σ H x y v u Q I rx ry h;obtain ⟨i,j,rfl,rfl,hz,q⟩:=h;obtain ⟨t,rfl⟩:=rx;obtain ⟨t',rfl⟩:=ry;exact add_str (fun t' tk=>⟨.str (i++j),H,I.tok _,⟨_,rfl⟩,q⟩) hz
def vals1 {x:V} {us:List Value} (r:Vals [x] us):∃ u,us=[u]/\RelV x u:=by
 cases r with
 | cons r1 r2=>cases r2; exact ⟨_,rfl,r1⟩
def vals2 {x y:V} {us:List Value} (r:Vals [x,y] us):∃ u w',us=[u,w']/\RelV x u/\RelV y w':=by
 cases r with
 | cons r1 r2 =>
  cases r2 with
  | cons r3 r4=>cases r4; exact ⟨_,_,rfl,r1,r3⟩
def W3 (K:ν) (x:V) (H:Hp) (n:Nat):Prop :=
 match x with
 | .str y=>y.length<=sizeLine/\n=y.length
 | .byt y=>y.size<=sizeLine/\n=y.size
 | .ref p=>(∃ xs,aD K H p xs/\n=xs.length)\/∃ xs,bE K H p xs/\n=xs.length
 | _=>False
def Vb:cT X (.builtin "len") (fun xs H Q=>∃ x n,xs=[x]/\W3 X.K x H n/\Q (.int n) H):=by
 intro π s σ H xs us Q I r h;obtain ⟨x,n,rfl,e,q⟩:=h;obtain ⟨u,rfl,rx⟩:=vals1 r;have hl:=r6;have hs:sizeLine=16777216:=sizeLine_eq;cases x with
 | str y =>
  obtain ⟨t,rfl⟩:=rx;obtain ⟨hy,e'⟩:y.length<=sizeLine/\n=y.length:=e;subst e';exact len_str (by omega) ⟨.int _,H,I.tok _,⟨_,rfl⟩,q⟩
 | byt y =>
  obtain ⟨t,rfl⟩:=rx;obtain ⟨hy,e'⟩:y.size<=sizeLine/\n=y.size:=e;subst e';exact PySem.W.len_bytes (by omega) ⟨.int _,H,I.tok _,⟨_,rfl⟩,q⟩
 | ref p =>
  cases rx;have e':(∃ xs,aD X.K H p xs/\n=xs.length)\/∃ xs,bE X.K H p xs/\n=xs.length:=e;rcases e' with ⟨xs,hx,e'⟩ | ⟨xs,hx,e'⟩
  ·subst e';obtain ⟨aq,r',pl,hz⟩:=I.list hx;have hlen:=r'.length;exact Calls.call_len_list pl.isList (by simp only [tz]; omega) ⟨.int xs.length,H,I.tok _,⟨_,by simp only [tz]; rw [hlen]⟩,q⟩
  ·subst e';obtain ⟨aq,r',pl,hz⟩:=I.tuple hx;have hlen:=r'.length;exact len_tuple pl (by simp only [tz]; omega) ⟨.int xs.length,H,I.tok _,⟨_,by simp only [tz]; rw [hlen]⟩,q⟩
 | _=>exact (show False from e).elim
end
structure oI (h:Heap) (x dx C:Addr) (mA:Str->Option Value):Prop where
 obj:h.get? x=some (PySem.W.instObj C dx)
 ns:h.Ns1 dx mA
 ne:dx≠x
def aaM {h:Heap} {dx:Addr} {mA:Str->Option Value} (n:h.Ns1 dx mA):∃ od,h.get? dx=some od/\∀ name,PySem.W.lookIn name od=some (mA name):=by
 obtain ⟨o,es,ep,ho,hd,hk,_,hm⟩:=n;refine ⟨o,ho,fun name=>?_⟩;have e:=hm name;unfold nsFind findBy at e;rw [<- Array.find?_toList] at e;unfold PySem.W.lookIn;rw [hd];dsimp only;split
 ·rename_i y q;rw [q] at e;exact Ps some e
 ·rename_i q;rw [q] at e;have a:es.toList.any (·.refKey)=false:=by
   rw [List.any_eq_false];intro y hy;obtain ⟨z,t,ER⟩:=hk y (Array.mem_toList_iff.mp hy);simp [DictEntry.refKey,ER]
  have a':¬ es.toList.any (·.refKey)=true:=by rw [a]; exact wf
  rw [xL a'];exact Ps some e
def oI.look {h:Heap} {x dx C:Addr} {mA:Str->Option Value} (I:oI h x dx C mA):∃ od,PySem.W.InstAt h x (PySem.W.instObj C dx) C (some od)/\∀ name,PySem.W.lookIn name od=some (mA name) :=
 let ⟨od,ho,hl⟩:=aaM I.ns
 ⟨od,⟨I.obj,rfl,rfl,ho⟩,hl⟩
section
variable {prog:Program} {w:World} {A:Around} {E:Value->Shared->Prop} {s:Shared} {K:ν} {x dx C f:Addr} {mA:Str->Option Value} {name:Str} {v:Value}
def get_map {expr:Bool} {Q:Value->Shared->Prop} (X:K.In s.heap) (I:oI s.heap x dx C mA) (hg:PySem.W.plainGet K C name=true) (hh:PySem.W.hasDictIn K C=true)
  (ha:PySem.W.findIn K (.ref C) name=some none) (hv:mA name=some v) (hv':PySem.W.handedIn v=true) (h:Q v { s with toks:=s.toks+1 }) :
  wpAny (model prog w) A (getAttr (.ref x) name expr) Q E s:=by
 obtain ⟨od,J,hl⟩:=I.look;exact PySem.W.get_value X J (Ja0 hg).1 (PySem.W.findObj_own hh ha rfl (by rw [hl,hv])) hv' h
def V2 {pl:Sem Bool} {Q:Value×List Value->Shared->Prop} (X:K.In s.heap) (I:oI s.heap x dx C mA) (hg:PySem.W.plainGet K C name=true)
  (hf:PySem.W.findIn K (.ref C) name=some (some (.ref f))) (ht:PySem.W.isFn K (.ref f)=true) (hv:mA name=none) (h:Q (.ref f,[.ref x]) s) :
  wpAny (model prog w) A (getMethod (.ref x) name pl) Q E s:=by
 obtain ⟨od,J,hl⟩:=I.look;exact PySem.W.method_fn X J (Ja0 hg).1 (Ja0 hg).2 hf (TD.mp ht) (by show (PySem.W.lookIn name od).map (·.isSome)=some false; rw [hl,hv]; rfl) h
def Qn {ns:List Str} {Q:Unit->Shared->Prop} (X:K.In s.heap) (I:oI s.heap x dx C mA)
  (hs:PySem.W.findIn K (.ref C) "__setattr__" = some (some (.builtin "object.__setattr__"))) (hp:PySem.W.plainOver K C=true) (ht:PySem.W.takerIn K C name=some none) (hh:PySem.W.hasDictIn K C=true)
  (hw:PySem.Within mA ns) (hsz:ns.length<=sizeLine)
  (h:∀ h',oI h' x dx C (fun y=>if y=name then some v else mA y)->Heap.SameBut dx s.heap h'->Q () { s with heap:=h',toks:=s.toks+2 }) :
  wpAny (model prog w) A (setAttr (.ref x) name v) Q E s:=by
 obtain ⟨od,J,hl⟩:=I.look;refine PySem.W.set_plain X J hs (PySem.W.osa_open (s:={ s with toks:=s.toks+1 }) (r:=none) X J hp ht fun b=>?_);obtain ⟨cd,hc,hd'⟩:=PySem.W.any_some hh;have hx:s.heap.get? x=some ⟨.ref C,some dx,.plain,#[]⟩:=I.obj;refine lm (pi (lm (lm (_g hx (lm (PySem.W.Looks.here (s:={ s with toks:=s.toks+1 }) (PySem.W.looks_clsIn X hc) ?_))))));rw [hd'];refine pi (a:=some dx) (lm (pi (lm ?_)));refine wpAny_nsSet1 (s:={ s with toks:=s.toks+1 }) I.ns fun h' iO ng=>?_;obtain ⟨oD,esD,epD,EO,DF,E1⟩:=iO.count (PySem.Within.cons name v hw);refine lm (wpAny_lookBehind EO (by rw [DF]; exact pastItsLine_dict (u8 E1 (by rw [Gc]; omega))) ?_);exact pi (h _ ⟨(ng.2 _ (sB I.ne)).trans I.obj,iO,I.ne⟩ ng)
def SA {R:Result->Shared->Prop} {vs:List Value} {kw:List (Str×Value)} (X:K.In s.heap) (hm:PySem.W.makesIn K C=true)
  (hi:PySem.W.findIn K (.ref C) "__init__" = some (some (.ref f))) (hf:PySem.W.typeIn K (.ref f)=some (.type "function"))
  (h:codeAny (model prog w) (A.under (.builtin "type.__call__" ⟨.ref C::vs,kw⟩)) (.call (.ref f) ⟨.ref (s.heap.objs.size+1)::vs,kw⟩) (PySem.W.InitBack (s.heap.objs.size+1) R)
   { s with heap:=(s.heap.push PySem.W.emptyDict).push (PySem.W.instObj C s.heap.objs.size) }) :
  codeAny (model prog w) A (.call (.ref C) ⟨vs,kw⟩) R s:=by
 obtain ⟨hh,g,d,t,os⟩:=s;exact PySem.W.make_core (PySem.W.makes_of X hm) (GM X hi) (fun self=>PySem.W.bind_fn X self hf) (.inl rfl) h
end
def ax (f:Str) (v:V):List (Str×V)->List (Str×V)
 | []=>[(f,v)]
 | (g,x)::r=>if g=f then (g,v)::r else (g,x)::ax f v r
def eX (f g:Str) (v:V):∀ fs:List (Str×V),(ax f v fs).lookup g=if g=f then some v else fs.lookup g
 | []=>by
  show List.lookup g [(f,v)]=_;by_cases h:g=f
  ·have hb:(g == f)=true:=TD.mpr h;simp only [List.lookup,hb,AC h]
  ·have hb:(g == f)=false:=Fa.mpr h;simp only [List.lookup,hb,xL h]
 | (k,x)::r=>by
  have ih:=eX f g v r;rw [show ax f v ((k,x)::r)=(if k=f then (k,v)::r else (k,x)::ax f v r) from rfl];by_cases hk:k=f
  ·rw [AC hk];by_cases h:g=k
   ·have hb:(g == k)=true:=TD.mpr h;simp only [List.lookup,hb,AC (h.trans hk)]
   ·have hb:(g == k)=false:=Fa.mpr h;simp only [List.lookup,hb,xL (fun e:g=f=>h (e.trans hk.symm))]
  ·rw [xL hk];by_cases h:g=k
   ·have hb:(g == k)=true:=TD.mpr h;simp only [List.lookup,hb,xL (fun e:g=f=>hk (h.symm.trans e))]
   ·have hb:(g == k)=false:=Fa.mpr h;simp only [List.lookup,hb];exact ih
def Cu (f:Str) (v:V):∀ fs:List (Str×V),f∈(ax f v fs).map (·.1)/\∀ g,g∈fs.map (·.1)->g∈(ax f v fs).map (·.1)
 | []=>⟨by simp [ax],fun g h=>by simp at h⟩
 | (k,x)::r=>by
  obtain ⟨i1,i2⟩:=Cu f v r;rw [show ax f v ((k,x)::r)=(if k=f then (k,v)::r else (k,x)::ax f v r) from rfl];by_cases hk:k=f
  ·rw [AC hk];subst hk;exact ⟨by simp,fun g h=>by simpa using h⟩
  ·rw [xL hk];refine ⟨?_,fun g h=>?_⟩
   ·rw [Ch];exact GE _ i1
   ·rw [Ch] at h ⊢;rcases mo.mp h with e | e
    ·exact mo.mpr (.inl e)
    ·exact GE _ (i2 g e)
def zb (f:Str) (v:V):∀ fs:List (Str×V),(ax f v fs).length<=fs.length+1
 | []=>by simp [ax]
 | (k,x)::r=>by
  have ih:=zb f v r;rw [show ax f v ((k,x)::r)=(if k=f then (k,v)::r else (k,x)::ax f v r) from rfl];by_cases hk:k=f
  ·rw [AC hk,Gc,Gc]; omega
  ·rw [xL hk,Gc,Gc]; omega
def e9.some_of {v:V} {o:Option Value} (r:e9 (some v) o):∃ u,o=some u/\RelV v u:=by
 cases o with
 | none=>exact (show False from r).elim
 | some u=>exact ⟨u,rfl,r⟩
def e9.none_of {o:Option Value} (r:e9 none o):o=none:=by
 cases o with
 | none=>rfl
 | some u=>exact (show False from r).elim
def Z6 {v:V} {u:Value} (r:RelV v u):PySem.W.handedIn u=true:=by
 cases v with
 | aw=>cases (show u=Value.none from r); rfl
 | bl b=>cases (show u=Value.bool b from r); rfl
 | int i=>obtain ⟨t,e⟩:=(show ∃ t,u=Value.int i t from r); cases e; rfl
 | str x=>obtain ⟨t,e⟩:=(show ∃ t,u=Value.str x t from r); cases e; rfl
 | byt b=>obtain ⟨t,e⟩:=(show ∃ t,u=Value.bytes b t from r); cases e; rfl
 | nO b=>obtain ⟨t,e⟩:=(show ∃ t,u=Value.float b t from r); cases e; rfl
 | ref a=>cases (show u=Value.ref a from r); rfl
 | ty n=>cases (show u=Value.type n from r); rfl
section
variable {P:Program} {w:World} {H H':Hp} {h h':Heap} {a C dx:Addr} {fs fs':List (Str×V)}
def xE (ay:cj P w H h) (e:H a=some (.ins C dx fs)):∃ mA,oI h a dx C mA/\(∀ f,e9 (fs.lookup f) (mA f))/\PySem.Within mA (fs.map (·.1))/\fs.length<=1000/\H dx=some (.own a):=by
 obtain ⟨d,z,ne,ob,mA,n,r,q⟩:=(show bG P w H h a (.ins C dx fs) from ay a _ e);exact ⟨mA,⟨ob,n,ne⟩,r,q,z,d⟩
end
structure df (K:ν) (C:Addr):Prop where
 pg:PySem.W.plainGet K C Str.empty=true
 hd:PySem.W.hasDictIn K C=true
 po:PySem.W.plainOver K C=true
 sa:PySem.W.findIn K (.ref C) "__setattr__" = some (some (.builtin "object.__setattr__"))
def df.get {K:ν} {C:Addr} (c:df K C) (f:Str):PySem.W.plainGet K C f=true:=c.pg
def bC (K:ν) (C:Addr) (f:Str):Prop:=PySem.W.findIn K (.ref C) f=some none
def bC.Vg {K:ν} {C:Addr} {f:Str} (n:bC K C f):PySem.W.takerIn K C f=some none:=by
 unfold PySem.W.takerIn;rw [show PySem.W.findIn K (.ref C) f=some none from n];rfl
structure Con (K:ν) (C:Addr) (f:Str) (v:V) (u:Value):Prop where
 at_:PySem.W.findIn K (.ref C) f=some (some u)
 rel:RelV v u
 get:PySem.W.specialIn K u "__get__" = some none
 cp:PySem.W.copiedNames.contains f=false
structure Meth (K:ν) (C:Addr) (m:Str) (f:Addr):Prop where
 at_:PySem.W.findIn K (.ref C) m=some (some (.ref f))
 fn:PySem.W.isFn K (.ref f)=true
 kp:PySem.W.keepIn K (.ref f)=true
section
variable {X:Cx} {π:List (Addr×Obj)} {σ:St} {H:Hp} {s:Shared} {a C dx:Addr} {fs:List (Str×V)} {f:Str} {v:V} {A:Around} {E:Value->Shared->Prop}
def HM {b:Bool} {Q:Value->Shared->Prop} (I:Inv X π σ H s) (e:H a=some (.ins C dx fs)) (c:df X.K C) (n:bC X.K C f) (l:fs.lookup f=some v)
  (h:∀ u s',Inv X π σ H s'->RelV v u->Q u s'):wpAny (model X.prog X.w) A (getAttr (.ref a) f b) Q E s:=by
 obtain ⟨mA,O,r,_,_,_⟩:=xE I.ay e;obtain ⟨u,hu,ru⟩:=e9.some_of (v:=v) (o:=mA f) (by rw [<- l]; exact r f);exact get_map I.bR O (c.get f) c.hd n hu (Z6 ru) (h u _ (I.tok _) ru)
def yR {m:Str} {g:Addr} {pl:Sem Bool} {Q:Value×List Value->Shared->Prop} (I:Inv X π σ H s) (e:H a=some (.ins C dx fs)) (c:df X.K C) (k:Meth X.K C m g) (l:fs.lookup m=none)
  (h:Q (.ref g,[.ref a]) s):wpAny (model X.prog X.w) A (getMethod (.ref a) m pl) Q E s:=by
 obtain ⟨mA,O,r,_,_,_⟩:=xE I.ay e;have hn:mA m=none:=e9.none_of (by rw [<- l]; exact r m);exact V2 I.bR O (c.get m) k.at_ k.fn hn h
def LG {y:V} {u:Value} {Q:Unit->Shared->Prop} (I:Inv X π σ H s) (e:H a=some (.ins C dx fs)) (c:df X.K C) (n:bC X.K C f) (hl:fs.length < 1000) (ry:RelV y u)
  (h:∀ s',Inv X π σ (upd H a (.ins C dx (ax f y fs))) s'->Q () s'):wpAny (model X.prog X.w) A (setAttr (.ref a) f u) Q E s:=by
 obtain ⟨mA,O,r,wi,_,ho⟩:=xE I.ay e;have hz:(fs.map (·.1)).length<=sizeLine:=by rw [pp,sizeLine_eq]; omega
 refine Qn I.bR O c.sa c.po n.Vg c.hd wi hz fun h' O' sb=>h _ ?_;have hd:∃ o,h'.get? dx=some o:=let ⟨o,_,_,e',_⟩:=O'.ns; ⟨o,e'⟩
 refine I.write (x:=a) (e:=dx) (by rw [e]; exact True.intro) (.inr ho) (fun b q hb z=>(sb.2 b hb).trans z) hd ?_;refine ⟨by rw [aj O.ne]; exact ho,?_,O.ne,O'.obj,_,O'.ns,fun g=>?_,fun g hg=>?_⟩
 ·have:=zb f y fs; omega
 ·show e9 ((ax f y fs).lookup g) (if g=f then some u else mA g);rw [eX];by_cases q:g=f
  ·rw [AC q,AC q]; exact ry
  ·rw [xL q,xL q]; exact r g
 ·by_cases q:g=f
  ·rw [q]; exact (Cu f y fs).1
  ·refine (Cu f y fs).2 g (wi g fun z=>hg ?_);show (if g=f then some u else mA g)=none;rw [xL q]; exact z
def Inv.made (I:Inv X π σ H s):Inv X π σ (upd (upd H s.heap.objs.size (.own (s.heap.objs.size+1))) (s.heap.objs.size+1) (.ins C s.heap.objs.size []))
  { s with heap:=(s.heap.push PySem.W.emptyDict).push (PySem.W.instObj C s.heap.objs.size) }:=by
 have e1:(s.heap.push PySem.W.emptyDict).get? s.heap.objs.size=some PySem.W.emptyDict:=ut s.heap rfl;have e2:((s.heap.push PySem.W.emptyDict).push (PySem.W.instObj C s.heap.objs.size)).get? (s.heap.objs.size+1)=some (PySem.W.instObj C s.heap.objs.size):=by
  have:=ut (s.heap.push PySem.W.emptyDict) (o:=PySem.W.instObj C s.heap.objs.size) rfl
  rwa [_h] at this
 have e3:(s.heap.push PySem.W.emptyDict).Ns s.heap.objs.size (fun _=>none):=⟨PySem.W.emptyDict,#[],_,e1,rfl,(fun e he=>absurd he (by simp)),fun _=>rfl⟩;have I1:=I.laid (a:=s.heap.objs.size) (o:=.own (s.heap.objs.size+1)) (h':=s.heap.push PySem.W.emptyDict) (t':=s.toks) (fun b u q=>lv _ q) (sK _) ⟨_,e1⟩;refine I1.laid (a:=s.heap.objs.size+1) (o:=.ins C s.heap.objs.size []) (t':=s.toks) (fun b u q=>lv _ q) (Nat.le_of_eq (_h _ _)) ?_;have ne:s.heap.objs.size≠s.heap.objs.size+1:=wS (On _);refine ⟨by rw [aj ne,au],Cl _,ne,e2,fun _=>none,(Heap.Ns1.of_empty e3).at fun o q=>lv _ q,fun _=>True.intro,fun y hy=>absurd rfl hy⟩
def G3 {prog:Program} {w:World} {env:Env} {e:Expr} {f:Str} {pos:Pos} {s:Shared} {Q:Value->Shared->Prop} (hb:attributeBase e f env (eval e env)=eval e env)
  (h:wpAny (model prog w) A (eval e env) (fun o s₁=>wpAny (model prog w) A (getAttr o f true) Q E s₁) E s):wpAny (model prog w) A (eval (.Attribute e f pos) env) Q E s :=
 Attribute_any_ h (by rw [arm_eval_Attribute,hb])
end
def Cw (X:Cx) (op:Operator) (rd:V->V->Hp->VK->Prop):Prop :=
 ∀ (π:List (Addr×Obj)) (s:Shared) (σ:St) (H:Hp) (x y:V) (u v:Value) (Q:VK),Inv X π σ H s->RelV x u->RelV y v->rd x y H Q->wpAny (model X.prog X.w) X.A (inplaceOp op u v) (EP X π σ Q) X.xe s
section
variable {X:Cx} {o e value:Expr} {f:Str} {pos pos' rN:Pos} {ta tv:TE}
def G0:V->V->Hp->VK->Prop:=fun x y H Q=>∃ i j,x=.int i/\y=.int j/\Q (.int (i+j)) H
def mV:Cw X .Add G0:=by
 rintro π s σ H x y u v Q I rx ry ⟨i,j,rfl,rfl,q⟩;obtain ⟨t,rfl⟩:=(show ∃ t,u=Value.int i t from rx);obtain ⟨t',rfl⟩:=(show ∃ t',v=Value.int j t' from ry);exact PyProof.Rows.iadd_int ⟨.int (i+j),H,I.tok _,⟨_,rfl⟩,q⟩
end
section
variable {X:Cx} {π:List (Addr×Obj)} {σ:St} {H:Hp} {s:Shared} {A:Around} {E:Value->Shared->Prop} {Q:Value->Shared->Prop} {c:Value} {b:Bool}
inductive fP (K:ν) (H:Hp):V->Value->Prop where
 | aw:fP K H .aw (.type "NoneType")
 | bl (x:Bool):fP K H (.bl x) (.type "bool")
 | int (i:Int):fP K H (.int i) (.type "int")
 | str (x:Str):fP K H (.str x) (.type "str")
 | nO (x:UInt64):fP K H (.nO x) (.type "float")
 | lst {a:Addr} {xs:List V} (e:H a=some (.lst xs)):fP K H (.ref a) (.type "list")
 | eV {a:Addr} {o:Obj} {xs:List V} (e:H a=some (.eV o (.lst xs))):fP K H (.ref a) (.type "list")
 | tup {a:Addr} {xs:List V} (e:H a=some (.tup xs)):fP K H (.ref a) (.type "tuple")
 | dK {a:Addr} {kvs:List (Key×V)} (e:H a=some (.dK kvs)):fP K H (.ref a) (.type "dict")
 | dT {a:Addr} {kvs:List (List Key×V)} (e:H a=some (.dT kvs)):fP K H (.ref a) (.type "dict")
 | ins {a C dx:Addr} {fs:List (Str×V)} (e:H a=some (.ins C dx fs)) (cl:df K C) (ha:PySem.W.findIn K (.ref C) "__class__" = some (some (.builtin "object.__class__")))
   (hn:PySem.W.specialIn K (.builtin "object.__class__") "__get__" = some (some (.builtin "getset_descriptor.__get__"))) (eP:PySem.W.takesIn K (.builtin "object.__class__")=some true)
   (hm:PySem.W.mroIn K C (.type "object")=some true):fP K H (.ref a) (.ref C)
def zY {x:V} {u t:Value} (I:Inv X π σ H s) (rx:RelV x u) (ty:fP X.K H x t) (e:PySem.W.kitOne X.K t c=some b) (h:∀ tk,Q (.bool b) { s with toks:=tk }) :
  wpAny (model X.prog X.w) A (call (.builtin "isinstance") [u,c]) Q E s:=by
 cases ty with
 | aw=>cases (show u=Value.none from rx); exact KK PySem.W.kitx_none I.bR True.intro e (fun z=>nomatch z) h
 | bl y=>cases (show u=Value.bool y from rx); exact KK PySem.W.kitx_bool I.bR True.intro e (fun z=>nomatch z) h
 | int i=>obtain ⟨t,q⟩:=(show ∃ t,u=Value.int i t from rx); cases q; exact KK PySem.W.kitx_int I.bR True.intro e (fun z=>nomatch z) h
 | str y=>obtain ⟨t,q⟩:=(show ∃ t,u=Value.str y t from rx); cases q; exact KK PySem.W.kitx_str I.bR True.intro e (fun z=>nomatch z) h
 | nO y=>obtain ⟨t,q⟩:=(show ∃ t,u=Value.float y t from rx); cases q; exact KK PySem.W.kitx_float I.bR True.intro e (fun z=>nomatch z) h
 | @lst a xs ea =>
  cases (show u=Value.ref a from rx);obtain ⟨_,_,n,_,h1⟩:=(show bG X.prog X.w H s.heap a (.lst xs) from I.ay a _ ea);exact KK PySem.W.kitx_list I.bR ⟨_,h1,rfl⟩ e (fun z=>nomatch z) h
 | @eV a ob xs ea =>
  cases (show u=Value.ref a from rx);obtain ⟨_,_,_,n,_,h1⟩:=(show bG X.prog X.w H s.heap a (.eV ob (.lst xs)) from I.ay a _ ea);exact KK PySem.W.kitx_list I.bR ⟨_,h1,rfl⟩ e (fun z=>nomatch z) h
 | @tup a xs ea =>
  cases (show u=Value.ref a from rx);obtain ⟨_,_,_,p⟩:=(show bG X.prog X.w H s.heap a (.tup xs) from I.ay a _ ea);obtain ⟨o,h1,h2,_⟩:=p;exact KK PySem.W.kitx_tuple I.bR ⟨o,h1,h2⟩ e (fun z=>nomatch z) h
 | @dK a kvs ea =>
  cases (show u=Value.ref a from rx);obtain ⟨_,_,vs,_,p⟩:=(show bG X.prog X.w H s.heap a (.dK kvs) from I.ay a _ ea);obtain ⟨o,es,ep,h1,h2,_⟩:=p;exact KK PySem.W.kitx_dict I.bR ⟨o,h1,h2.1⟩ e (fun z=>nomatch z) h
 | @dT a kvs ea =>
  cases (show u=Value.ref a from rx);obtain ⟨_,_,xs,_,o,es,ep,h1,h2,_⟩:=(show bG X.prog X.w H s.heap a (.dT kvs) from I.ay a _ ea);exact KK PySem.W.kitx_dict I.bR ⟨o,h1,h2.1⟩ e (fun z=>nomatch z) h
 | @ins a C dx fs ea cl ha hn eP hm =>
  cases (show u=Value.ref a from rx);obtain ⟨mA,O,_⟩:=xE I.ay ea;obtain ⟨od,J,_⟩:=O.look;exact KK (PySem.W.kitx_own (cl.get _) cl.hd ha hn eP hm) I.bR J e (fun z=>nomatch z) h
end
structure bf (k:Nat) (A:Around):Prop where
 hd:A.handled=none
 dp:A.depth+3 * k+5 < recursionLimit
 un:A.units+16 * k+200 < cLine
def bf.mono {j k:Nat} {A:Around} (r:bf k A) (h:j<=k):bf j A:=⟨r.hd,by have:=r.dp; omega,by have:=r.un; omega⟩
def bf.deeper {k:Nat} {A:Around} (r:bf (k+1) A) (env:Env):bf k (A.deeper env) :=
 ⟨r.hd,by have:=r.dp; show A.depth+1+3 * k+5 < _; omega,by have:=r.un; show A.units+3+16 * k+200 < _; omega⟩
def UH {A:Around} {C:Addr} {us:List Value} {kw:List (Str×Value)}:(A.under (.builtin "type.__call__" ⟨.ref C::us,kw⟩)).depth=A.depth+1:=by
 first | rfl | simp [Around.under,Code.weight,Code.isCreation,Code.isGuard,Code.isCaller,Code.frames,Code.isFrame,guardIds]
def Q2 {A:Around} {C:Addr} {us:List Value} {kw:List (Str×Value)}:(A.under (.builtin "type.__call__" ⟨.ref C::us,kw⟩)).units=A.units+1:=by
 first | rfl | simp [Around.under,Code.cUnits,Code.frames,Code.isFrame]
def bf.make {k:Nat} {A:Around} (r:bf (k+1) A) (C:Addr) (us:List Value) (kw:List (Str×Value)):bf k (A.under (.builtin "type.__call__" ⟨.ref C::us,kw⟩)) :=
 ⟨r.hd,by have:=r.dp; rw [UH]; omega,by have:=r.un; rw [Q2]; omega⟩
def bf.depth {k:Nat} {A:Around} (r:bf k A):A.depth < recursionLimit:=by have:=r.dp; omega
def bf.units {k:Nat} {A:Around} (r:bf k A):A.units+64 < cLine:=by have:=r.un; omega
def bf.sR {k:Nat} {A:Around} (r:bf k A):A.units < cLine:=by have:=r.un; omega
def jE:TA:=fun _ H Q=>Q [] H
def oi (ta:TE) (tr:TA):TA:=fun σ H Q=>ta σ H fun x H1=>tr σ H1 fun xs H2=>Q (x::xs) H2
section
variable {X:Cx} {e:Expr} {es:List Expr} {te:TE} {t:TA} {pos:Pos}
def Rp:PA X [] jE:=fun _ _ _ _ H Q I h=>W1 ⟨[],H,I,.nil,h⟩
def Pq (ha:PE X e te) (hr:PA X es t) (hs:starEach (e::es) X.env=(false,eval e X.env)::starEach es X.env:=by rfl):PA X (e::es) (oi te t):=by
 intro pos π s σ H Q I h;rw [hs];show wpAny _ _ (spliced ((false,eval e X.env)::backTo pos (starEach es X.env))) _ _ s;refine TW (aC (ha π s σ H _ I h) fun u s1 ⟨x,H1,I1,r1,q1⟩=>?_);exact aC (hr pos π s1 σ H1 _ I1 q1) fun us s2 ⟨xs,H2,I2,r2,q2⟩=>⟨x::xs,H2,I2,.cons r1 r2,q2⟩
def xJ (t:TA):TE:=fun σ H Q=>t σ H fun xs H1=>xs.length<=sizeLine/\∀ p,H1 p=none->Q (.ref p) (upd H1 p (.tup xs))
def Ca (t:TA):TE:=fun σ H Q=>t σ H fun xs H1=>xs.length<=sizeLine/\∀ p,H1 p=none->Q (.ref p) (upd H1 p (.lst xs))
def Vq {x1} (h:PA X es t):PE X (.Tuple es x1 pos) (xJ t):=by
 intro π s σ H Q I hq;refine wpAny_Tuple_spliced (aC (h pos π s σ H _ I hq) fun us s1 ⟨xs,H1,I1,r,z,q⟩=>⟨by rw [<- r.length]; exact z,?_⟩);have hf:H1 s1.heap.objs.size=none:=I1.ay.fresh (sK _);refine ⟨.ref s1.heap.objs.size,upd H1 s1.heap.objs.size (.tup xs),I1.laid (t':=s1.toks) (fun b u e=>lv _ e) (sK _) ?_,rfl,q _ hf⟩;exact ⟨z,us,r,⟨_,ut _ rfl,rfl,_,rfl,rfl⟩⟩
def WK (h:PA X es t):PE X (.List es pos) (Ca t):=by
 intro π s σ H Q I hq;refine wpAny_List_spliced (aC (h pos π s σ H _ I hq) fun us s1 ⟨xs,H1,I1,r,z,q⟩=>⟨by rw [<- r.length]; exact z,?_⟩);have hf:H1 s1.heap.objs.size=none:=I1.ay.fresh (sK _);refine ⟨.ref s1.heap.objs.size,upd H1 s1.heap.objs.size (.lst xs),I1.laid (t':=s1.toks) (fun b u e=>lv _ e) (sK _) ?_,rfl,q _ hf⟩;exact ⟨z,us,0,r,ut _ rfl⟩
end
abbrev Sp:=List V->Hp->VK->XK->Prop
abbrev dX:=List Env->Hp->Shared->XK->Value->Shared->Prop
structure kL (P:Program) (w:World) (K:ν) (mg:Str->Option Value) (base:Heap) (A:Around) (outer:List Env) (s:Shared) (H:Hp):Prop where
 frames:A.frames=some outer
 mod:Mod K mg base
 bs:∀ b o,base.get? b=some o->s.heap.get? b=some o/\H b=none
 gU:base.objs.size<=s.heap.objs.size
 fC:s.heap.FunFrames base outer
 iU:∀ b∈bH outer,H b=none
 ay:cj P w H s.heap
 bare:AllBare s.gens
def CE (outer:List Env) (P:Program) (w:World) (H:Hp) (s:Shared) (Q:VK) (u:Value) (s':Shared):Prop :=
 ∃ v H',s'.os=s.os/\AllBare s'.gens/\Un (bH outer) [] H H' s.heap s'.heap/\cj P w H' s'.heap/\RelV v u/\Q v H'
def CR (CX:dX) (outer:List Env) (P:Program) (w:World) (H:Hp) (s:Shared) (Q:VK) (E:XK) (r:Result) (s':Shared):Prop :=
 match r with
 | .ok (.ret u)=>CE outer P w H s Q u s'
 | .ok _=>False
 | .error e=>CX outer H s E e s'
structure aA (P:Program) (w:World) (K:ν) (mg:Str->Option Value) (base:Heap) (CX:dX) (k:Nat) (f:Addr) (fd:FuncData) (ps:List Str) (sp:Sp):Prop where
 len:∀ vs H Q E,sp vs H Q E->vs.length=ps.length
 run:∀ (A:Around) (outer:List Env) (s:Shared) (H:Hp) (args:Args) (us:List Value) (vs:List V) (Q:VK) (E:XK),bf k A->kL P w K mg base A outer s H->BindsTo s fd args (ps.zip us)->Vals vs us->sp vs H Q E ->
  codeAny (model P w) A (.call (.ref f) args) (CR CX outer P w H s Q E) s
def kL.make {P:Program} {w:World} {K:ν} {mg:Str->Option Value} {base:Heap} {A:Around} {outer:List Env} {s:Shared} {H:Hp} (e:kL P w K mg base A outer s H) (C:Addr) (us:List Value) (kw:List (Str×Value)) :
  kL P w K mg base (A.under (.builtin "type.__call__" ⟨.ref C::us,kw⟩)) outer s H:=⟨by first | exact e.frames | (simpa [Around.under,Code.envs,Code.isFrame,pushEnvs] using e.frames),e.mod,e.bs,e.gU,e.fC,e.iU,e.ay,e.bare⟩
section
variable {X:Cx} {π:List (Addr×Obj)} {σ:St} {H:Hp} {s s':Shared}
def Inv.qH (I:Inv X π σ H s):kL X.prog X.w X.K X.mg X.base X.A X.stack s H :=
 ⟨I.ok.frames,I.ok.mod,I.bs,u8 I.ok.gU I.sz,I.stack,I.wW,I.ay,I.bare⟩
def Inv.after {Q:VK} {u:Value} (I:Inv X π σ H s) (h:CE X.stack X.prog X.w H s Q u s'):EP X π σ Q u s':=by
 obtain ⟨v,H',os,bare,un,ay,r,q⟩:=h;obtain ⟨hh,g,d,t,os'⟩:=s';obtain rfl:os'=s.os:=os;exact ⟨v,H',I.call (h':=hh) (g':=g) (d':=d) (t':=t) (ch:=[]) un ay bare (fun b z=>absurd z (by simp)),r,q⟩
end
def wK (sp:Sp) (bg:List V) (E:XK) (t:TA):TE:=fun σ H Q=>t σ H fun vs H1=>sp (vs++bg) H1 Q E
inductive MI (C:Addr) (m:Str) (x:V) (H:Hp) (q:Prop):Prop
 | mk:∀ a dx fs,x=.ref a->H a=some (.ins C dx fs)->fs.lookup m=none->q->MI C m x H q
def qU (C:Addr) (m:Str) (sp:Sp) (bg:List V) (E:XK) (ta:TE) (t:TA):TE:=fun σ H Q=>ta σ H fun x H1=>MI C m x H1 (t σ H1 fun vs H2=>sp (x::(vs++bg)) H2 Q E)
def tE (C:Addr) (sp:Sp) (bg:List V) (E:XK) (t:TA):TE:=fun σ H Q=>t σ H fun vs H1=>∀ x dx,H1 x=none->H1 dx=none->dx≠x ->
 sp (.ref x::(vs++bg)) (upd (upd H1 dx (.own x)) x (.ins C dx [])) (fun v H2=>v=.aw/\Q (.ref x) H2) E
def Binds (K:ν) (fd:FuncData) (ps:List Str) (ds:List Value):Prop :=
 ∀ (s:Shared) (us:List Value),K.In s.heap->(us++ds).length=ps.length->BindsTo s fd ⟨us,[]⟩ (ps.zip (us++ds))
def Binds.all {K:ν} {fd:FuncData} {ps:List Str} (h:∀ us:List Value,us.length=ps.length->bindArgs fd ⟨us,[]⟩=pure (ps.zip us)):Binds K fd ps []:=fun s us _ hl=>by
 rw [_5] at hl ⊢;exact .of_eq (h us hl)
def Passes (CX:dX) (X:Cx) (E:XK):Prop:=∀ (π:List (Addr×Obj)) (σ:St) (H:Hp) (s:Shared) (e:Value) (s':Shared),Inv X π σ H s->CX X.stack H s E e s'->X.xe e s'
section
variable {X:Cx} {CX:dX} {k:Nat} {f C:Addr} {fd:FuncData} {ps:List Str} {sp:Sp} {bg:List V} {ds:List Value} {E:XK} {x m:Str} {p pos apos:Pos} {e o:Expr} {es:List Expr} {ta:TE} {t:TA}
def Au {π:List (Addr×Obj)} {σ:St} {H:Hp} {s:Shared} {Q:VK} {us:List Value} {vs:List V} (F:aA X.prog X.w X.K X.mg X.base CX k f fd ps sp) (hr:bf k X.A) (hb:Binds X.K fd ps ds) (hd:Vals bg ds) (hx:Passes CX X E)
  (I:Inv X π σ H s) (r:Vals vs us) (h:sp (vs++bg) H Q E):wpAny (model X.prog X.w) X.A (call (.ref f) us) (EP X π σ Q) X.xe s:=by
 have r2:Vals (vs++bg) (us++ds):=r.append hd;have hl:(us++ds).length=ps.length:=by rw [<- r2.length]; exact F.len _ _ _ _ h
 refine T0 (XV (F.run X.A X.stack s H ⟨us,[]⟩ (us++ds) (vs++bg) Q E hr I.qH (hb s us I.bR hl) r2 h) fun r s' hq=>?_);cases r with
 | error e=>exact hx π σ H s e s' I hq
 | ok fl =>
  cases fl with
  | ret u=>exact I.after hq
  | next=>exact False.elim hq
  | brk=>exact False.elim hq
  | cont=>exact False.elim hq
def QZ (F:aA X.prog X.w X.K X.mg X.base CX k f fd ps sp) (hr:bf k X.A) (hg:Gl X x) (hm:X.mg x=some (.ref f)) (hk:PySem.W.keepIn X.K (.ref f)=true) (hb:Binds X.K fd ps ds) (hd:Vals bg ds) (hx:Passes CX X E)
  (ha:PA X (e::es) t) (bF:(x == ("__debug__" : Str))=false:=by decide) (he:starEach (e::es) X.env=(false,eval e X.env)::starEach es X.env:=by rfl) (bN:(backTo pos (starEach es X.env)).any (·.1)=false:=by rfl) :
  PE X (.Call (.Name x p) (e::es) [] pos) (wK sp bg E t):=by
 intro π s σ H Q I h;refine FB (jW I hg hm ?_ bF);refine SC (h₀:=X.base) I.ok.mod.iH hk (aC (ha pos π s σ H _ I h) fun us s1 ⟨vs,H1,I1,r,q⟩=>⟨I1.bR,?_⟩) he bN;exact Au F hr hb hd hx I1 r q
def abP {pl:Sem Bool} (he:PE X o ta) (c:df X.K C) (hm:Meth X.K C m f) (F:aA X.prog X.w X.K X.mg X.base CX k f fd ps sp) (hr:bf k X.A) (hb:Binds X.K fd ps ds) (hd:Vals bg ds) (hx:Passes CX X E) (ha:PA X (e::es) t)
  (aM:starEach (e::es) X.env=(false,eval e X.env)::starEach es X.env:=by rfl) (bN:(backTo pos (starEach es X.env)).any (·.1)=false:=by rfl)
  (ht:eval (.Call (.Attribute o m apos) (e::es) [] pos) X.env=(do
   let ov <- eval o X.env
   standAt apos.atName
   let (f,first) <- holding [ov] (getMethod ov m pl)
   callWith pos f first (backTo pos (starEach (e::es) X.env)) (backToKw pos (keywordEach [] X.env))):=by rfl) :
  PE X (.Call (.Attribute o m apos) (e::es) [] pos) (qU C m sp bg E ta t):=by
 intro π s σ H Q I h;refine _S (pl:=pl) (aC (he π s σ H _ I h) fun u s1 ⟨x,H1,I1,rx,a,dx,fs,ex,ea,l,q⟩=>?_) ht;subst ex;obtain rfl:u=Value.ref a:=rx;refine yR I1 ea c hm l ?_;refine SC (first:=[.ref a]) (h₀:=X.base) I.ok.mod.iH hm.kp (aC (ha pos π s1 σ H1 _ I1 q) fun us s2 ⟨vs,H2,I2,r,q2⟩=>⟨I2.bR,?_⟩) aM bN;exact Au (us:=.ref a::us) (vs:=.ref a::vs) F hr hb hd hx I2 (.cons rfl r) q2
def abU {pl:Sem Bool} (he:PE X o ta) (c:df X.K C) (hm:Meth X.K C m f) (F:aA X.prog X.w X.K X.mg X.base CX k f fd ps sp) (hr:bf k X.A) (hb:Binds X.K fd ps ds) (hd:Vals bg ds) (hx:Passes CX X E)
  (ht:eval (.Call (.Attribute o m apos) [] [] pos) X.env=(do
   let ov <- eval o X.env
   standAt apos.atName
   let (f,first) <- holding [ov] (getMethod ov m pl)
   callWith pos f first (backTo pos (starEach [] X.env)) (backToKw pos (keywordEach [] X.env))):=by rfl) :
  PE X (.Call (.Attribute o m apos) [] [] pos) (qU C m sp bg E ta jE):=by
 intro π s σ H Q I h;refine _S (pl:=pl) (aC (he π s σ H _ I h) fun u s1 ⟨x,H1,I1,rx,a,dx,fs,ex,ea,l,q⟩=>?_) ht;subst ex;obtain rfl:u=Value.ref a:=rx;refine yR I1 ea c hm l ?_;exact Ja1 (first:=[.ref a]) I1.bR hm.kp (Au (us:=[.ref a]) (vs:=[.ref a]) F hr hb hd hx I1 (.cons rfl .nil) q)
structure Mk (K:ν) (C f:Addr):Prop where
 makes:PySem.W.makesIn K C=true
 init:PySem.W.findIn K (.ref C) "__init__" = some (some (.ref f))
 fn:PySem.W.isFn K (.ref f)=true
 kp:PySem.W.keepIn K (.ref C)=true
def FD {π:List (Addr×Obj)} {σ:St} {H:Hp} {s:Shared} {Q:VK} {us:List Value} {vs:List V} (M:Mk X.K C f) (F:aA X.prog X.w X.K X.mg X.base CX k f fd ps sp) (hr:bf (k+1) X.A) (hb:Binds X.K fd ps ds) (hd:Vals bg ds)
  (hx:Passes CX X E) (I:Inv X π σ H s) (r:Vals vs us)
  (h:∀ x dx,H x=none->H dx=none->dx≠x->sp (.ref x::(vs++bg)) (upd (upd H dx (.own x)) x (.ins C dx [])) (fun v H2=>v=.aw/\Q (.ref x) H2) E) :
  wpAny (model X.prog X.w) X.A (call (.ref C) us) (EP X π σ Q) X.xe s:=by
 have hq:=h (s.heap.objs.size+1) s.heap.objs.size (I.ay.fresh (_1 _)) (I.ay.fresh (sK _)) (wS (On _));have I2:=Inv.made (C:=C) I;have r2:Vals (V.ref (s.heap.objs.size+1)::(vs++bg)) (Value.ref (s.heap.objs.size+1)::(us++ds)):=.cons rfl (r.append hd);have hl:(Value.ref (s.heap.objs.size+1)::us++ds).length=ps.length:=by
  have e:=r2.length;rw [F.len _ _ _ _ hq] at e;exact e.symm
 refine T0 (SA (f:=f) I.bR M.makes M.init (TD.mp M.fn) (XV (F.run _ X.stack _ _ ⟨Value.ref (s.heap.objs.size+1)::us,[]⟩ (Value.ref (s.heap.objs.size+1)::(us++ds)) _ _ E (hr.make C us [])
  (I2.qH.make C us []) (hb _ (Value.ref (s.heap.objs.size+1)::us) I2.bR hl) r2 hq) fun r s' hq'=>?_))
 cases r with
 | error e=>exact hx π σ _ _ e s' I2 hq'
 | ok fl =>
  cases fl with
  | ret u =>
   obtain ⟨v,H',I3,rv,ev,q3⟩:=I2.after hq';subst ev;exact ⟨rv,⟨V.ref (s.heap.objs.size+1),H',I3,rfl,q3⟩⟩
  | next=>exact False.elim hq'
  | brk=>exact False.elim hq'
  | cont=>exact False.elim hq'
def YD (M:Mk X.K C f) (F:aA X.prog X.w X.K X.mg X.base CX k f fd ps sp) (hr:bf (k+1) X.A) (hg:Gl X x) (hm:X.mg x=some (.ref C)) (hb:Binds X.K fd ps ds) (hd:Vals bg ds) (hx:Passes CX X E)
  (ha:PA X (e::es) t) (bF:(x == ("__debug__" : Str))=false:=by decide) (he:starEach (e::es) X.env=(false,eval e X.env)::starEach es X.env:=by rfl) (bN:(backTo pos (starEach es X.env)).any (·.1)=false:=by rfl) :
  PE X (.Call (.Name x p) (e::es) [] pos) (tE C sp bg E t):=by
 intro π s σ H Q I h;refine FB (jW I hg hm ?_ bF);refine SC (h₀:=X.base) I.ok.mod.iH M.kp (aC (ha pos π s σ H _ I h) fun us s1 ⟨vs,H1,I1,r,q⟩=>⟨I1.bR,?_⟩) he bN;exact FD M F hr hb hd hx I1 r q
def Ye (M:Mk X.K C f) (F:aA X.prog X.w X.K X.mg X.base CX k f fd ps sp) (hr:bf (k+1) X.A) (hg:Gl X x) (hm:X.mg x=some (.ref C)) (hb:Binds X.K fd ps ds) (hd:Vals bg ds) (hx:Passes CX X E)
  (bF:(x == ("__debug__" : Str))=false:=by decide):PE X (.Call (.Name x p) [] [] pos) (tE C sp bg E jE):=by
 intro π s σ H Q I h;refine FB (jW I hg hm ?_ bF);exact Ja1 I.bR M.kp (FD (us:=[]) M F hr hb hd hx I .nil h)
end
section
variable {X:Cx} {CX:dX} {k:Nat} {f C:Addr} {fd:FuncData} {ps ks:List Str} {sp:Sp} {E:XK} {x m:Str} {p pos apos kpos:Pos} {e o:Expr} {es:List Expr} {kws:List Keyword} {te ta:TE} {t tk:TA} {nm:Option Str}
structure acL (K:ν) (fd:FuncData) (ps ks:List Str) (g:List Value->List Value->List Value) (gV:List V->List V->List V):Prop where
 to:∀ (s:Shared) (us ws:List Value),K.In s.heap->(g us ws).length=ps.length->BindsTo s fd ⟨us,ks.zip ws⟩ (ps.zip (g us ws))
 rel:∀ {vs:List V} {us:List Value} {zs:List V} {ws:List Value},Vals vs us->Vals zs ws->Vals (gV vs zs) (g us ws)
def Wu (sp:Sp) (gV:List V->List V->List V) (E:XK) (t tk:TA):TE:=fun σ H Q=>t σ H fun vs H1=>tk σ H1 fun zs H2=>sp (gV vs zs) H2 Q E
variable {g:List Value->List Value->List Value} {gV:List V->List V->List V}
end
structure aF (N P:List Str) (sc:Scope):Prop where
 kind:sc.kind=.function
 co:sc.isCoroutine=false
 gen:sc.isGenerator=false
 nd:N.Nodup
 pre:N.take P.length=P
 par:∀ x∈P,sc.names.lookup x=some .local\/sc.names.lookup x=some .cell
 PN:∀ y∈sc.names,y.2≠.free
def KQ {kindOf:Str->Option NameKind} {x:Str}:∀ {binds:List (Str×Value)} {m:Str->Option Value},(∀ v,(x,v) ∉ binds)->bindL kindOf binds m x=m x
 | [],_,_=>rfl
 | (n,v)::r,m,h=>by
  unfold bindL;rw [KQ fun w hw=>h w (GE _ hw)];split
  ·have:x≠n:=by rintro rfl; exact h v _m
   simp [this]
  ·rfl
def Hz {kindOf:Str->Option NameKind} {x:Str}:∀ {binds:List (Str×Value)} {m:Str->Option Value},(∀ v,(x,v) ∉ binds)->bindC kindOf binds m x=m x
 | [],_,_=>rfl
 | (n,v)::r,m,h=>by
  unfold bindC;rw [Hz fun w hw=>h w (GE _ hw)];split
  ·rfl
  ·have:x≠n:=by rintro rfl; exact h v _m
   simp [this]
def IJ {kindOf:Str->Option NameKind} {x:Str} {v:Value}:∀ {P:List Str} {vs:List Value} {i:Nat} {m:Str->Option Value},P.Nodup->P[i]?=some x->vs[i]?=some v->kindOf x=some .local ->
  bindL kindOf (P.zip vs) m x=some v
 | [],_,_,_,_,h,_,_=>by simp at h
 | _::_,[],_,_,_,_,h,_=>by simp at h
 | p::P,w::vs,0,m,nd,h1,h2,hk=>by
  simp at h1 h2; subst h1; subst h2;show bindL kindOf ((p,w)::P.zip vs) m p=_;unfold bindL;rw [KQ fun v hv=>(Do.mp nd).1 (_6 hv).1,AC hk];simp
 | p::P,w::vs,i+1,m,nd,h1,h2,hk=>by
  show bindL kindOf ((p,w)::P.zip vs) m x=_;unfold bindL;exact IJ (i:=i) (Do.mp nd).2 (by simpa using h1) (by simpa using h2) hk
def Hk {kindOf:Str->Option NameKind} {x:Str} {v:Value}:∀ {P:List Str} {vs:List Value} {i:Nat} {m:Str->Option Value},P.Nodup->P[i]?=some x->vs[i]?=some v->kindOf x≠some .local ->
  bindC kindOf (P.zip vs) m x=some v
 | [],_,_,_,_,h,_,_=>by simp at h
 | _::_,[],_,_,_,_,h,_=>by simp at h
 | p::P,w::vs,0,m,nd,h1,h2,hk=>by
  simp at h1 h2; subst h1; subst h2;show bindC kindOf ((p,w)::P.zip vs) m p=_;unfold bindC;rw [Hz fun v hv=>(Do.mp nd).1 (_6 hv).1,xL hk];simp
 | p::P,w::vs,i+1,m,nd,h1,h2,hk=>by
  show bindC kindOf ((p,w)::P.zip vs) m x=_;unfold bindC;exact Hk (i:=i) (Do.mp nd).2 (by simpa using h1) (by simpa using h2) hk
def start (N:List Str) (vs:List V):St:=vs.map some++List.replicate (N.length - vs.length) none
def en (CX:dX) (P:Program) (w:World) (K:ν) (mg:Str->Option Value) (base:Heap) (N:List Str) (qual:Str) (scope:Scope) (f:Addr) (cd:Value) (A:Around) (outer:List Env) (s:Shared) (H:Hp) (E:XK):Cx where
 prog:=P
 w:=w
 K:=K
 mg:=mg
 base:=base
 A:=A.deeper (envOfC qual scope s.heap.objs.size f cd)
 N:=N
 s₀:=s
 H₀:=H
 env:=envOfC qual scope s.heap.objs.size f cd
 outer:=outer
 stack:=envOfC qual scope s.heap.objs.size f cd::outer
 ex:=[]
 calm:=true
 fn:=fun _=>true
 pn:=[]
 xe:=fun e s'=>wpAny (model P w) (A.deeper (envOfC qual scope s.heap.objs.size f cd)) (leaving (envOfC qual scope s.heap.objs.size f cd) e) (fun _ s''=>CX outer H s E e s'') (fun e' s''=>CX outer H s E e' s'') s'
def J6 {sc:Scope} {n:Nat} {x:Str} (h:sc.names.lookup x=some .cell):∃ c,(cellsFrom n sc.names []).lookup x=some c:=by
 have q:=_N sc.names n [] (.inl h);exact Option.isSome_iff_exists.mp q
def Hf {CX:dX} {P:Program} {w:World} {K:ν} {mg:Str->Option Value} {base:Heap} {N ps:List Str} {qual:Str} {scope:Scope} {f:Addr} {cd:Value} {A:Around} {outer:List Env} {s s1:Shared} {H:Hp} {E:XK} {us:List Value} {vs:List V}
  (S:aF N ps scope) (hd:A.handled=none) (e0:kL P w K mg base A outer s H) (hl:vs.length=ps.length) (r:Vals vs us)
  (x:InCallC s s.heap.objs.size (bindL (envOfC qual scope s.heap.objs.size f cd).kindOf (ps.zip us) fun _=>none) (cellsFrom (s.heap.objs.size+1) scope.names []) (bindC (envOfC qual scope s.heap.objs.size f cd).kindOf (ps.zip us) fun _=>none) s1) :
  Inv (en CX P w K mg base N qual scope f cd A outer s H E) [] (start N vs) H s1:=by
 have bN:ps.length<=N.length:=by have:=Ps List.length S.pre; rw [Ty] at this; omega
 obtain ⟨h1,tk,rfl,hk⟩:=x.done;have lO:∀ b:Addr,b ∉ (en CX P w K mg base N qual scope f cd A outer s H E).ex:=fun b z=>absurd (show b∈([]:List Addr) from z) (by simp);refine ⟨⟨e0.mod,S.kind,rfl,rfl,sK _,fun y z c h1 h2=>?_,fun y hy=>?_,fun y c _ h=>?_,fun _=>hd,Around.frames_deeper e0.frames,.inr ⟨rfl,rfl⟩,fun b z=>absurd z (lO b),e0.bs,e0.gU,fun b _ _=>lO b,fun b z=>absurd z (lO b),e0.fC,e0.iU⟩,
  rfl,e0.bare,Un.kept hk,⟨_,x.toInCall.ns,fun i y v h1 h2 h3=>?_⟩,fun y c h=>⟨_,x.cell y c h⟩,e0.ay.fresh (sK _),fun y c h=>?_,fun p hp=>absurd (show p∈([]:List (Addr×Obj)) from hp) (by simp),e0.ay.kept hk,?_⟩
 ·exact name_of_addr x.apart (Fk h1) (Fk h2)
 ·have hy:scope.names.lookup y=some .cell\/scope.names.lookup y=some .free:=hy;rcases hy with hy | hy
  ·exact J6 hy
  ·exact absurd rfl (S.PN _ (Fk hy))
 ·exact Ja5 (x.above y c (Fk h))
 ·have hi:i < vs.length:=by
   unfold start at h2;by_cases hi:i < vs.length
   ·exact hi
   ·rw [AT (by simpa using hi)] at h2;rw [List.getElem?_replicate] at h2;split at h2 <;> cases h2
  have ha:vs[i]?=some v:=by
   unfold start at h2;rw [Db (by simpa using hi),Da] at h2;cases e:vs[i]? with
   | none=>rw [e] at h2; cases h2
   | some a=>rw [e] at h2; cases h2; rfl
  obtain ⟨u,hu,rv⟩:=r.get ha;have hp:ps[i]?=some y:=by
   rw [<- S.pre,List.getElem?_take_of_lt (by omega)]; exact h1
  have MP:ps.Nodup:=by rw [<- S.pre]; exact S.nd.sublist (List.take_sublist _ _)
  refine ⟨u,rv,?_⟩;rcases S.par y (Pi hp) with k | k
  ·exact .inl ⟨k,IJ MP hp hu k⟩
  ·obtain ⟨c,e⟩:=J6 (n:=s.heap.objs.size+1) k;refine .inr ⟨.inl k,c,e,?_⟩;have q:=x.cell y c e;rw [Hk MP hp hu (by show scope.names.lookup y≠_; rw [k]; decide)] at q;exact q
 ·exact e0.ay.fresh (Ja5 (x.above y c (Fk h)))
 ·unfold start;show _=N.length;rw [wE,pp,List.length_replicate];omega
def wz {CX:dX} {P:Program} {w:World} {K:ν} {mg:Str->Option Value} {base:Heap} {k:Nat} {f:Addr} {name qual:Str} {params:Arguments} {body:List Stmt} {scope:Scope} {dV kV doc pm ao ct oc:Value} {an od:Option Addr}
  {dF:Array (Option Value)} {N ps:List Str} {sp:Sp} (lk:K.lookup f=some ⟨oc,od,.func (PySem.W.fnOf name qual params body scope dV kV doc pm an ao ct),dF⟩) (bQ:PySem.W.codeIn K ao qual=true) (S:aF N ps scope)
  (len:∀ vs H Q E,sp vs H Q E->vs.length=ps.length)
  (js:∀ (A:Around) (outer:List Env) (s:Shared) (H:Hp) (vs:List V) (Q:VK) (E:XK),bf k (A.deeper (envOfC qual scope s.heap.objs.size f ao))->sp vs H Q E ->
   ∃ t,dH (en CX P w K mg base N qual scope f ao A outer s H E) body t/\t { nx:=fun _ H'=>Q .aw H',rt:=Q } (start N vs) H) :
  aA P w K mg base CX (k+1) f (PySem.W.fnOf name qual params body scope dV kV doc pm an ao ct) ps sp:=by
 refine ⟨len,fun A outer s H args us vs Q E hr e0 hb r ef=>?_⟩;have hl:=len _ _ _ _ ef;have KX:K.In s.heap:=e0.mod.iH.keeps fun b o e=>(e0.bs b o e).1;have lim:s.heap.NoLimit:=e0.mod.nolimit.keeps fun b o e=>(e0.bs b o e).1;have El:∀ y∈ps.zip us,scope.names.lookup y.1=some .local\/(scope.names.lookup y.1=some .cell/\((cellsFrom (s.heap.objs.size+1) scope.names []).lookup y.1).isSome=true):=fun ⟨n,v⟩ hy=>by
  rcases S.par n (_6 hy).1 with q | q
  ·exact .inl q
  ·exact .inr ⟨q,_N _ _ _ (.inl q)⟩
 refine codeAny_call_function hr.depth (KX _ _ lk) rfl S.co S.gen rfl (PySem.W.codeRec_of KX bQ) (hb _ _ _ _ ?_);refine wpAny_newFunctionEnv_cells S.kind El fun env he s1 x=>?_;subst he;refine ⟨lim.keeps x.toInCall.keep,codeAny_func ?_⟩;obtain ⟨t,ht,hq⟩:=js A outer s H vs Q E (hr.deeper _) ef;have I:Inv (en CX P w K mg base N qual scope f ao A outer s H E) [] (start N vs) H s1:=Hf S hr.hd e0 hl r x;refine IN (ht [] s1 (start N vs) H _ I hq) (fun fl s' hs=>?_) fun e s' hs=>hs;have fin:∀ {σ':St} {H':Hp} {v:V} {u:Value},Inv (en CX P w K mg base N qual scope f ao A outer s H E) [] σ' H' s'->RelV v u->Q v H'->CE outer P w H s Q u s' :=
  fun {σ' H' v u} J rv q=>⟨v,H',J.os,J.bare,J.base,J.ay,rv,q⟩
 cases fl with
 | ret u =>
  obtain ⟨v,σ',H',J,rv,q⟩:=hs;exact fin J rv q
 | next =>
  obtain ⟨σ',H',J,q⟩:=hs;exact fin (v:=V.aw) (u:=Value.none) J rfl q
 | brk =>
  obtain ⟨_,_,_,q⟩:=hs;exact False.elim q
 | cont =>
  obtain ⟨_,_,_,q⟩:=hs;exact False.elim q
section
variable {X:Cx} {x:Str} {p pos:Pos} {e:Expr} {es:List Expr} {t:TA} {id T:String} {r:List V->Hp->VK->Prop}
def nI (r:List V->Hp->VK->Prop) (t:TA):TE:=fun σ H Q=>t σ H fun vs H1=>r vs H1 Q
def SS (hc:cT X (.builtin id) r) (hg:Gl X x) (hm:X.mg x=none) (hv:bootBuiltins x=some (.builtin id)) (ha:PA X (e::es) t) (hn:x ≠ "__name__" := by decide) (bF:(x == ("__debug__" : Str))=false:=by decide)
  (he:starEach (e::es) X.env=(false,eval e X.env)::starEach es X.env:=by rfl) (bN:(backTo pos (starEach es X.env)).any (·.1)=false:=by rfl):PE X (.Call (.Name x p) (e::es) [] pos) (nI r t):=by
 intro π s σ H Q I h;refine FB (oz I hg hm hv ?_ hn bF);exact PyProof.Rows.callWith_builtin1 (aC (ha pos π s σ H _ I h) fun us s1 ⟨vs,H1,I1,r1,q1⟩=>hc π s1 σ H1 vs us Q I1 r1 q1) he bN
def Pc (hc:cT X (.type T) r) (hg:Gl X x) (hm:X.mg x=none) (hv:bootBuiltins x=some (.type T)) (ha:PA X (e::es) t) (hn:x ≠ "__name__" := by decide) (bF:(x == ("__debug__" : Str))=false:=by decide)
  (he:starEach (e::es) X.env=(false,eval e X.env)::starEach es X.env:=by rfl) (bN:(backTo pos (starEach es X.env)).any (·.1)=false:=by rfl):PE X (.Call (.Name x p) (e::es) [] pos) (nI r t):=by
 intro π s σ H Q I h;refine FB (oz I hg hm hv ?_ hn bF);exact SZ (aC (ha pos π s σ H _ I h) fun us s1 ⟨vs,H1,I1,r1,q1⟩=>hc π s1 σ H1 vs us Q I1 r1 q1) he bN
end
end L2
namespace HT
open PySem PyProof.Rows
section
open PySem.SeqAt
open PySem.AutoSeq1 (wpAny_loadPart')
open PySem.MeetsSeq PySem.MeetsSeq2 PySem.MeetsSeq3
end
section
variable {prog:Program} {w:World} {A:Around} {E:Value->Shared->Prop} {s:Shared}
def dQ (n d:Nat):Option Int->Nat
 | none=>d
 | some v=>if v < 0 then (v+(n:Int)).toNat else min v.toNat n
def y9 (n d:Nat):dQ n d none=d:=rfl
def z0 (n d k:Nat):dQ n d (some (k:Int))=min k n:=by
 show (if (k:Int) < 0 then ((k:Int)+(n:Int)).toNat else min (k:Int).toNat n)=min k n;rw [if_neg (by omega),Int.toNat_natCast]
end
end HT
namespace L2
open PySem PySem.Spec PyProof.Rows
abbrev TO:=St->Hp->(Option Int->Hp->Prop)->Prop
def PO (X:Cx) (e:Option Expr) (t:TO):Prop :=
 ∀ (π:List (Addr×Obj)) (s:Shared) (σ:St) (H:Hp) (Q:Option Int->Hp->Prop),Inv X π σ H s->t σ H Q ->
  wpAny (model X.prog X.w) X.A (evalPart e X.env) (fun u s'=>∃ o H',Inv X π σ H' s'/\IsPart u o/\Q o H') X.xe s
def Bv:TO:=fun _ H Q=>Q none H
section
variable {X:Cx} {e:Expr} {te:TE} {lo hi:Option Expr} {tl th:TO} {pos p2:Pos}
def O8:PO X none Bv:=by
 intro π s σ H Q I h;rw [evalPart_none];exact pi ⟨none,H,I,.none,h⟩
def jP (X:Cx) (r:V->Option Int->Option Int->Hp->VK->Prop):Prop :=
 ∀ (π:List (Addr×Obj)) (s:Shared) (σ:St) (H:Hp) (x:V) (v vl vu:Value) (lo hi:Option Int) (sl:Addr) (Q:VK),Inv X π σ H s->RelV x v->s.heap.IsSliceOf sl vl vu .none->IsPart vl lo->IsPart vu hi->r x lo hi H Q ->
  ∃ T id,typeLookup (.type T) "__getitem__" = pure (some (.builtin id))/\s.TypeIs v T/\wpAny (model X.prog X.w) X.A (getItem v (.ref sl)) (EP X π σ Q) X.xe s
def jP.or {r r':V->Option Int->Option Int->Hp->VK->Prop} (h:jP X r) (h':jP X r'):jP X (fun x lo hi H Q=>r x lo hi H Q\/r' x lo hi H Q):=by
 intro π s σ H x v vl vu lo hi sl Q I rx hs pl pu q;rcases q with q | q
 ·exact h π s σ H x v vl vu lo hi sl Q I rx hs pl pu q
 ·exact h' π s σ H x v vl vu lo hi sl Q I rx hs pl pu q
def zN (r:V->Option Int->Option Int->Hp->VK->Prop) (te:TE) (tl th:TO):TE:=fun σ H Q=>te σ H fun x H1=>tl σ H1 fun l H2=>th σ H2 fun u H3=>r x l u H3 Q
def OU {r:V->Option Int->Option Int->Hp->VK->Prop} (hr:jP X r) (he:PE X e te) (hl:PO X lo tl) (hu:PO X hi th):PE X (.Subscript e (.Slice lo hi none p2) pos) (zN r te tl th):=by
 intro π s σ H Q I h;refine Subscript_ (aC (he π s σ H _ I h) fun v s1 ⟨x,H1,I1,r1,q1⟩=>?_);refine wpAny_Slice (aC (hl π s1 σ H1 _ I1 q1) fun vl s2 ⟨l,H2,I2,pl,q2⟩=>aC (hu π s2 σ H2 _ I2 q2) fun vu s3 ⟨u,H3,I3,pu,q3⟩=>?_);rw [evalPart_none];refine pi ?_;have I4:Inv X π σ H3 { s3 with heap:=s3.heap.push { cls:=.type "slice",data:=.fields #[vl,vu,.none] } }:=I3.kept (t':=s3.toks) fun b ob q=>lv _ q;obtain ⟨T,id,hT,ht,hg⟩:=hr π { s3 with heap:=s3.heap.push { cls:=.type "slice",data:=.fields #[vl,vu,.none] } } σ H3 x v vl vu l u s3.heap.objs.size Q I4 r1 (Heap.IsSliceOf.new ..) pl pu q3;show wpAny (model X.prog X.w) X.A (subscriptTail e (.Slice lo hi none p2) v (.ref s3.heap.objs.size)) (EP X π σ Q) X.xe { s3 with heap:=s3.heap.push { cls:=.type "slice",data:=.fields #[vl,vu,.none] } };exact tail_any (ops:=[.ref s3.heap.objs.size,v]) ht hT hg (by with_unfolding_all rfl)
def gC (xs:List V) (lo hi:Option Int):List V:=(xs.drop (HT.dQ xs.length 0 lo)).take (HT.dQ xs.length xs.length hi - HT.dQ xs.length 0 lo)
def Sd (xs:List V) (lo hi:Option Int):(gC xs lo hi).length<=xs.length:=by
 unfold gC;rw [Ty,List.length_drop];omega
end
def gF (n:Nat) (i:Int):Option Nat:=if 0<=i then (if i < n then some i.toNat else none) else if -(n:Int)<=i then some (i+n).toNat else none
def dI {α:Type} (xs:List α) (i:Int):Option α:=(gF xs.length i).bind fun j=>xs[j]?
def Ih {n:Nat} {i:Int} {j:Nat} (h:gF n i=some j):seqIndex? i n=some j/\j < n/\-(n:Int)<=i/\i < n:=by
 unfold gF at h;by_cases h0:0<=i
 ·rw [AC h0] at h;by_cases h1:i < n
  ·rw [AC h1] at h;have e:i.toNat=j:=Go h;exact ⟨by rw [seqIndex_of h0 h1,e],by omega,by omega,h1⟩
  ·rw [xL h1] at h; cases h
 ·rw [xL h0] at h;by_cases h1:-(n:Int)<=i
  ·rw [AC h1] at h;have e:(i+n).toNat=j:=Go h;exact ⟨by rw [seqIndex_neg (by omega) h1,e],by omega,h1,by omega⟩
  ·rw [xL h1] at h; cases h
def Ci {α:Type} {xs:List α} {i:Int} {v:α} (h:dI xs i=some v):∃ j,seqIndex? i xs.length=some j/\xs[j]?=some v/\j < xs.length/\-(xs.length:Int)<=i/\i < xs.length:=by
 unfold dI at h;cases e:gF xs.length i with
 | none=>rw [e] at h; cases h
 | some j =>
  rw [e] at h;obtain ⟨h1,h2,h3,h4⟩:=Ih e;exact ⟨j,h1,h,h2,h3,h4⟩
def mK {α:Type} {xs:List α} {j:Nat} {v:α} (h:xs[j]?=some v):dI xs (j:Int)=some v:=by
 have hj:j < xs.length:=(sw.mp h).1;have e:gF xs.length (j:Int)=some j:=by
  unfold gF;rw [AC (by omega),AC (by omega)]; simp
 unfold dI; rw [e]; exact h
def mF {α:Type} (xs:List α) (v:α):dI (xs++[v]) (-1)=some v:=by
 have hl:(xs++[v]).length=xs.length+1:=by simp
 have e:gF (xs++[v]).length (-1)=some xs.length:=by
  unfold gF;rw [hl,xL (by decide),AC (by omega)]
  congr 1
  omega
 unfold dI;rw [e];show (xs++[v])[xs.length]?=some v;simp
def IL (b:Expr):Prop:=∀ o i,subscripted b false o i=operate [o,i] (getItem o i)
def gj (X:Cx) (r:R2):Prop :=
 ∀ (value slice:Expr) (π:List (Addr×Obj)) (s:Shared) (σ:St) (H:Hp) (x y:V) (v u:Value) (Q:VK),Inv X π σ H s->RelV x v->RelV y u->r x y H Q ->
  subscripted slice false v u=operate [v,u] (getItem v u)->wpAny (model X.prog X.w) X.A (subscriptTail value slice v u) (EP X π σ Q) X.xe s
def ei (X:Cx) (id:String) (r:V->List V->Hp->VK->Prop):Prop :=
 ∀ (π:List (Addr×Obj)) (s:Shared) (σ:St) (H:Hp) (x:V) (xs:List V) (v:Value) (us:List Value) (Q:VK),Inv X π σ H s->RelV x v->Vals xs us->r x xs H Q ->
  wpAny (model X.prog X.w) X.A (call (.builtin id) (v::us)) (EP X π σ Q) X.xe s
section
variable {X:Cx} {a b:Expr} {ta tb:TE} {pos:Pos}
def gj.or {r r':R2} (h:gj X r) (h':gj X r'):gj X (fun x y H Q=>r x y H Q\/r' x y H Q):=by
 intro value slice π s σ H x y v u Q I rx ry q hs;rcases q with q | q
 ·exact h value slice π s σ H x y v u Q I rx ry q hs
 ·exact h' value slice π s σ H x y v u Q I rx ry q hs
def abG {r:R2} (hr:gj X r) (ha:PE X a ta) (hb:PE X b tb) (hs:IL b):PE X (.Subscript a b pos) (lh r ta tb):=by
 intro π s σ H Q I h;exact Subscript_ (yP ha hb I h fun v u s2 x y H2 I2 rx ry q=>hr a b π s2 σ H2 x y v u Q I2 rx ry q (hs _ _))
def IC (K:ν):R2:=fun x y H Q=>∃ p xs i v,x=.ref p/\y=.int i/\aD K H p xs/\dI xs i=some v/\Q v H
def KG (K:ν):R2:=fun x y H Q=>∃ p xs i v,x=.ref p/\y=.int i/\bE K H p xs/\dI xs i=some v/\Q v H
def Ks:R2:=fun x y H Q=>∃ z i c,x=.str z/\y=.int i/\z.length<=sizeLine/\dI z.cps.toList i=some c/\Q (.str ⟨#[c]⟩) H
def UL:gj X (IC X.K):=by
 intro value slice π s σ H x y v u Q I rx ry h hs;obtain ⟨p,xs,i,z,rfl,rfl,hq,he,q⟩:=h;cases rx;obtain ⟨t,rfl⟩:=ry;obtain ⟨aq,r,pl,hz⟩:=I.list hq;obtain ⟨j,h1,h2,h3,h4,h5⟩:=Ci he;obtain ⟨w,ew,rw'⟩:=r.get h2;have hl:=r.length;have hn:=r6;have fin:EP X π σ Q w s:=⟨z,H,I,rw',q⟩;by_cases h0:0<=i
 ·have hj:i.toNat=j:=by
   rw [seqIndex_of h0 h5] at h1;exact Go h1
  exact item_listR pl.isList h0 (by omega) (by rw [hj]; simpa using ew) fin hs
 ·have hj:(i+(aq.toArray.size:Int)).toNat=j:=by
   rw [seqIndex_neg (by omega) h4] at h1;rw [tz,<- hl];exact Go h1
  exact subscriptTail_builtinR (x:=w) pl.isList.typeIs slot_list_getitem.lookup
   (wpAny_getItem_list_neg (Q:=fun r s'=>r=w/\EP X π σ Q r s') pl.isList (by omega) (by rw [tz] <;> omega) (by omega) (by rw [hj]; simpa using ew) ⟨rfl,fin⟩) hs
def VP:gj X (KG X.K):=by
 intro value slice π s σ H x y v u Q I rx ry h hs;obtain ⟨p,xs,i,z,rfl,rfl,hq,he,q⟩:=h;cases rx;obtain ⟨t,rfl⟩:=ry;obtain ⟨aq,r,pl,hz⟩:=I.tuple hq;obtain ⟨j,h1,h2,h3,h4,h5⟩:=Ci he;obtain ⟨w,ew,rw'⟩:=r.get h2;have hl:=r.length;have hn:=r6;have fin:EP X π σ Q w s:=⟨z,H,I,rw',q⟩;exact subscriptTail_builtinR (x:=w) pl.typeIs slot_tuple_getitem.lookup
  (getItem_tuple (j:=j) (Q:=fun r s'=>r=w/\EP X π σ Q r s') pl (by omega) (by omega) (by rw [tz,<- hl]; exact h1) (by simpa using ew) ⟨rfl,fin⟩) hs
def Y4:gj X Ks:=by
 intro value slice π s σ H x y v u Q I rx ry h hs;obtain ⟨z,i,c,rfl,rfl,hz,he,q⟩:=h;obtain ⟨t,rfl⟩:=rx;obtain ⟨t',rfl⟩:=ry;obtain ⟨j,h1,h2,h3,h4,h5⟩:=Ci he;have hl:z.cps.toList.length=z.length:=by simp [Str.length]
 rw [hl] at h1 h4 h5;have hn:=r6;exact tail_any (_y s z t) slot_str_getitem.lookup (getItem_str (c:=c) (by
  have e1:decide (i < -(2 ^ 63:Int))=false:=pc (by omega);have e2:decide (i ≥ 2 ^ 63)=false:=pc (by omega);rw [e1,e2,Jai]) (by rw [h1]; simpa using h2) ⟨.str ⟨#[c]⟩,H,I.tok _,⟨_,rfl⟩,q⟩) hs
def Uw (K:ν):R2:=fun x y H Q=>IC K x y H Q\/KG K x y H Q\/Ks x y H Q
def Zm:gj X (Uw X.K):=UL.or (VP.or Y4)
def ZV (aq:List Value) (n j:Nat) (u:Value):Obj.mapSeq (·.setIfInBounds j u) { cls:=.type "list",data:=.seq aq.toArray n }={ cls:=.type "list",data:=.seq (aq.set j u).toArray n }:=by
 simp [Obj.mapSeq]
def Inv.lst {π:List (Addr×Obj)} {σ:St} {H:Hp} {s:Shared} {p:Addr} {xs:List V} (I:Inv X π σ H s) (h:H p=some (.lst xs)) :
  ∃ (aq:List Value) (n:Nat),Vals xs aq/\s.heap.get? p=some { cls:=.type "list",data:=.seq aq.toArray n }/\xs.length<=sizeLine:=by
 obtain ⟨z,aq,n,r,e⟩:=I.ay p _ h;exact ⟨aq,n,r,e,z⟩
def Inv.Rb {π:List (Addr×Obj)} {σ:St} {H:Hp} {s:Shared} {p:Addr} {xs ys:List V} {aq its':List Value} {n n':Nat} {f:Obj->Obj} (I:Inv X π σ H s) (h:H p=some (.lst xs))
  (ho:s.heap.get? p=some { cls:=.type "list",data:=.seq aq.toArray n }) (hf:f { cls:=.type "list",data:=.seq aq.toArray n }={ cls:=.type "list",data:=.seq its'.toArray n' }) (r:Vals ys its') (hz:ys.length<=sizeLine) (t:Nat) :
  Inv X π σ (upd H p (.lst ys)) { s with heap:=s.heap.update p f,toks:=t }:=by
 have e:(s.heap.update p f).get? p=some { cls:=.type "list",data:=.seq its'.toArray n' }:=by
  rw [Rs f ho (by rw [hf] <;> rfl),hf]
 refine I.write (x:=p) (e:=p) (by rw [h]; trivial) (.inl rfl) (fun b u hb q=>(GT _ _ (sB hb)).trans q) ⟨_,e⟩ ?_;exact ⟨hz,its',n',r,e⟩
def Xp:V->V->V->Hp->(Hp->Prop)->Prop:=fun o i v H Q=>∃ p xs k j,o=.ref p/\i=.int k/\H p=some (.lst xs)/\gF xs.length k=some j/\Q (upd H p (.lst (xs.set j v)))
def set_list:vK X Xp:=by
 intro π s σ H o i v ov iv u Q I ro ri rv h;obtain ⟨p,xs,k,j,rfl,rfl,hp,hj,q⟩:=h;cases ro;obtain ⟨t,rfl⟩:=ri;obtain ⟨aq,n,r,ho,hz⟩:=I.lst hp;obtain ⟨h1,h2,h3,h4⟩:=Ih hj;have hl:=r.length;have hn:=r6;have I':Inv X π σ (upd H p (.lst (xs.set j v))) { s with heap:=s.heap.update p (Obj.mapSeq (·.setIfInBounds j u)) } :=
  I.Rb hp ho (ZV aq n j u) (r.set rv j) (by rw [List.length_set]; exact hz) s.toks
 by_cases h0:0<=k
 ·have hk:k.toNat=j:=by
   rw [seqIndex_of h0 h4] at h1;exact Go h1
  exact PySem.W.ki_setAt ho h0 (by omega) (by rw [tz,<- hl]; exact h4) (by rw [hk]; exact ⟨_,I',q⟩)
 ·have hk:(k+(aq.toArray.size:Int)).toNat=j:=by
   rw [seqIndex_neg (by omega) h3] at h1;rw [tz,<- hl];exact Go h1
  exact PySem.W.ki_setBack ho (by omega) (by rw [tz,<- hl]; exact h3) (by omega) (by rw [hk]; exact ⟨_,I',q⟩)
def aaH (lo hi:Option Int) (n:Nat):(sliceBounds lo hi none n).1=((HT.dQ n 0 lo:Nat):Int)/\(sliceBounds lo hi none n).2.1=((HT.dQ n n hi:Nat):Int)/\(sliceBounds lo hi none n).2.2=1:=by
 refine ⟨?_,?_,rfl⟩
 ·cases lo with
  | none=>simp [sliceBounds,HT.dQ]
  | some i =>
   simp only [sliceBounds,HT.dQ,Option.getD_none,show (1:Int) > 0 by decide,Ja7];by_cases h:i < 0
   ·simp only [h,Ja7] <;> omega
   ·simp only [h,ZB] <;> omega
 ·cases hi with
  | none=>simp [sliceBounds,HT.dQ]
  | some i =>
   simp only [sliceBounds,HT.dQ,Option.getD_none,show (1:Int) > 0 by decide,Ja7];by_cases h:i < 0
   ·simp only [h,Ja7] <;> omega
   ·simp only [h,ZB] <;> omega
def PU (aq:List Value) (lo hi:Option Int):slicePick aq.toArray lo hi none=((aq.drop (HT.dQ aq.length 0 lo)).take (HT.dQ aq.length aq.length hi - HT.dQ aq.length 0 lo)).toArray:=by
 obtain ⟨h1,h2,h3⟩:=aaH lo hi aq.toArray.size;unfold slicePick;rw [h1,h2,h3];simp only [sliceRange_one,pick_run,tz] <;> rfl
def Xj (K:ν):V->Option Int->Option Int->Hp->VK->Prop:=fun x lo hi H Q=>∃ a xs,x=.ref a/\aD K H a xs/\∀ p,H p=none->Q (.ref p) (upd H p (.lst (gC xs lo hi)))
def XI:jP X (Xj X.K):=by
 intro π s σ H x v vl vu lo hi sl Q I rx hs pl pu h;obtain ⟨a,xs,rfl,hx,q⟩:=h;cases rx;obtain ⟨aq,r,ht,hz⟩:=I.list hx;have hlen:=r.length;refine ⟨"list",_,slot_list_getitem.lookup,ht.isList.typeIs,?_⟩;refine wpAny_getItem_list_slice ht.isList hs pl pu .none (by simp) ?_ (by rw [tz] <;> omega);rw [PU,<- hlen];refine ⟨.ref s.heap.objs.size,_,I.laid (t':=s.toks) (o:=.lst (gC xs lo hi)) (fun b ob q=>lv _ q) (sK _) ?_,rfl,q _ (I.ay.fresh (sK _))⟩;exact ⟨u8 (Sd xs lo hi) hz,_,0,(r.drop (HT.dQ xs.length 0 lo)).take (HT.dQ xs.length xs.length hi - HT.dQ xs.length 0 lo),ut _ rfl⟩
def dq:V->Bool
 | .aw=>true
 | .bl _=>true
 | .int _=>true
 | .str _=>true
 | _=>false
def fV:V->V->Bool
 | .aw,.aw=>true
 | .bl a,.bl b=>a == b
 | .bl a,.int b=>(if a then 1 else 0) == b
 | .int a,.bl b=>a == (if b then 1 else 0)
 | .int a,.int b=>a == b
 | .str a,.str b=>a == b
 | _,_=>false
def zX {A:Around} {s:Shared} {y x:V} {u v:Value} (ry:RelV y u) (rx:RelV x v) (fy:dq y=true) (fx:dq x=true):SeqAt.EqAt A s u v (fV y x):=by
 cases y with
 | aw =>
  cases ry;cases x with
  | aw=>cases rx; exact SeqAt.EqAt.same _
  | bl b=>cases rx; exact SeqAt.EqAt.none_bool b
  | int b=>obtain ⟨t,rfl⟩:=rx; exact SeqAt.EqAt.none_int b t
  | str b=>obtain ⟨t,rfl⟩:=rx; exact SeqAt.EqAt.none_str b t
  | _=>exact absurd (show false=true from fx) wf
 | bl a =>
  cases ry;cases x with
  | aw=>cases rx; exact SeqAt.EqAt.bool_none a
  | bl b=>cases rx; exact SeqAt.EqAt.bool_bool a b
  | int b=>obtain ⟨t,rfl⟩:=rx; exact SeqAt.EqAt.bool_int a b t
  | str b=>obtain ⟨t,rfl⟩:=rx; exact SeqAt.EqAt.bool_str a b t
  | _=>exact absurd (show false=true from fx) wf
 | int a =>
  obtain ⟨t',rfl⟩:=ry;cases x with
  | aw=>cases rx; exact SeqAt.EqAt.int_none a t'
  | bl b=>cases rx; exact SeqAt.EqAt.int_bool a t' b
  | int b=>obtain ⟨t,rfl⟩:=rx; exact SeqAt.EqAt.int_int a t' b t
  | str b=>obtain ⟨t,rfl⟩:=rx; exact SeqAt.EqAt.int_str a t' b t
  | _=>exact absurd (show false=true from fx) wf
 | str a =>
  obtain ⟨t',rfl⟩:=ry;cases x with
  | aw=>cases rx; exact SeqAt.EqAt.str_none a t'
  | bl b=>cases rx; exact SeqAt.EqAt.str_bool a t' b
  | int b=>obtain ⟨t,rfl⟩:=rx; exact SeqAt.EqAt.str_int a t' b t
  | str b=>obtain ⟨t,rfl⟩:=rx; exact SeqAt.EqAt.str_str a t' b t
  | _=>exact absurd (show false=true from fx) wf
 | _=>exact absurd (show false=true from fy) wf
def gz (x:V) (u:Value):Bool:=match u with
 | .none=>fV .aw x
 | .bool b=>fV (.bl b) x
 | .int i _=>fV (.int i) x
 | .str z _=>fV (.str z) x
 | _=>false
def Iz {x y:V} {u:Value} (r:RelV y u) (f:dq y=true):gz x u=fV y x:=by
 cases y with
 | aw=>cases r; rfl
 | bl b=>cases r; rfl
 | int i=>obtain ⟨t,rfl⟩:=r; rfl
 | str z=>obtain ⟨t,rfl⟩:=r; rfl
 | _=>exact absurd (show false=true from f) wf
def sA {x:V}:∀ {xs:List V} {us:List Value},Vals xs us->xs.all dq=true->us.any (gz x)=xs.any fun y=>fV y x
 | _,_,.nil,_=>rfl
 | y::xs,u::us,.cons r t,f=>by
  rw [KM,zn] at f;rw [_c,_c,Iz r f.1,sA t f.2]
def uN {A:Around} {s:Shared} {x:V} {v:Value} (rx:RelV x v) (fx:dq x=true):∀ {xs:List V} {us:List Value},Vals xs us->xs.all dq=true->∀ u∈us,SeqAt.EqAt A s u v (gz x u)
 | _,_,.nil,_=>fun u hu=>by cases hu
 | y::xs,u::us,.cons r t,f=>fun u' hu=>by
  rw [KM,zn] at f;rcases mo.mp hu with rfl | hu
  ·rw [Iz r f.1]; exact zX r rx f.1 fx
  ·exact uN rx fx t f.2 u' hu
def fO (x:V) (xs:List V):Bool:=xs.any fun y=>fV y x
def Lw (K:ν) (neg:Bool):R2:=fun x y H Q=>∃ p xs,y=.ref p/\(aD K H p xs\/bE K H p xs)/\dq x=true/\xs.all dq=true/\Q (.bl (if neg then !fO x xs else fO x xs)) H
def KC:bc X (compareOp .In) (Lw X.K false):=by
 intro π s σ H x y v u Q I rx ry h;obtain ⟨p,xs,rfl,hq,fx,fs,q⟩:=h;cases ry;rcases hq with hq | hq
 ·obtain ⟨aq,r,pl,hz⟩:=I.list hq;refine SeqAt.in_listAt (gz x) pl.isList (fun w hw=>uN rx fx r fs w (by simpa using hw)) ⟨.bl _,H,I,rfl,?_⟩;rw [show aq.toArray.any (gz x)=aq.any (gz x) by simp,sA r fs];exact q
 ·obtain ⟨aq,r,pl,hz⟩:=I.tuple hq;refine SeqAt.in_tupleAt (gz x) pl (fun w hw=>uN rx fx r fs w (by simpa using hw)) ⟨.bl _,H,I,rfl,?_⟩;rw [show aq.toArray.any (gz x)=aq.any (gz x) by simp,sA r fs];exact q
def aaC:bc X (compareOp .NotIn) (Lw X.K true):=by
 intro π s σ H x y v u Q I rx ry h;obtain ⟨p,xs,rfl,hq,fx,fs,q⟩:=h;cases ry;rcases hq with hq | hq
 ·obtain ⟨aq,r,pl,hz⟩:=I.list hq;refine SeqAt.notIn_listAt (gz x) pl.isList (fun w hw=>uN rx fx r fs w (by simpa using hw)) ⟨.bl _,H,I,rfl,?_⟩;rw [show aq.toArray.any (gz x)=aq.any (gz x) by simp,sA r fs];exact q
 ·obtain ⟨aq,r,pl,hz⟩:=I.tuple hq;refine SeqAt.notIn_tupleAt (gz x) pl (fun w hw=>uN rx fx r fs w (by simpa using hw)) ⟨.bl _,H,I,rfl,?_⟩;rw [show aq.toArray.any (gz x)=aq.any (gz x) by simp,sA r fs];exact q
def OC:cT X (.type "list") (fun xs H Q=>∃ p ys,xs=[.ref p]/\(aD X.K H p ys\/bE X.K H p ys)/\∀ l,H l=none->Q (.ref l) (upd H l (.lst ys))):=by
 intro π s σ H xs us Q I r h;obtain ⟨p,ys,rfl,hq,q⟩:=h;obtain ⟨u,rfl,rx⟩:=vals1 r;cases rx;have fin:∀ (aq:List Value),Vals ys aq->ys.length<=sizeLine->∀ (h':Heap) (c':Nat),(∀ b o',s.heap.get? b=some o'->h'.get? b=some o') ->
   h'.get? s.heap.objs.size=some { cls:=.type "list",dict:=none,data:=.seq aq.toArray c',slots:=#[] }->EP X π σ Q (.ref s.heap.objs.size) { s with heap:=h' }:=fun aq r' hz h' c' kp e =>
  ⟨.ref s.heap.objs.size,_,I.laid (t':=s.toks) kp (sK _) (show bG X.prog X.w _ h' _ (.lst ys) from ⟨hz,aq,c',r',e⟩),rfl,q _ (I.ay.fresh (sK _))⟩
 rcases hq with hq | hq
 ·obtain ⟨aq,r',pl,hz⟩:=I.list hq;have hlen:=r'.length;obtain ⟨o,ho,hc,n,hd⟩:=pl.isList;exact call_list_seq p (.inl rfl) ho hc hd (fun h' c' kp e=>fin aq r' hz h' c' kp e) (by simp only [tz] <;> omega)
 ·obtain ⟨aq,r',pl,hz⟩:=I.tuple hq;have hlen:=r'.length;obtain ⟨o,ho,hc,n,hd⟩:=pl;exact call_list_seq p (.inr rfl) ho hc hd (fun h' c' kp e=>fin aq r' hz h' c' kp e) (by simp only [tz] <;> omega)
def PL (K:ν) (T:String) (x:V) (H:Hp):Prop:=match x with
 | .str _=>T = "str"
 | .int _=>T = "int"
 | .ref p=>(T = "list" /\ ∃ xs,aD K H p xs)\/(T = "tuple" /\ ∃ o,K.lookup p=some o/\o.cls=.type "tuple" /\ o.dict=none) \/
   (T = "dict" /\ ((∃ kvs,H p=some (.dK kvs))\/∃ kvs,H p=some (.dT kvs)))\/(T = "set" /\ ∃ S n,H p=some (.set S n))
 | _=>False
def Cz {π:List (Addr×Obj)} {σ:St} {H:Hp} {s:Shared} {T:String} {x:V} {v:Value} (I:Inv X π σ H s) (r:RelV x v) (ty:PL X.K T x H) :
  s.TypeIs v T/\∀ a,v=.ref a->∃ ob,s.heap.get? a=some ob/\ob.dict=none:=by
 cases x with
 | str z =>
  obtain ⟨t,rfl⟩:=r;cases (show T = "str" from ty);exact ⟨_y s z t,fun _ e=>nomatch e⟩
 | int i =>
  obtain ⟨t,rfl⟩:=r;cases (show T = "int" from ty);exact ⟨typeIs_int s i t,fun _ e=>nomatch e⟩
 | ref p =>
  cases r;rcases ty with ⟨rfl,xs,hq⟩ | ⟨rfl,o,hk,hc,hd⟩ | ⟨rfl,hk⟩ | ⟨rfl,S,n,hk⟩
  ·obtain ⟨aq,_,pl,_⟩:=I.list hq;refine ⟨pl.isList.typeIs,fun a e=>?_⟩;cases e;obtain ⟨o,n,e,c,hd,_⟩:=pl;exact ⟨o,e,hd⟩
  ·refine ⟨⟨o,I.bR p o hk,hc⟩,fun a e=>?_⟩;cases e;exact ⟨o,I.bR _ o hk,hd⟩
  ·have z:∃ o,s.heap.get? p=some o/\o.ExactDict:=by
    rcases hk with ⟨kvs,hk⟩ | ⟨kvs,hk⟩
    ·obtain ⟨_,_,_,_,o,_,_,e,ex,_⟩:=I.ay p _ hk;exact ⟨o,e,ex⟩
    ·obtain ⟨_,_,_,_,o,_,_,e,ex,_⟩:=I.ay p _ hk;exact ⟨o,e,ex⟩
   obtain ⟨o,e,ex⟩:=z;refine ⟨⟨o,e,ex.1⟩,fun a e2=>?_⟩;cases e2;exact ⟨o,e,ex.2.1⟩
  ·obtain ⟨o,_,_,_,e,ex,_⟩:=I.ay p _ hk;refine ⟨⟨o,e,ex.1⟩,fun a e2=>?_⟩;cases e2;exact ⟨o,e,ex.2.1⟩
 | _=>exact False.elim ty
variable {o e:Expr} {es:List Expr} {to:TE} {t:TA} {name:Str} {apos bt:Pos} {T id:String} {r:V->List V->Hp->VK->Prop}
/- xs.append(e),list.index on a module's tuple .. are ei facts of 06m -/
end
def Dp (X:Cx) (id:String) (r:V->List V->Hp->VK->Prop):Prop :=
 ∀ (π:List (Addr×Obj)) (s:Shared) (σ:St) (H:Hp) (x:V) (xs:List V) (v:Value) (us:List Value) (Q:VK),Inv X π σ H s->RelV x v->Vals xs us->r x xs H Q ->
  wpAny (model X.prog X.w) X.A (call (.builtin id) (v::us)) (EP X π σ Q) X.xe s
def Vals.one:∀ {x:V} {us:List Value},Vals [x] us->∃ u,us=[u]/\RelV x u
 | _,_,.cons r .nil=>⟨_,rfl,r⟩
def Vals.zero:∀ {us:List Value},Vals [] us->us=[]
 | _,.nil=>rfl
def Vals.dropLast {xs:List V} {us:List Value} (h:Vals xs us):Vals xs.dropLast us.dropLast:=by
 induction h with
 | nil=>exact .nil
 | cons r t ih =>
  cases t with
  | nil=>exact .nil
  | cons q t'=>exact .cons r ih
def Vals.rep {xs:List V} {us:List Value} (h:Vals xs us):∀ k:Nat,Vals (List.replicate k xs).flatten (List.replicate k us).flatten
 | 0=>.nil
 | k+1=>by
  rw [_e,_e,_O,_O];exact Vals.append h (Vals.rep h k)
def YF {α:Type} (l:List α):l.eraseIdx (l.length - 1)=l.dropLast:=by
 induction l with
 | nil=>rfl
 | cons a r ih =>
  cases r with
  | nil=>rfl
  | cons b r =>
   have e:(a::b::r).length - 1=((b::r).length - 1)+1:=by
    have h1:(a::b::r).length=r.length+2:=rfl;have h2:(b::r).length=r.length+1:=rfl;omega
   rw [e,List.eraseIdx_cons_succ,ih]
   all_goals rfl
def foldl_rep (aq:List Value):∀ (k:Nat) (acc:List Value),
  List.foldl (fun x1 x2=>x1++x2) acc.toArray (List.replicate k aq.toArray)=(acc++(List.replicate k aq).flatten).toArray
 | 0,acc=>by simp
 | k+1,acc=>by
  have e:acc.toArray++aq.toArray=(acc++aq).toArray:=by simp
  have e2:(acc++aq)++(List.replicate k aq).flatten=acc++(List.replicate (k+1) aq).flatten:=by
   rw [_e,_O,_w]
  rw [<- e2,<- foldl_rep aq k (acc++aq),<- e,_e,List.foldl_cons]
section
variable {X:Cx} {π:List (Addr×Obj)} {σ:St} {H:Hp} {s:Shared} {l b:Addr} {xs ys zs:List V}
def Inv.zM {aq its':List Value} {n:Nat} {f:Array Value->Array Value} {t':Nat} (I:Inv X π σ H s) (hH:H l=some (.lst xs))
  (e:s.heap.get? l=some { cls:=.type "list",data:=.seq aq.toArray n }) (hf:f aq.toArray=its'.toArray) (hv:Vals ys its') (hz:ys.length<=sizeLine) :
  Inv X π σ (upd H l (.lst ys)) { s with heap:=s.heap.update l (Obj.mapSeq f),toks:=t' }:=by
 have q:=PySem.IsL.update e f;rw [hf] at q;refine I.write (x:=l) (e:=l) (by rw [hH]; exact trivial) (.inl rfl) (fun b' u hb hu=>(GT s.heap (Obj.mapSeq f) (sB hb)).trans hu) ⟨_,q⟩ ?_;exact ⟨hz,its',_,hv,q⟩
def Inv.K3 {aq:List Value} {t':Nat} (I:Inv X π σ H s) (hv:Vals ys aq) (hz:ys.length<=sizeLine) :
  Inv X π σ (upd H s.heap.objs.size (.lst ys)) { s with heap:=s.heap.push { cls:=.type "list",data:=.seq aq.toArray },toks:=t' } :=
 I.laid (fun _ _ q=>lv _ q) (sK _) ⟨hz,aq,0,hv,ut _ rfl⟩
def Inv.fresh (I:Inv X π σ H s):H s.heap.objs.size=none:=I.ay.fresh (sK _)
def Inv.oB (I:Inv X π σ H s) (hH:H l=some (.lst xs)):xs.length<=sizeLine/\∃ (aq:List Value) (n:Nat),Vals xs aq/\xs.length=aq.length/\s.heap.get? l=some { cls:=.type "list",data:=.seq aq.toArray n }:=by
 obtain ⟨z,aq,n,r,e⟩:=I.ay l _ hH;exact ⟨z,aq,n,r,r.length,e⟩
def HG {n:Nat} (h:n<=sizeLine):Builtin.List.listTooLong n=false:=by
 unfold Builtin.List.listTooLong;exact pc (by omega)
end
section
variable {X:Cx}
def abl:V->List V->Hp->VK->Prop:=fun x vs H Q=>∃ l xs y,x=.ref l/\vs=[y]/\H l=some (.lst xs)/\xs.length < sizeLine/\Q .aw (upd H l (.lst (xs++[y])))
def Sv:Dp X "list.append" abl:=by
 intro π s σ H x vs v us Q I rx rv h;obtain ⟨l,xs,y,rfl,rfl,hH,hz,q⟩:=h;cases rx;obtain ⟨u,rfl,ru⟩:=rv.one;obtain ⟨z,aq,n,r,hl,e⟩:=I.oB hH;refine SL F.slot_list_append ⟨_,e,rfl⟩ F.entry_list_append (F.args_list_append_2 _ _) (PySem.list_append l aq.toArray n u (by rw [tz]; omega)) ⟨e,?_⟩;refine ⟨.aw,_,I.zM (its':=aq++[u]) hH e (by simp) (r.append (.cons ru .nil)) ?_,rfl,q⟩;rw [wE,List.length_singleton];omega
def RY:V->List V->Hp->VK->Prop:=fun x vs H Q=>∃ l b xs zs,x=.ref l/\vs=[.ref b]/\H l=some (.lst xs)/\H b=some (.lst zs)/\xs.length+zs.length<=sizeLine/\Q .aw (upd H l (.lst (xs++zs)))
def Tr:Dp X "list.extend" RY:=by
 intro π s σ H x vs v us Q I rx rv h;obtain ⟨l,b,xs,zs,rfl,rfl,hH,hB,hz,q⟩:=h;cases rx;obtain ⟨u,rfl,ru⟩:=rv.one;cases ru;obtain ⟨z,aq,n,r,hl,e⟩:=I.oB hH;obtain ⟨z2,mW,n2,r2,cf,e2⟩:=I.oB hB;have hsz:aq.toArray.size+mW.toArray.size<=sizeLine:=by rw [tz,tz]; omega
 have DW:¬ (!aq.toArray.isEmpty && Builtin.List.listTooLong (aq.toArray.size+mW.toArray.size))=true:=by
  rw [HG hsz,Bool.and_false];exact wf
 refine SL F.slot_list_extend ⟨_,e,rfl⟩ F.entry_list_extend (F.args_list_extend_2 _ _)
  (AutoSeq1.list_extend_list_list_0 l aq.toArray n b mW.toArray n2 DW (by rw [tz]; omega) (by omega)) ⟨e,e2,?_⟩
 refine ⟨.aw,_,I.zM (its':=aq++mW) hH e (by simp) (r.append r2) ?_,rfl,q⟩;rw [wE];omega
def Gk:V->List V->Hp->VK->Prop:=fun x vs H Q=>∃ l xs y,x=.ref l/\vs=[]/\H l=some (.lst xs)/\xs[xs.length - 1]?=some y/\Q y (upd H l (.lst xs.dropLast))
def Q3:Dp X "list.pop" Gk:=by
 intro π s σ H x vs v us Q I rx rv h;obtain ⟨l,xs,y,rfl,rfl,hH,hy,q⟩:=h;cases rx;have hus:=rv.zero;subst hus;obtain ⟨z,aq,n,r,hl,e⟩:=I.oB hH;obtain ⟨u,hu,ru⟩:=r.get hy;have hy':aq.toArray[aq.toArray.size - 1]?=some u:=by
  show aq.toArray[aq.length - 1]?=some u;rw [<- Sc,<- hl];exact hu
 refine SL F.slot_list_pop ⟨_,e,rfl⟩ F.entry_list_pop (F.args_list_pop_1 _) (MeetsSeq.list_pop_last l aq.toArray n u hy' (by rw [tz]; omega)) ⟨e,?_⟩;refine ⟨y,_,I.zM (its':=aq.dropLast) hH e ?_ r.dropLast ?_,ru,q⟩
 ·show aq.toArray.eraseIdxIfInBounds (aq.toArray.size - 1)=aq.dropLast.toArray;rw [tz,List.eraseIdxIfInBounds_toArray,YF]
 ·rw [List.length_dropLast];omega
def Za:R2:=fun x y H Q=>∃ l b xs zs,x=.ref l/\y=.ref b/\H l=some (.lst xs)/\H b=some (.lst zs)/\xs.length+zs.length<=sizeLine/\∀ p,H p=none->Q (.ref p) (upd H p (.lst (xs++zs)))
def WC:bc X (binaryOp .Add) Za:=by
 intro π s σ H x y v u Q I rx ry h;obtain ⟨l,b,xs,zs,rfl,rfl,hH,hB,hz,q⟩:=h;cases rx;cases ry;obtain ⟨z,aq,n,r,hl,e⟩:=I.oB hH;obtain ⟨z2,mW,n2,r2,cf,e2⟩:=I.oB hB;refine PySem.P.add_list e e2 ?_ (by rw [tz,tz]; omega);have ea:aq.toArray++mW.toArray=(aq++mW).toArray:=by simp
 rw [ea];exact ⟨.ref _,_,I.K3 (t':=s.toks) (r.append r2) (by rw [wE]; omega),rfl,q _ I.fresh⟩
def Od:R2:=fun x y H Q=>∃ l k xs,x=.ref l/\y=.int k/\H l=some (.lst xs)/\-(2 ^ 63)<=k/\k < 2 ^ 63/\xs.length * k.toNat<=sizeLine /\
 ∀ p,H p=none->Q (.ref p) (upd H p (.lst (List.replicate k.toNat xs).flatten))
def len_rep {α:Type} (xs:List α) (k:Nat):(List.replicate k xs).flatten.length=k * xs.length:=by
 induction k with
 | zero=>simp
 | succ k ih=>rw [_e,_O,wE,ih,Nat.succ_mul,Nat.add_comm]
def Zc:bc X (binaryOp .Mult) Od:=by
 intro π s σ H x y v u Q I rx ry h;obtain ⟨l,k,xs,rfl,rfl,hH,h1,h2,hz,q⟩:=h;cases rx;obtain ⟨t,rfl⟩:=ry;obtain ⟨z,aq,n,r,hl,e⟩:=I.oB hH;have hlen:aq.toArray.size * k.toNat<=sizeLine:=by rw [tz,<- hl]; exact hz
 have hcap:¬ aq.toArray.size * k.toNat > (2 ^ 63 - 1) / 8:=by
  have:(sizeLine:Nat)<=(2 ^ 63 - 1) / 8:=by decide
  omega
 have EW:¬ (!Builtin.List.listFitsIndex k)=true:=by
  rw [fitsIndex_both h1 h2];exact wf
 have DW:¬ Builtin.List.listTooLong (aq.toArray.size * k.toNat)=true:=by
  rw [HG hlen];exact wf
 have rM:List.foldl (fun x1 x2=>x1++x2) #[] (List.replicate (if aq.toArray.isEmpty=true then 0 else k.toNat) aq.toArray)=(List.replicate k.toNat aq).flatten.toArray:=by
  have f0:∀ m:Nat,List.foldl (fun x1 x2=>x1++x2) #[] (List.replicate m aq.toArray)=(List.replicate m aq).flatten.toArray:=fun m=>by
   have:=foldl_rep aq m [];rw [List.nil_append] at this;exact this
  rw [f0];cases aq with
  | nil=>simp
  | cons a r'=>rw [xL (by simp)]
 refine wpAny_binaryOp_repeat_ref (T := "list") (U := "int") (by decide) ⟨_,e,rfl⟩ (fun s'=>typeIs_int s' k t) noFill_list_mul F.fills_int_mul F.slot_int_rmul repeat_list F.slot_int_index.lookup
  (SL F.slot_int_rmul (typeIs_int s k t) F.entry_int_rmul (F.args_int_rmul_2 _ _) (int___rmul___int_list k t l aq.toArray n)
   ⟨e,rfl,⟨_,e,rfl⟩,SL F.slot_list_mul ⟨_,e,rfl⟩ F.entry_list_mul (F.args_list_mul_2 _ _) (AutoListH.list___mul___list_int_3 l aq.toArray n k t EW hcap DW) ⟨e,?_⟩⟩)
 rw [rM];exact ⟨.ref _,_,I.K3 (t':=s.toks) (r.rep k.toNat) (by rw [len_rep,Nat.mul_comm]; exact hz),rfl,q _ I.fresh⟩
end
section
variable {prog:Program} {w:World} {A:Around} {E:Value->Shared->Prop} {s:Shared}
end
section
variable {X:Cx}
end
section
variable {κ:Type} [DecidableEq κ]
def aG (kvs:List (κ×V)) (k:κ):Option V:=(kvs.find? fun kv=>decide (kv.1=k)).map (·.2)
def putK (kvs:List (κ×V)) (k:κ) (v:V):List (κ×V) :=
 if (kvs.any fun kv=>decide (kv.1=k))=true then kvs.map (fun kv=>if kv.1=k then (kv.1,v) else kv) else kvs++[(k,v)]
def oC {p:κ×V} {r:List (κ×V)} {k:κ} (e:p.1=k):aG (p::r) k=some p.2:=by simp [aG,Wp,e]
def oE {p:κ×V} {r:List (κ×V)} {k:κ} (e:¬ p.1=k):aG (p::r) k=aG r k:=by simp [aG,Wp,e]
def xK (k:κ):∀ kvs:List (κ×V),(kvs.any fun kv=>decide (kv.1=k))=(aG kvs k).isSome
 | []=>rfl
 | p::r=>by
  rw [_c];by_cases e:p.1=k
  ·simp only [oC e,wP e,Bool.true_or,Option.isSome_some]
  ·rw [oE e,pc e,Bool.false_or]; exact xK k r
def Jc (k j:κ) (y:V):∀ kvs:List (κ×V),aG kvs k=none->aG (kvs++[(k,y)]) j=if j=k then some y else aG kvs j
 | [],_=>by
  by_cases e:k=j
  ·rw [AC e.symm]; exact oC (p:=(k,y)) e
  ·rw [xL (fun z=>e z.symm)]; exact oE (p:=(k,y)) e
 | p::r,hn=>by
  rw [List.cons_append];have hk:¬ p.1=k:=fun z=>by rw [oC z] at hn; cases hn
  rw [oE hk] at hn;have ih:=Jc k j y r hn;by_cases e:p.1=j
  ·rw [oC e,oC e,xL (fun z=>hk (e.trans z))]
  ·rw [oE e,oE e,ih]
def Ii (kvs:List (κ×V)) (k:κ) (v:V):(putK kvs k v).length<=kvs.length+1:=by
 unfold putK;split
 ·rw [pp]; omega
 ·rw [wE,Gc,_7]; omega
def ZD {kvs:List (κ×V)} {k:κ} (v:V) (h:aG kvs k=none):putK kvs k v=kvs++[(k,v)]:=by
 unfold putK;rw [xK,h];exact xL (by decide)
def e9.uj {o:Option V} {u:Option Value} (r:e9 o u):o.isSome=u.isSome:=by
 cases o with
 | none=>cases u with
  | none=>rfl
  | some _=>exact (show False from r).elim
 | some _=>cases u with
  | none=>exact (show False from r).elim
  | some _=>rfl
def e9.getD {o:Option V} {u:Option Value} {d:V} {d':Value} (r:e9 o u) (rd:RelV d d'):RelV (o.getD d) (u.getD d'):=by
 cases o with
 | none=>cases u with
  | none=>exact rd
  | some _=>exact (show False from r).elim
 | some _=>cases u with
  | none=>exact (show False from r).elim
  | some _=>exact r
def KV.val {kvs:List (κ×V)} {vs:List (κ×Value)} (r:KV kvs vs) (k:κ):e9 (aG kvs k) (valueAt vs k):=by
 unfold KV at r
 induction r with
 | nil=>exact True.intro
 | @cons p q ps qs h t ih =>
  obtain ⟨h1,h2⟩:=h;by_cases e:p.1=k
  ·have e':q.1=k:=h1.symm.trans e;have b:valueAt (q::qs) k=some q.2:=by simp [valueAt,Wp,e']
   rw [oC e,b]; exact h2
  ·have e':¬ q.1=k:=fun z=>e (h1.trans z);have b:valueAt (q::qs) k=valueAt qs k:=by simp [valueAt,Wp,e']
   rw [oE e,b]; exact ih
def KV.any {kvs:List (κ×V)} {vs:List (κ×Value)} (r:KV kvs vs) (k:κ):(kvs.any fun kv=>decide (kv.1=k))=vs.any fun kv=>decide (kv.1=k):=by
 unfold KV at r
 induction r with
 | nil=>rfl
 | cons h t ih=>rw [_c,_c,ih,h.1]
def KV.Al {kvs:List (κ×V)} {vs:List (κ×Value)} (r:KV kvs vs) (k:κ) {y:V} {u:Value} (ry:RelV y u) :
  KV (kvs.map fun kv=>if kv.1=k then (kv.1,y) else kv) (vs.map fun kv=>if kv.1=k then (kv.1,u) else kv):=by
 unfold KV at r ⊢
 induction r with
 | nil=>exact .nil
 | @cons p q ps qs h t ih =>
  rw [Ch,Ch];refine .cons ?_ ih;obtain ⟨h1,h2⟩:=h;by_cases e:p.1=k
  ·rw [AC e,AC (h1.symm.trans e)]; exact ⟨h1,ry⟩
  ·rw [xL e,xL (fun z=>e (h1.trans z))]; exact ⟨h1,h2⟩
def KV.put {kvs:List (κ×V)} {vs:List (κ×Value)} (r:KV kvs vs) (k:κ) {y:V} {u:Value} (ry:RelV y u):KV (putK kvs k y) (stored vs k u):=by
 unfold putK stored;rw [r.any k];by_cases e:(vs.any fun kv=>decide (kv.1=k))=true
 ·rw [AC e,AC e]; exact r.Al k ry
 ·rw [xL e,xL e]; exact Paired.snoc r ⟨rfl,ry⟩
def KV.keys {kvs:List (κ×V)} {vs:List (κ×Value)} (r:KV kvs vs):kvs.map (·.1)=vs.map (·.1):=by
 unfold KV at r
 induction r with
 | nil=>rfl
 | cons h t ih=>rw [Ch,Ch,ih,h.1]
def KV.length {kvs:List (κ×V)} {vs:List (κ×Value)} (r:KV kvs vs):kvs.length=vs.length:=Paired.length r
end
def nG {P:Program} {w:World} {k:Key} {u:Value} (r:RelV (kV k) u):(dM P w).is k u=true:=by
 cases k with
 | inl i=>obtain ⟨t,e⟩:=(show ∃ t,u=Value.int i t from r); subst e; exact SQ P w i t
 | inr x=>obtain ⟨t,e⟩:=(show ∃ t,u=Value.str x t from r); subst e; exact Uu P w x t
def KN {P:Program} {w:World}:∀ {ks:List Key} {us:List Value},Vals (ks.map kV) us->ItemsAre (dM P w) ks us
 | [],_,r=>by rw [Tk] at r; cases r; exact .nil
 | k::ks,_,r=>by
  rw [Ch] at r;cases r with
  | cons h t=>exact .cons (nG h) (KN t)
abbrev KT (H:Hp):List (List Key×V)->List (List Key×Addr×Value)->Prop:=Paired fun p q=>p.1=q.1/\H q.2.1=some (.tup (p.1.map kV))/\RelV p.2 q.2.2
def KT.val {H:Hp} {kvs:List (List Key×V)} {xs:List (List Key×Addr×Value)} (r:KT H kvs xs) (k:List Key):e9 (aG kvs k) ((atKey xs k).map (·.2)):=by
 induction r with
 | nil=>exact True.intro
 | @cons p q ps qs h t ih =>
  obtain ⟨h1,_,h2⟩:=h;by_cases e:p.1=k
  ·have e':q.1=k:=h1.symm.trans e;have b:atKey (q::qs) k=some q.2:=by simp [atKey,Wp,e']
   rw [oC e,b]; exact h2
  ·have e':¬ q.1=k:=fun z=>e (h1.trans z);have b:atKey (q::qs) k=atKey qs k:=by simp [atKey,Wp,e']
   rw [oE e,b]; exact ih
def KT.Al {H:Hp} {kvs:List (List Key×V)} {xs:List (List Key×Addr×Value)} (r:KT H kvs xs) (k:List Key) {y:V} {u:Value} (ry:RelV y u) :
  KT H (kvs.map fun kv=>if kv.1=k then (kv.1,y) else kv) (xs.map (putAt k u)):=by
 induction r with
 | nil=>exact .nil
 | @cons p q ps qs h t ih =>
  rw [Ch,Ch];refine .cons ?_ ih;obtain ⟨h1,h2,h3⟩:=h;unfold putAt;by_cases e:p.1=k
  ·rw [AC e,AC (h1.symm.trans e)]; exact ⟨h1,h2,ry⟩
  ·rw [xL e,xL (fun z=>e (h1.trans z))]; exact ⟨h1,h2,h3⟩
def KT.put {H:Hp} {kvs:List (List Key×V)} {xs:List (List Key×Addr×Value)} (r:KT H kvs xs) (k:List Key) {b:Addr} {y:V} {u:Value} (hb:H b=some (.tup (k.map kV))) (ry:RelV y u) :
  KT H (putK kvs k y) (storedH xs k b u):=by
 have e:(kvs.any fun kv=>decide (kv.1=k))=(atKey xs k).isSome:=by
  rw [xK,(r.val k).uj,Option.isSome_map]
 unfold putK storedH;rw [e];by_cases q:(atKey xs k).isSome=true
 ·rw [AC q,AC q]; exact r.Al k ry
 ·rw [xL q,xL q]; exact Paired.snoc r ⟨rfl,hb,ry⟩
def KT.keeps {H H':Hp} {kvs:List (List Key×V)} {xs:List (List Key×Addr×Value)} (r:KT H kvs xs) (ht:∀ b ys,H b=some (.tup ys)->H' b=some (.tup ys)):KT H' kvs xs :=
 Paired.Ay r fun _ _ z=>⟨z.1,ht _ _ z.2.1,z.2.2⟩
section
variable {P:Program} {w:World} {H:Hp} {h:Heap} {a:Addr}
def Jj {u:HO} (ok:cj P w H h) (e:Rd H a u):bG P w H h a u:=e.ok ok
def nS {kvs:List (Key×V)} (ok:cj P w H h) (e:Rd H a (.dK kvs)):kvs.length<=sizeLine/\(a == sysModules)=false/\∃ vs,KV kvs vs/\h.DictOf (dM P w) a vs :=
 show bG P w H h a (.dK kvs) from Jj ok e
def XJ {kvs:List (Key×V)} (ok:cj P w H h) (e:H a=some (.dK kvs)):kvs.length<=sizeLine/\(a == sysModules)=false/\∃ vs,KV kvs vs/\h.DictOf (dM P w) a vs:=nS ok (.inl e)
def rk {ks:List Key} (ok:cj P w H h) (e:H a=some (.tup (ks.map kV))):(tupleKind (dM P w)).is h ks a:=by
 obtain ⟨_,aq,r,o,h1,h2,n,h3⟩:=(show bG P w H h a (.tup (ks.map kV)) from ok a _ e);exact ⟨o,aq.toArray,n,h1,h2,h3.1,by simpa using KN r⟩
def ou {kvs:List (List Key×V)} (ok:cj P w H h) (e:Rd H a (.dT kvs)):kvs.length<=sizeLine/\(a == sysModules)=false /\
  ∃ xs,KT H kvs xs/\h.DictOfH (tupleKind (dM P w)) a xs:=by
 obtain ⟨z,y,xs,r,o,es,ep,h1,h2,h3,h4,h5⟩:=(show bG P w H h a (.dT kvs) from Jj ok e);refine ⟨z,y,xs,r,o,es,ep,h1,h2,h3,h4,fun x hx=>?_,h5⟩;have all:∀ {l:List (List Key×V)} {m:List (List Key×Addr×Value)},KT H l m->∀ x∈m,(tupleKind (dM P w)).is h x.1 x.2.1:=by
  intro l m q
  induction q with
  | nil=>intro x hx; exact nomatch hx
  | @cons p q ps qs hq t ih =>
   intro x hx;rcases mo.mp hx with e | hx
   ·subst e;exact rk ok (by rw [<- hq.1]; exact hq.2.1)
   ·exact ih x hx
 exact all r x hx
def TK {kvs:List (List Key×V)} (ok:cj P w H h) (e:H a=some (.dT kvs)):kvs.length<=sizeLine/\(a == sysModules)=false /\
  ∃ xs,KT H kvs xs/\h.DictOfH (tupleKind (dM P w)) a xs:=ou ok (.inl e)
end
def eF (H:Hp) (a:Addr) (y:V) (r:Option V):Prop :=
 (∃ kvs k,Rd H a (.dK kvs)/\y=kV k/\r=aG kvs k)\/∃ kvs k b,Rd H a (.dT kvs)/\y=.ref b/\H b=some (.tup (k.map kV))/\r=aG kvs k
def jj (H:Hp) (a:Addr) (y v:V) (H':Hp):Prop :=
 (∃ kvs k,H a=some (.dK kvs)/\y=kV k/\kvs.length < sizeLine/\H'=upd H a (.dK (putK kvs k v))) \/
 ∃ kvs k b,H a=some (.dT kvs)/\y=.ref b/\H b=some (.tup (k.map kV))/\kvs.length < sizeLine/\H'=upd H a (.dT (putK kvs k v))
def eF.k {H:Hp} {a:Addr} {kvs:List (Key×V)} {k:Key} (e:H a=some (.dK kvs)):eF H a (kV k) (aG kvs k):=.inl ⟨kvs,k,.inl e,rfl,rfl⟩
def jj.k {H:Hp} {a:Addr} {kvs:List (Key×V)} {k:Key} {v:V} (e:H a=some (.dK kvs)) (hl:kvs.length < sizeLine):jj H a (kV k) v (upd H a (.dK (putK kvs k v))):=.inl ⟨kvs,k,e,rfl,hl,rfl⟩
def jj.t {H:Hp} {a b:Addr} {kvs:List (List Key×V)} {k:List Key} {v:V} (e:H a=some (.dT kvs)) (eb:H b=some (.tup (k.map kV))) (hl:kvs.length < sizeLine) :
  jj H a (.ref b) v (upd H a (.dT (putK kvs k v))):=.inr ⟨kvs,k,b,e,rfl,eb,hl,rfl⟩
section
variable {X:Cx} {π:List (Addr×Obj)} {σ:St} {H:Hp} {s:Shared} {a:Addr} {y v:V} {u r:Value} {o:Option V} {A:Around} {E:Value->Shared->Prop}
def Inv.big (I:Inv X π σ H s):sysModules < s.heap.objs.size:=by
 have h:mainGlobals < s.heap.objs.size:=(I.mod.glob.keeps I.bk).lt;exact Nat.lt_trans (by decide) h
def PR {Q:Value->Shared->Prop} (hu:A.units+1 < cLine) (I:Inv X π σ H s) (g:eF H a y (some v)) (ry:RelV y u) (h:∀ w' s',Inv X π σ H s'->RelV v w'->Q w' s') :
  wpAny (model X.prog X.w) A (getItem (.ref a) u) Q E s:=by
 rcases g with ⟨kvs,k,e,ey,l⟩ | ⟨kvs,k,b,e,ey,eb,l⟩
 ·subst ey;obtain ⟨z,hd,vs,rel,dd⟩:=nS I.ay e;obtain ⟨w',hw,rw'⟩:=e9.some_of (v:=v) (o:=valueAt vs k) (by rw [l]; exact rel.val k);exact wpAny_getItem_of (nG ry) dd.mapOf hw (h w' _ (I.tok _) rw')
 ·subst ey;cases (show u=Value.ref b from ry);obtain ⟨z,hd,xs,rel,dd⟩:=ou I.ay e;obtain ⟨w',hw,rw'⟩:=e9.some_of (v:=v) (o:=(atKey xs k).map (·.2)) (by rw [l]; exact rel.val k);obtain ⟨p,hp,cg⟩:=PP.mp hw;refine wpAny_getItem_heap (_n hu) (rk I.ay eb) dd hp ?_;rw [cg];exact h w' _ (I.tok _) rw'
def WU {Q:Value->Shared->Prop} (hu:A.units+1 < cLine) (I:Inv X π σ H s) (g:eF H a y o) (ry:RelV y u) (h:∀ s',Inv X π σ H s'->Q (.bool o.isSome) s') :
  wpAny (model X.prog X.w) A (compareOp .In u (.ref a)) Q E s:=by
 rcases g with ⟨kvs,k,e,ey,l⟩ | ⟨kvs,k,b,e,ey,eb,l⟩
 ·subst ey;obtain ⟨z,hd,vs,rel,dd⟩:=nS I.ay e;refine wpAny_in_of (nG ry) hd dd.mapOf ?_;rw [<- (rel.val k).uj,<- l];exact h _ (I.tok _)
 ·subst ey;cases (show u=Value.ref b from ry);obtain ⟨z,hd,xs,rel,dd⟩:=ou I.ay e;refine wpAny_in_heap (_n hu) (rk I.ay eb) hd dd ?_;have q:=(rel.val k).uj;rw [Option.isSome_map] at q;rw [<- q,<- l];exact h _ (I.tok _)
def Uj {Q:Value->Shared->Prop} (hu:A.units+1 < cLine) (I:Inv X π σ H s) (g:eF H a y o) (ry:RelV y u) (h:∀ s',Inv X π σ H s'->Q (.bool (!o.isSome)) s') :
  wpAny (model X.prog X.w) A (compareOp .NotIn u (.ref a)) Q E s:=by
 rcases g with ⟨kvs,k,e,ey,l⟩ | ⟨kvs,k,b,e,ey,eb,l⟩
 ·subst ey;obtain ⟨z,hd,vs,rel,dd⟩:=nS I.ay e;refine wpAny_notIn_of (nG ry) hd dd.mapOf ?_;rw [<- (rel.val k).uj,<- l];exact h _ (I.tok _)
 ·subst ey;cases (show u=Value.ref b from ry);obtain ⟨z,hd,xs,rel,dd⟩:=ou I.ay e;refine wpAny_notIn_heap (_n hu) (rk I.ay eb) hd dd ?_;have q:=(rel.val k).uj;rw [Option.isSome_map] at q;rw [<- q,<- l];exact h _ (I.tok _)
def Iu {h':Heap} {t':Nat} {ob:HO} (I:Inv X π σ H s) (mu:sG (H a)) (hs:Heap.SameBut a s.heap h') (he:∃ q,h'.get? a=some q) (new:bG X.prog X.w (upd H a ob) h' a ob) :
  Inv X π σ (upd H a ob) { s with heap:=h',toks:=t' } :=
 I.write (x:=a) (e:=a) mu (.inl rfl) (fun b q hb z=>(hs.2 b hb).trans z) he new
def GQ {P:Program} {w:World} {H':Hp} {h':Heap} {kvs:List (Key×V)} {vs:List (Key×Value)} (z:kvs.length<=sizeLine) (hd:(a == sysModules)=false) (rel:KV kvs vs) (dd:h'.DictOf (dM P w) a vs) :
  bG P w H' h' a (.dK kvs):=⟨z,hd,vs,rel,dd⟩
def aaw {H':Hp} {Q:Unit->Shared->Prop} (hu:A.units+1 < cLine) (I:Inv X π σ H s) (g:jj H a y v H') (ry:RelV y u) (rv:RelV v r) (h:∀ s',Inv X π σ H' s'->Q () s') :
  wpAny (model X.prog X.w) A (setItem (.ref a) u r) Q E s:=by
 rcases g with ⟨kvs,k,e,ey,l,eH⟩ | ⟨kvs,k,b,e,ey,eb,l,eH⟩
 ·subst ey eH;obtain ⟨z,hd,vs,rel,dd⟩:=XJ I.ay e;have hz:vs.length<=sizeLine:=by rw [<- rel.length]; exact z
  have hl:(putK kvs k v).length<=sizeLine:=by have:=Ii kvs k v; omega
  refine wpAny_setItem_pairs (hsz:=hz) (nG ry) dd fun h' dd' hs=>h _ ?_;have he:∃ q,h'.get? a=some q:=let ⟨q,_,_,hq,_⟩:=dd'; ⟨q,hq⟩
  exact Iu I (by rw [e]; exact True.intro) hs he (GQ hl hd (rel.put k rv) dd')
 ·subst ey eH;cases (show u=Value.ref b from ry);obtain ⟨z,hd,xs,rel,dd⟩:=TK I.ay e;have hz:xs.length<=sizeLine:=by rw [<- Paired.length rel]; exact z
  have hl:(putK kvs k v).length<=sizeLine:=by have:=Ii kvs k v; omega
  refine wpAny_setItem_heap (hsz:=hz) (_n hu) (rk I.ay eb) dd fun h' dd' hs=>h _ ?_;obtain ⟨q,es,ep,hq,h2,h3,h4,_,h5⟩:=dd';refine Iu I (by rw [e]; exact True.intro) hs ⟨q,hq⟩ ⟨hl,hd,_,(rel.put k eb rv).keeps fun c ys ec=>?_,q,es,ep,hq,h2,h3,h4,h5⟩;rw [aj (So ec e (fun z=>nomatch z))];exact ec
end
section
variable {X:Cx} {π:List (Addr×Obj)} {σ:St} {H:Hp} {s:Shared} {a:Addr} {kvs:List (Key×V)} {k:Key} {u:Value} {A:Around} {E:Value->Shared->Prop}
end
def zH (i:Expr):Prop:=∀ ov iv,subscripted i false ov iv=operate [ov,iv] (getItem ov iv)
def WB {prog:Program} {w:World} {A:Around} {E:Value->Shared->Prop} {s:Shared} {env:Env} {value slice:Expr} {pos:Pos} {T id:String} {Q:Value->Shared->Prop}
  (hl:typeLookup (.type T) "__getitem__" = pure (some (.builtin id))) (hs:zH slice)
  (h:wpAny (model prog w) A (eval value env) (fun o s₁=>wpAny (model prog w) A (eval slice env) (fun i s₂=>s₂.TypeIs o T/\wpAny (model prog w) A (getItem o i) Q E s₂) E s₁) E s) :
  wpAny (model prog w) A (eval (.Subscript value slice pos) env) Q E s:=by
 refine Subscript_ (IN h (fun o s₁ h₁=>IN h₁ (fun i s₂ h₂=>?_) fun _ _ x=>x) fun _ _ x=>x);obtain ⟨hT,h₂⟩:=h₂;unfold subscriptTail;refine lm ?_;rw [getitemInPython_of_ne hT.not_modules];refine lm (wpAny_specialOf hT hl ?_);have fin:wpAny (model prog w) A (subscripted slice false o i) (fun r s₃=>wpAny (model prog w) A (letTemporaryGo value o r >>= fun _=>pure r) Q E s₃) E s₂:=by
  rw [hs o i];exact wpAny_operating (IN h₂ (fun r s₃ h₃=>lm (wpAny_letTemporaryGo (pi h₃))) fun _ _ x=>x)
 first
  | exact pi (lm fin)
  | exact lm (pi (lm fin))
  | exact lm fin
def Zs {X:Cx} {π:List (Addr×Obj)} {σ:St} {H:Hp} {s:Shared} {a:Addr} {y:V} {o:Option V} (I:Inv X π σ H s) (g:eF H a y o):s.TypeIs (.ref a) "dict" := by
 rcases g with ⟨kvs,k,e,_,_⟩ | ⟨kvs,k,b,e,_,_,_⟩
 ·obtain ⟨_,_,vs,_,dd⟩:=nS I.ay e;exact dd.typeIs
 ·obtain ⟨_,_,xs,_,dd⟩:=ou I.ay e;exact dd.typeIs
def Cq (td ty:TE):TE:=fun σ H Q=>td σ H fun x H1=>ty σ H1 fun y H2=>∃ a v,x=.ref a/\eF H2 a y (some v)/\Q v H2
def Bh (ty td:TE):TE:=fun σ H Q=>ty σ H fun y H1=>td σ H1 fun x H2=>∃ a o,x=.ref a/\eF H2 a y o/\Q (.bl o.isSome) H2
def BJ (ty td:TE):TE:=fun σ H Q=>ty σ H fun y H1=>td σ H1 fun x H2=>∃ a o,x=.ref a/\eF H2 a y o/\Q (.bl (!o.isSome)) H2
def AX (td ty tv:TE):TS:=fun D σ H=>tv σ H fun v H1=>td σ H1 fun x H2=>ty σ H2 fun y H3=>∃ a H4,x=.ref a/\jj H3 a y v H4/\D.nx σ H4
section
variable {X:Cx} {o i e value:Expr} {pos pos' rN:Pos} {td ty tv:TE}
def Ur (hu:X.A.units+1 < cLine) (ho:PE X o td) (hi:PE X i ty) (hs:zH i):PE X (.Subscript o i pos) (Cq td ty):=by
 intro π s σ H Q I h;refine WB PySem.F.slot_dict_getitem.lookup hs (aC (ho π s σ H _ I h) fun u s1 ⟨x,H1,I1,rx,q1⟩=>aC (hi π s1 σ H1 _ I1 q1) fun iv s2 ⟨y,H2,I2,ry,a,v,ex,g,q2⟩=>?_);subst ex;obtain rfl:u=Value.ref a:=rx;exact ⟨Zs I2 g,PR hu I2 g ry fun w' s3 I3 rw'=>⟨v,H2,I3,rw',q2⟩⟩
def Ry (hu:X.A.units+1 < cLine) (hi:PE X i ty) (ho:PE X o td):PC X .In i o (Bh ty td):=by
 intro π s σ H Q I h;refine aC (hi π s σ H _ I h) fun iv s1 ⟨y,H1,I1,ry,q1⟩=>aC (ho π s1 σ H1 _ I1 q1) fun u s2 ⟨x,H2,I2,rx,a,ov,ex,g,q2⟩=>?_;subst ex;obtain rfl:u=Value.ref a:=rx;exact WU hu I2 g ry fun s3 I3=>⟨.bl ov.isSome,H2,I3,rfl,q2⟩
def UY (hu:X.A.units+1 < cLine) (hi:PE X i ty) (ho:PE X o td):PC X .NotIn i o (BJ ty td):=by
 intro π s σ H Q I h;refine aC (hi π s σ H _ I h) fun iv s1 ⟨y,H1,I1,ry,q1⟩=>aC (ho π s1 σ H1 _ I1 q1) fun u s2 ⟨x,H2,I2,rx,a,ov,ex,g,q2⟩=>?_;subst ex;obtain rfl:u=Value.ref a:=rx;exact Uj hu I2 g ry fun s3 I3=>⟨.bl (!ov.isSome),H2,I3,rfl,q2⟩
def Zn (hu:X.A.units+1 < cLine) (ho:PE X o td) (hi:PE X i ty) (hv:PE X value tv) (hs:swapsWith value (some (.Subscript o i pos')) pos.line X.env=pure false) :
  PS X (.Assign [.Subscript o i pos'] value pos) (AX td ty tv):=by
 intro π s σ H D I h;refine wpAny_Assign_Subscript (aC (hv π s σ H _ I h) fun r s1 ⟨v,H1,I1,rv,q1⟩=>aC (ho π s1 σ H1 _ I1 q1) fun u s2 ⟨x,H2,I2,rx,q2⟩=>aC (hi π s2 σ H2 _ I2 q2) fun iv s3 ⟨y,H3,I3,ry,a,H4,ex,g,q3⟩=>?_) hs;subst ex;obtain rfl:u=Value.ref a:=rx;exact aaw hu I3 g ry rv fun s4 I4=>⟨σ,H4,I4,q3⟩
end
def aas {P:Program} {w:World} {H:Hp} (h:Heap) (hb:sysModules < h.objs.size):bG P w H (h.push { cls:=.type "dict",data:=.dict #[] }) h.objs.size (.dK []) :=
 ⟨Cl _,Fa.mpr (sB (wS hb)),[],.nil,Heap.DictOf.new h⟩
def Ub {P:Program} {w:World} {H:Hp} (h:Heap) (hb:sysModules < h.objs.size):bG P w H (h.push { cls:=.type "dict",data:=.dict #[] }) h.objs.size (.dT []) :=
 ⟨Cl _,Fa.mpr (sB (wS hb)),[],.nil,_,#[],0,ut _ rfl,⟨rfl,rfl,rfl⟩,rfl,rfl,_P⟩
def zh:TE:=fun _ H Q=>∀ p,H p=none->Q (.ref p) (upd H p (.dK []))
def Ao:TE:=fun _ H Q=>∀ p,H p=none->Q (.ref p) (upd H p (.dT []))
section
variable {X:Cx} {pos:Pos}
def Q1:PE X (.Dict [] [] pos) zh:=fun π s σ H Q I h =>
 wpAny_Dict_empty ⟨.ref s.heap.objs.size,_,I.laid (a:=s.heap.objs.size) (o:=.dK []) (t':=s.toks) (fun _ _ q=>lv _ q) (sK _) (aas s.heap I.big),rfl,h _ (I.ay.fresh (sK _))⟩
def Tb:PE X (.Dict [] [] pos) Ao:=fun π s σ H Q I h =>
 wpAny_Dict_empty ⟨.ref s.heap.objs.size,_,I.laid (a:=s.heap.objs.size) (o:=.dT []) (t':=s.toks) (fun _ _ q=>lv _ q) (sK _) (Ub s.heap I.big),rfl,h _ (I.ay.fresh (sK _))⟩
end
def J0:List (TE×TE)->St->Hp->(List (V×V)->Hp->Prop)->Prop
 | [],_,H,Q=>Q [] H
 | (tk,tv)::r,σ,H,Q=>tk σ H fun x H1=>tv σ H1 fun y H2=>J0 r σ H2 fun ps H3=>Q ((x,y)::ps) H3
abbrev VV:List (V×V)->List (Value×Value)->Prop:=Paired fun p q=>RelV p.1 q.1/\RelV p.2 q.2
def Sh (X:Cx) (pos:Pos) (keys:List (Option Expr)) (values:List Expr) (trs:List (TE×TE)):Prop :=
 ∀ (π:List (Addr×Obj)) (s:Shared) (σ:St) (H:Hp) (Q:List (V×V)->Hp->Prop),Inv X π σ H s->J0 trs σ H Q ->
  wpAny (model X.prog X.w) X.A (evalPairs (pairTrees keys values X.env pos)) (fun vs s'=>∃ ps H',Inv X π σ H' s'/\VV ps vs/\Q ps H') X.xe s
structure M1 (X:Cx) (o:Expr) (m:Str) (apos:Pos) (e:Expr) (bt:Pos):Prop where
 base:attributeBase o m X.env (eval o X.env)=eval o X.env
 GV:((backTo bt (starEach [e] X.env)).all (fun x=>!x.1) && (backToKw bt (keywordEach [] X.env)).all (fun x=>x.1.isSome)
  && decide (([e]:List Expr).length+([]:List Keyword).length+(if ([]:List Keyword).isEmpty then 0 else 1) < 30))=true
 line:(apos.endLine == bt.line)=true
 trees:backTo bt (starEach [e] X.env)=[(false,eval e X.env)]
structure M2 (X:Cx) (o:Expr) (m:Str) (apos:Pos) (e f:Expr) (bt:Pos):Prop where
 base:attributeBase o m X.env (eval o X.env)=eval o X.env
 GV:((backTo bt (starEach [e,f] X.env)).all (fun x=>!x.1) && (backToKw bt (keywordEach [] X.env)).all (fun x=>x.1.isSome)
  && decide (([e,f]:List Expr).length+([]:List Keyword).length+(if ([]:List Keyword).isEmpty then 0 else 1) < 30))=true
 line:(apos.endLine == bt.line)=true
 trees:backTo bt (starEach [e,f] X.env)=[(false,eval e X.env),(false,eval f X.env)]
def Jt (H:Hp) (a:Addr):Prop:=(∃ kvs,Rd H a (.dK kvs))\/∃ kvs,Rd H a (.dT kvs)
def Tu {X:Cx} {π:List (Addr×Obj)} {σ:St} {H:Hp} {s:Shared} {a:Addr} (I:Inv X π σ H s) (d:Jt H a) :
  s.TypeIs (.ref a) "dict" /\ (∀ b,Value.ref a=.ref b->∃ ob,s.heap.get? b=some ob/\ob.dict=none)/\(a == sysModules)=false:=by
 rcases d with ⟨kvs,e⟩ | ⟨kvs,e⟩
 ·obtain ⟨_,hd,vs,_,dd⟩:=nS I.ay e;refine ⟨dd.typeIs,fun b q=>?_,hd⟩;cases q;obtain ⟨ob,_,_,h1,h2,_⟩:=dd;exact ⟨ob,h1,h2.2.1⟩
 ·obtain ⟨_,hd,xs,_,dd⟩:=ou I.ay e;refine ⟨dd.typeIs,fun b q=>?_,hd⟩;cases q;obtain ⟨ob,_,_,h1,h2,_⟩:=dd;exact ⟨ob,h1,h2.2.1⟩
section
variable {X:Cx} {π:List (Addr×Obj)} {σ:St} {H:Hp} {s:Shared} {a:Addr} {y d:V} {u r:Value} {o:Option V} {A:Around} {E:Value->Shared->Prop}
def PF {Q:Value->Shared->Prop} (hu:A.units+1 < cLine) (I:Inv X π σ H s) (g:eF H a y o) (ry:RelV y u) (h:∀ w' s',Inv X π σ H s'->RelV (o.getD .aw) w'->Q w' s') :
  wpAny (model X.prog X.w) A (call (.builtin "dict.get") [.ref a,u]) Q E s:=by
 rcases g with ⟨kvs,k,e,ey,l⟩ | ⟨kvs,k,b,e,ey,eb,l⟩
 ·subst ey;obtain ⟨z,hd,vs,rel,dd⟩:=nS I.ay e;refine call_meetsIn _T dd.typeIs PySem.F.entry_dict_get (PySem.F.args_dict_get_2 _ _) (meets_dict_get (dM X.prog X.w) a (nG ry) hd) ⟨_,dd.mapOf,h _ _ (I.tok _) ?_⟩;rw [l];exact (rel.val k).getD rfl
 ·subst ey;cases (show u=Value.ref b from ry);obtain ⟨z,hd,xs,rel,dd⟩:=ou I.ay e;refine call_meetsIn _T dd.typeIs PySem.F.entry_dict_get (PySem.F.args_dict_get_2 _ _) (meetsH_dict_get (tupleKind (dM X.prog X.w)) a b hd) ⟨_n hu,k,xs,rk I.ay eb,dd,h _ _ (I.tok _) ?_⟩;rw [l];exact (rel.val k).getD rfl
end
def B5 (td ty:TE):TE:=fun σ H Q=>td σ H fun x H1=>∃ a,x=.ref a/\Jt H1 a/\ty σ H1 fun y H2=>∃ o,eF H2 a y o/\Q (o.getD .aw) H2
section
variable {X:Cx} {o e f:Expr} {apos bt:Pos} {td ty tx:TE}
def abZ (hu:X.A.units+1 < cLine) (ho:PE X o td) (he:PE X e ty) (m:M1 X o "get" apos e bt):PE X (.Call (.Attribute o "get" apos) [e] [] bt) (B5 td ty):=by
 intro π s σ H Q I h;refine wpAny_Call_method m.base m.GV m.line PySem.F.plainAttrs_dict _T PySem.F.type_dict_get (aC (ho π s σ H _ I h) fun u s1 ⟨x,H1,I1,rx,a,ex,d,q1⟩=>?_);subst ex;obtain rfl:u=Value.ref a:=rx;obtain ⟨t1,t2,_⟩:=Tu I1 d;refine ⟨t1,t2,?_⟩;rw [m.trees];refine _o rfl (_z (TW (aC (he π s1 σ H1 _ I1 q1) fun iv s2 ⟨y,H2,I2,ry,ov,g,q2⟩=>W1 ?_)));exact PF hu I2 g ry fun w' s3 I3 rw'=>⟨_,H2,I3,rw',q2⟩
end
section
variable {X:Cx} {π:List (Addr×Obj)} {σ:St} {H:Hp} {s:Shared} {a:Addr} {kvs:List (Key×V)} {A:Around} {E:Value->Shared->Prop}
end
section
variable {X:Cx} {π:List (Addr×Obj)} {σ:St} {H:Hp} {s:Shared} {a:Addr} {y:V} {u:Value} {A:Around} {E:Value->Shared->Prop}
end
end L2
namespace Att
open PySem PySem.W PySem.Calls PyProof.Rows
def abD {P:Params} {h:Heap}:∀ (ns:List Int) (vs:List Value),WellAll P h vs (ns.map WData.int)->IntsAre vs ns:=by
 intro ns
 induction ns with
 | nil =>
  intro vs w;rw [List.map_nil] at w;cases w;exact .nil
 | cons n ns ih =>
  intro vs w;rw [List.map_cons] at w;cases w with
  | cons a b =>
   cases a;exact .cons _ _ (ih _ b)
def SM {l:OpenLaw} {n:Nat} (hn:l.most=some n) {P:Params} {h:Heap} {args:List WData} {vals:List Value}
  (ye:l.row.toRowW.claim.pre args=true) (m9:WellAll P h vals args) :
  ∃ a vs ns,vals=[Value.ref a]/\args=[WData.list (ns.map WData.int)]/\h.get? a=some { cls:=.type "list",data:=.seq vs.toArray }/\IntsAre vs ns/\ns.length<=n:=by
 have l6:WShape.hasAll [] args [.list .int]=true:=(pre_splitW ye).1;have hc:l.pre.holds [] { args:=args }=true:=(pre_splitW ye).2;obtain ⟨d,r,rfl,h1,h2⟩:=hasAllW_cons l6;obtain rfl:=hasAllW_nil h2;obtain ⟨xs,rfl,h3⟩:=hasW_list h1;obtain ⟨ns,rfl⟩:=items_int h3;have hlen:ns.length<=n:=by
  unfold OpenLaw.pre at hc;have h4:(WTm.not (.lt (.lit (.int (n:Int))) (.len (.arg 0)))).holds [] { args:=[.list (ns.map .int)] }=true:=by
   have h4:=(holds_andW hc).1;rw [hn] at h4;exact h4
  have h5:=condW_of h4 (w_not (w_lt w_lit (w_len_list (w_arg rfl))));rw [List.length_map] at h5;refine Nat.le_of_not_lt fun q=>?_;have q':(n:Int) < ((ns.length:Nat):Int):=by omega
  first
   | (rw [decide_eq_true q'] at h5; exact absurd h5 (by decide))
   | (simp at h5; omega)
 cases m9 with
 | cons w1 w2 =>
  cases w2;cases w1 with
  | list ho m7=>exact ⟨_,_,ns,rfl,rfl,ho,abD ns _ m7,hlen⟩
def abp (l:OpenLaw) (args:List WData):l.row.toRowW.claim.post args (.bool true) args=true :=
 postW_of (r:=l.row.toRowW) (X:=(true == true))
  (show WShape.has [] (.bool true) .bool=true by first | rfl | decide | simp [WShape.has,WShape.arms,WShape.armsAll])
  (show (WTm.eq .res (.lit (.bool true))).value [] { args:=args,res:=some (.bool true),after:=args }=some (.bool (true == true)) from w_eq_bool (w_res rfl) w_lit) rfl
def Pf {l:OpenLaw} {n:Nat} {q:Program} {loose:List Str} {XP:(Str->Option Value)->Heap->Prop} {YP:World->Heap->Prop} {d:DefRec}
  (hn:l.most=some n) (vt:d.params.defaults=[])
  (call:∀ (w:World) (s₀ s₁:Shared) (mg mb:Str->Option Value) (fa:Addr) (o:Obj) (pm cd doc:Value) (a:Addr) (vs:List Value) (ns:List Int),
   Ground q loose [] XP w s₀ mg mb s₁.heap->YP w s₁.heap ->
   s₁.heap.get? fa=some o->o.data=.func (docDef d.name d.params d.body d.scope pm cd doc)->s₁.heap.CodeRec cd d.name->mg d.name=some (.ref fa) ->
   s₁.heap.get? a=some { cls:=.type "list",data:=.seq vs.toArray }->IntsAre vs ns->ns.length<=n->s₁.gens=#[] ->
   codeAny (model l.prog w) callerA (.call (.ref fa) ⟨[.ref a],[]⟩) (fun r s'=>r=.ok (.ret (.bool true))/\OldK s₁.heap s'.heap/\s'.os=s₁.os/\AllBare s'.gens) s₁) :
  WalkO q loose XP YP l.row.toRowW d [] (fun f vs=>PySem.call f vs):=by
 intro w s₀ s₁ mg mb G Y fa o pm cd doc dV kV ho hd bQ hD hmg hg args vals as ye hlay gQ m9 hlo;obtain rfl:dV=.none:=Dflts.none hD vt;obtain rfl:kV=.none:=Dflts.noKw hD;obtain ⟨a,vs,ns,rfl,rfl,u3,hints,hlen⟩:=SM hn ye m9;refine enter_call (codeAny_mono (call w s₀ s₁ mg mb fa o pm cd doc a vs ns G Y ho (fd_plain hd) bQ hmg u3 hints hlen hg) fun r s' hq=>?_);obtain ⟨rfl,h2,h3,h4⟩:=hq;exact ⟨.inl ⟨.bool true,.bool true,[],rfl,fun _=>rfl,.bool true,abp l _,fun _=>⟨List.Pairwise.nil,fun _ hm=>(nomatch hm)⟩⟩,h2,h3,h4⟩
section
variable {prog:Program} {w:World} {A:Around} {E:Value->Shared->Prop} {s:Shared} {K:Frag}
end
end Att
namespace L2
open PySem PySem.Spec PyProof.Rows
def KZ:∀ {vs:List Value} {ns:List Int},IntsAre vs ns->Vals (ns.map V.int) vs
 | _,_,.nil=>.nil
 | _,_,.cons n t h=>.cons ⟨t,rfl⟩ (KZ h)
abbrev KOf {K:ν} {h:Heap} (_:K.In h):ν:=K
def inClass (s:Stmt) (j:Nat):Stmt:=match s with
 | .ClassDef _ _ _ body _ _ _ _ _ _ _=>body.getD j (.Pass ⟨0,0,0,0⟩)
 | _=>.Pass ⟨0,0,0,0⟩
def fm (s:Stmt):Arguments:=match s with
 | .FunctionDef _ a _ _ _ _ _ _ _ _=>a
 | _=>{ posonlyargs:=[],args:=[],vararg:=none,kwonlyargs:=[],kw_defaults:=[],kwarg:=none,defaults:=[] }
def bb (s:Stmt):List Stmt:=match s with
 | .FunctionDef _ _ b _ _ _ _ _ _ _=>b
 | _=>[]
def aB (s:Stmt):Scope:=match s with
 | .FunctionDef _ _ _ _ _ _ sc _ _ _=>sc
 | _=>{ kind:=.function,names:=[],isGenerator:=false,isCoroutine:=false }
abbrev aN:dX:=fun _ _ _ _ _ _=>False
abbrev E0:XK:=fun _ _ _=>False
def az {X:Cx}:Passes aN X E0:=fun _ _ _ _ _ _ _ h=>h.elim
structure gn (K:ν) (x qual:Str) (st:Stmt) (f:Addr) (fd:FuncData):Prop where
 ex:∃ (oc:Value) (od:Option Addr) (kV doc pm:Value) (an:Option Addr) (ao ct:Value) (dF:Array (Option Value)),
  fd=PySem.W.fnOf x qual (fm st) (bb st) (aB st) .none kV doc pm an ao ct/\K.lookup f=some ⟨oc,od,.func fd,dF⟩/\PySem.W.codeIn K ao qual=true
 kp:PySem.W.keepIn K (.ref f)=true
section
variable {P:Program} {w:World} {K:ν} {mg:Str->Option Value} {base:Heap}
def gn.ok {x qual:Str} {st:Stmt} {f:Addr} {fd:FuncData} {N ps:List Str} {k:Nat} {sp:Sp} (F:gn K x qual st f fd) (S:aF N ps (aB st)) (len:∀ vs H Q E,sp vs H Q E->vs.length=ps.length)
  (js:∀ (ao:Value) (A:Around) (outer:List Env) (s:Shared) (H:Hp) (vs:List V) (Q:VK) (E:XK),bf k (A.deeper (envOfC qual (aB st) s.heap.objs.size f ao))->sp vs H Q E ->
   ∃ t,dH (en aN P w K mg base N qual (aB st) f ao A outer s H E).wg (bb st) t/\t { nx:=fun _ H'=>Q .aw H',rt:=Q } (start N vs) H):aA P w K mg base aN (k+1) f fd ps sp:=by
 obtain ⟨oc,od,kV,doc,pm,an,ao,ct,dF,rfl,lk,bQ⟩:=F.ex;refine wz lk bQ S len fun A outer s H vs Q E hr ef=>?_;obtain ⟨t,h,q⟩:=js ao A outer s H vs Q E hr ef;exact ⟨t,h.wg,q⟩
def gn.binds {x qual:Str} {st:Stmt} {f:Addr} {fd:FuncData} {ps:List Str} (F:gn K x qual st f fd)
  (h:∀ (kV doc pm:Value) (an:Option Addr) (ao ct:Value) (us:List Value),us.length=ps.length->bindArgs (PySem.W.fnOf x qual (fm st) (bb st) (aB st) .none kV doc pm an ao ct) ⟨us,[]⟩=pure (ps.zip us)):Binds K fd ps []:=by
 obtain ⟨oc,od,kV,doc,pm,an,ao,ct,dF,rfl,lk,bQ⟩:=F.ex;exact .all (h kV doc pm an ao ct)
def CB {x qual:Str} {st:Stmt} {f:Addr} {oc:Value} {od an:Option Addr} {dF:Array (Option Value)} {kV doc pm ao ct:Value} (l:K.lookup f=some ⟨oc,od,.func (PySem.W.fnOf x qual (fm st) (bb st) (aB st) .none kV doc pm an ao ct),dF⟩)
  (c:PySem.W.codeIn K ao qual=true) (k:PySem.W.keepIn K (.ref f)=true):gn K x qual st f (PySem.W.fnOf x qual (fm st) (bb st) (aB st) .none kV doc pm an ao ct):=⟨⟨oc,od,kV,doc,pm,an,ao,ct,dF,rfl,l,c⟩,k⟩
end
def dh {A:Around} {k:Nat} (hr:bf k A):A.units+1 < cLine:=_p (Nat.add_le_add_left (by decide:1<=64) _) hr.units
def Im {n:Nat} (h:n<=1000):n < sizeLine:=_p h (by decide)
section
variable {X:Cx}
def pv (i:Nat) {x:Str} {pos:Pos} (hN:X.N[i]?=some x:=by rfl) (hv:mC X.env.scope x:=by first | exact Or.inl rfl | exact Or.inr (Or.inl rfl) | exact Or.inr (Or.inr rfl)) (hd:(x == ("__debug__" : Str))=false:=by decide)
  (bQ:(x == ("__classdict__" : Str))=false:=by decide):PE X (.Name x pos) (Kg i):=BO hN hv hd bQ
end
def aQ {A B:Prop} (h:B):if false=true then A else B:=by
 rw [xL wf];exact h
def aV {A B:Prop} (h:A):if true=true then A else B:=by
 rw [AC rfl];exact h
def qo {c A B:Prop} [Decidable c] (h1:c->A) (h2:¬ c->B):if c then A else B:=by
 by_cases h:c
 ·rw [AC h];exact h1 h
 ·rw [xL h];exact h2 h
def ag (H H':Hp):Prop:=∀ b o,H b=some o->H' b=some o
def ag.refl (H:Hp):ag H H:=fun _ _ h=>h
def ag.trans {H H1 H2:Hp} (a:ag H H1) (b:ag H1 H2):ag H H2:=fun c o h=>b c o (a c o h)
def ag.free {H H':Hp} (e:ag H H') {l:Addr} (h:H' l=Option.none):H l=Option.none:=by
 cases q:H l with
 | none=>rfl
 | some o =>
  rw [e l o q] at h;cases h
def ag.seq {K:ν} {H H':Hp} {a:Addr} {xs:List V} (e:ag H H') (h:aD K H a xs):aD K H' a xs:=by
 rcases h with (h | ⟨o,h⟩) | h
 ·exact .inl (.inl (e _ _ h))
 ·exact .inl (.inr ⟨o,e _ _ h⟩)
 ·exact .inr h
section
variable {X:Cx}
end
section
variable {κ:Type} [DecidableEq κ]
end
end L2
namespace Tx
open PySem PySem.Builtin PySem.Builtin.Str PySem.StrLaws
def S (l:List Nat):Str:=⟨l.toArray⟩
def iS (l:List Nat):(S l).cps.toList=l:=by simp [S]
def wB (s:Str):S s.cps.toList=s:=by cases s; simp [S]
def cC (l:List Nat):(S l).length=l.length:=by simp [S,Str.length]
def LF {a b:List Nat} (h:S a=S b):a=b:=by
 have:=congrArg (fun s=>s.cps.toList) h
 simpa [iS] using this
def ji (c:Nat):(S [c]).length=1:=by rw [cC]; rfl
def subAt_one (x:List Nat) (c i:Nat) (h:i < x.length):subAt (S x) (S [c]) i=decide (x[i]?=some c):=by
 rw [subAt_eq,iS,iS,ji];rw [List.drop_eq_getElem_cons h,List.take_succ_cons,List.take_zero,List.getElem?_eq_getElem h];by_cases e:x[i]=c
 ·simp [e]
 ·simp [e]
def UU (x:List Nat) (c:Nat):(!(occurrences (S x) (S [c]) 0 (S x).length 1).isEmpty)=x.contains c:=by
 rw [Bool.eq_iff_iff,found_iff,ji,cC];constructor
 ·rintro ⟨i,h1,h2⟩;rw [subAt_one x c i (by omega)] at h2;have h3:=of_decide_eq_true h2;exact List.elem_iff.mpr (List.mem_of_getElem? h3)
 ·intro h;obtain ⟨i,hi,e⟩:=List.getElem_of_mem (List.elem_iff.mp h);refine ⟨i,by omega,?_⟩;rw [subAt_one x c i hi,List.getElem?_eq_getElem hi,e];simp
def cut (c:Nat):List Nat->List (List Nat)
 | []=>[[]]
 | a::r=>if a=c then []::cut c r else match cut c r with
  | []=>[[a]]
  | h::t=>(a::h)::t
def Xw (c:Nat):∀ l,cut c l≠[]
 | []=>by simp [cut]
 | a::r=>by
  unfold cut;split
  ·simp
  ·split <;> simp
def di (c:Nat):Nat->List Nat->List Nat
 | _,[]=>[]
 | k,a::r=>if a=c then k::di c (k+1) r else di c (k+1) r
def JZ (c:Nat):∀ (l:List Nat) (k j:Nat),di c (k+j) l=(di c k l).map (· + j)
 | [],_,_=>rfl
 | a::r,k,j=>by
  unfold di;have e:k+j+1=(k+1)+j:=by omega
  rw [e,JZ c r (k+1) j];split <;> simp
def zP (x:List Nat) (c limit:Nat):∀ (l:List Nat) (k:Nat) (acc:Array Nat) (free:Nat),x.drop k=l->free<=k->acc.size+l.length < limit->k<=x.length ->
  (forIn (List.range' k (x.length+1 - k)) (acc,free) (occBody (S x) (S [c]) x.length limit)).run.fst.toList=acc.toList++di c k l
 | [],k,acc,free,hd,hf,hl,hk=>by
  have rQ:k=x.length:=by
   have:=congrArg List.length hd;simp at this;omega
  have e:x.length+1 - k=1:=by omega
  have e1:List.range' k 1=[k]:=rfl;rw [e,e1,List.forIn_cons];unfold occBody;have hc:¬ (((((acc,free):Array Nat×Nat).fst.size < limit/\((acc,free):Array Nat×Nat).snd<=k)/\k+(S [c]).length<=x.length)/\subAt (S x) (S [c]) k=true):=by
   rw [ji];rintro ⟨⟨_,h⟩,_⟩;omega
  rw [if_neg hc];simp [di]
 | a::r,k,acc,free,hd,hf,hl,hk=>by
  have bK:k < x.length:=by
   have:=congrArg List.length hd;simp at this;omega
  have e:x.length+1 - k=(x.length+1 - (k+1))+1:=by omega
  have hx:x[k]?=some a:=by
   have h1:(x.drop k)[0]?=some a:=by rw [hd]; rfl
   rw [List.getElem?_drop] at h1
   simpa using h1
  have hr:x.drop (k+1)=r:=by
   rw [<- List.drop_drop,hd]; rfl
  rw [e,List.range'_succ,List.forIn_cons];unfold occBody;simp only [List.length_cons] at hl;by_cases oY:a=c
  ·have hc:(((((acc,free):Array Nat×Nat).fst.size < limit/\((acc,free):Array Nat×Nat).snd<=k)/\k+(S [c]).length<=x.length)/\subAt (S x) (S [c]) k=true):=by
    rw [ji,subAt_one x c k bK,hx,oY];refine ⟨⟨⟨?_,hf⟩,by omega⟩,by simp⟩;show acc.size < limit;omega
   rw [if_pos hc];have ih:=zP x c limit r (k+1) (acc.push k) (k+(S [c]).length) hr (by rw [ji]; omega) (by simp; omega) (by omega);refine Eq.trans ih ?_;rw [show di c k (a::r)=k::di c (k+1) r from if_pos oY];simp
  ·have hc:¬ (((((acc,free):Array Nat×Nat).fst.size < limit/\((acc,free):Array Nat×Nat).snd<=k)/\k+(S [c]).length<=x.length)/\subAt (S x) (S [c]) k=true):=by
    rw [subAt_one x c k bK,hx];rintro ⟨_,h⟩;exact oY (Option.some.inj (of_decide_eq_true h))
   rw [if_neg hc];have ih:=zP x c limit r (k+1) acc free hr (by omega) (by omega) (by omega);refine Eq.trans ih ?_
   conv=>rhs; unfold di
   rw [if_neg oY]
def rf (x:List Nat) (c:Nat):occurrences (S x) (S [c]) 0 (S x).length ((S x).length+1)=di c 0 x:=by
 rw [occ_eq,cC];have h:=zP x c (x.length+1) x 0 #[] 0 rfl (Nat.le_refl _) (by simp) (Nat.zero_le _);rw [h];simp
def pieces (l:List Nat) (ps:List Nat):List (List Nat):=((0::ps.map (· + 1)).zip (ps++[l.length])).map fun p=>(l.drop p.1).take (p.2 - p.1)
def md (c:Nat):∀ l:List Nat,pieces l (di c 0 l)=cut c l
 | []=>rfl
 | a::r=>by
  have ih:=md c r;have sh:di c (0+1) r=(di c 0 r).map (· + 1):=JZ c r 0 1;have tail:∀ (A B:List Nat),((A.map (· + 1)).zip (B.map (· + 1))).map (fun p:Nat×Nat=>((a::r).drop p.1).take (p.2 - p.1))=(A.zip B).map (fun p:Nat×Nat=>(r.drop p.1).take (p.2 - p.1)):=fun A B=>by
   rw [List.zip_map,List.map_map];refine List.map_congr_left fun p _=>?_;show ((a::r).drop (p.1+1)).take (p.2+1 - (p.1+1))=_;rw [List.drop_succ_cons]
   congr 1
   omega
  unfold pieces at ih ⊢;unfold di cut;rw [sh];by_cases h:a=c
  ·rw [if_pos h,if_pos h];have e1:(0::(0::(di c 0 r).map (· + 1)).map (· + 1))=0::((0::(di c 0 r).map (· + 1)).map (· + 1)):=rfl;have e2:(0::(di c 0 r).map (· + 1))++[(a::r).length]=0::((di c 0 r++[r.length]).map (· + 1)):=by simp
   rw [e1,e2,List.zip_cons_cons,List.map_cons,tail,ih];simp
  ·rw [if_neg h,if_neg h];have e2:(di c 0 r).map (· + 1)++[(a::r).length]=(di c 0 r++[r.length]).map (· + 1):=by simp
   rw [e2];generalize hB:di c 0 r++[r.length]=B at ih;cases B with
   | nil=>simp at hB
   | cons b B' =>
    rw [List.zip_cons_cons,List.map_cons] at ih;rw [<- ih];rw [List.map_cons (l:=B'),List.zip_cons_cons,List.map_cons,tail];simp
def XE (x:List Nat) (i j:Nat):strSub (S x) i j=S ((x.drop i).take (j - i)):=by
 rw [<- wB (strSub (S x) i j),strSub_toList,iS]
def qe (x:List Nat) (ps:List Nat):partsBetween (S x) ps 1=(pieces x ps).map S:=by
 unfold partsBetween pieces;rw [List.map_map,cC];refine List.map_congr_left fun p _=>?_;exact XE x p.1 p.2
def G6 (c:Nat):∀ l:List Nat,di c 0 l=[]->cut c l=[l]
 | l,h=>by
  have:=md c l;rw [h] at this;rw [<- this];simp [pieces]
def uz (x:List Nat) (c:Nat) (hc:c < 256):Txt.split (S x) (S [c])=(cut c x).map S:=by
 unfold Txt.split;rw [rf,ji,qe,md];have nop:∀ k,¬ c∈x->di c k x=[]:=by
  intro k
  induction x generalizing k with
  | nil=>intro _; rfl
  | cons a r ih =>
   intro hm;unfold di;rw [if_neg (fun e=>hm (by simp [e]))];exact ih (k+1) fun m=>hm (List.mem_cons_of_mem _ m)
 by_cases h1:(decide ((S x).length < 1) || decide (PySem.Builtin.Str.strKind (S x) < PySem.Builtin.Str.strKind (S [c])))=true
 ·rw [if_pos h1];have hx:di c 0 x=[]:=by
   refine nop 0 fun m=>?_;rw [cC] at h1;have hk:PySem.Builtin.Str.strKind (S [c])=1:=by unfold PySem.Builtin.Str.strKind S; simp [hc]
   rw [hk] at h1;have hp:¬ x.length < 1:=by cases x with | nil=>simp at m | cons _ _=>simp
   have hq:¬ PySem.Builtin.Str.strKind (S x) < 1:=by unfold PySem.Builtin.Str.strKind; split <;> (try split) <;> omega
   simp [hp,hq] at h1
  rw [G6 c x hx]; rfl
 ·rw [if_neg h1];by_cases h2:(di c 0 x).isEmpty=true
  ·rw [if_pos h2];rw [G6 c x (List.isEmpty_iff.mp h2)]; rfl
  ·rw [if_neg h2]
end Tx
namespace L2
open PySem PySem.Spec PyProof.Rows
def noStar:Expr->Bool
 | .Starred _ _=>false
 | _=>true
def fM {e:Expr} {es:List Expr} {env:Env} (h:noStar e=true):starEach (e::es) env=(false,eval e env)::starEach es env:=by
 cases e <;> first | rfl | cases h
def iE {pos:Pos} {env:Env}:∀ {es:List Expr},es.all noStar=true->(backTo pos (starEach es env)).any (·.1)=false
 | [],_=>rfl
 | e::es,h=>by
  rw [KM,zn] at h;rw [fM h.1];have ih:=iE (pos:=pos) (env:=env) h.2;show ((false || (backTo pos (starEach es env)).any (·.1)))=false;rw [ih];rfl
def AR {pos:Pos} {env:Env}:∀ {es:List Expr},es.all noStar=true->(backTo pos (starEach es env)).all (fun x=>!x.1)=true
 | [],_=>rfl
 | e::es,h=>by
  rw [KM,zn] at h;rw [fM h.1];have ih:=AR (pos:=pos) (env:=env) h.2;show ((true && (backTo pos (starEach es env)).all (fun x=>!x.1)))=true;rw [ih];rfl
section
variable {X:Cx}
def Pu {e:Expr} {es:List Expr} {te:TE} {t:TA} (ha:PE X e te) (hr:PA X es t) (hs:noStar e=true:=by rfl):PA X (e::es) (oi te t):=Pq ha hr (fM hs)
def Yt {CX:dX} {k:Nat} {f:Addr} {fd:FuncData} {ps:List Str} {sp:Sp} {bg:List V} {ds:List Value} {E:XK} {x:Str} {p pos:Pos} {e:Expr} {es:List Expr} {t:TA}
  (F:aA X.prog X.w X.K X.mg X.base CX k f fd ps sp) (hr:bf k X.A) (hg:Gl X x) (hm:X.mg x=some (.ref f)) (hk:PySem.W.keepIn X.K (.ref f)=true) (hb:Binds X.K fd ps ds) (hd:Vals bg ds) (hx:Passes CX X E)
  (ha:PA X (e::es) t) (hs:(e::es).all noStar=true:=by rfl) (bF:(x == ("__debug__" : Str))=false:=by decide):PE X (.Call (.Name x p) (e::es) [] pos) (wK sp bg E t):=by
 have hs':=hs;rw [KM,zn] at hs';exact QZ F hr hg hm hk hb hd hx ha bF (fM hs'.1) (iE hs'.2)
def abd {x:Str} {p pos:Pos} {e:Expr} {es:List Expr} {t:TA} {id:String} {r:List V->Hp->VK->Prop} (hc:cT X (.builtin id) r) (hg:Gl X x) (hm:X.mg x=none) (hv:bootBuiltins x=some (.builtin id)) (ha:PA X (e::es) t)
  (hs:(e::es).all noStar=true:=by rfl) (hn:x ≠ "__name__" := by decide) (bF:(x == ("__debug__" : Str))=false:=by decide):PE X (.Call (.Name x p) (e::es) [] pos) (nI r t):=by
 have hs':=hs;rw [KM,zn] at hs';exact SS hc hg hm hv ha hn bF (fM hs'.1) (iE hs'.2)
def Yg {x:Str} {p pos:Pos} {e:Expr} {es:List Expr} {t:TA} {T:String} {r:List V->Hp->VK->Prop} (hc:cT X (.type T) r) (hg:Gl X x) (hm:X.mg x=none) (hv:bootBuiltins x=some (.type T)) (ha:PA X (e::es) t)
  (hs:(e::es).all noStar=true:=by rfl) (hn:x ≠ "__name__" := by decide) (bF:(x == ("__debug__" : Str))=false:=by decide):PE X (.Call (.Name x p) (e::es) [] pos) (nI r t):=by
 have hs':=hs;rw [KM,zn] at hs';exact Pc hc hg hm hv ha hn bF (fM hs'.1) (iE hs'.2)
end
section
variable {X:Cx}
def PE.imp {e:Expr} {t t':TE} (h:PE X e t) (i:∀ σ H Q,t' σ H Q->t σ H Q):PE X e t':=fun π s σ H Q I hw=>h π s σ H Q I (i σ H Q hw)
def PS.imp {e:Stmt} {t t':TS} (h:PS X e t) (i:∀ D σ H,t' D σ H->t D σ H):PS X e t':=fun π s σ H D I hw=>h π s σ H D I (i D σ H hw)
def bc.imp {f:Value->Value->Sem Value} {r r':R2} (h:bc X f r) (i:∀ x y H Q,r' x y H Q->r x y H Q):bc X f r':=fun π s σ H x y v u Q I rx ry q=>h π s σ H x y v u Q I rx ry (i x y H Q q)
def cT.imp {f:Value} {r r':List V->Hp->VK->Prop} (h:cT X f r) (i:∀ xs H Q,r' xs H Q->r xs H Q):cT X f r':=fun π s σ H xs us Q I rx q=>h π s σ H xs us Q I rx (i xs H Q q)
def iY (i:Nat):TE:=fun σ H Q=>match σ[i]? with
 | some (some v)=>Q v H
 | _=>False
def qv (i:Nat) {x:Str} {pos:Pos} (hN:X.N[i]?=some x:=by rfl) (hv:mC X.env.scope x:=by first | exact Or.inl rfl | exact Or.inr (Or.inl rfl) | exact Or.inr (Or.inr rfl)) (hd:(x == ("__debug__" : Str))=false:=by decide)
  (bQ:(x == ("__classdict__" : Str))=false:=by decide):PE X (.Name x pos) (iY i):=(BO hN hv hd bQ).imp fun σ H Q h=>by
 unfold iY at h;split at h
 ·rename_i v e;exact ⟨v,e,h⟩
 ·exact h.elim
def yO:R2:=fun x y H Q=>match x,y with
 | .int i,.int j=>Q (.int (i+j)) H
 | .str a,.str b=>a.length+b.length<=sizeLine/\Q (.str (a++b)) H
 | .ref l,.ref b=>match H l,H b with
  | some (.lst xs),some (.lst zs)=>xs.length+zs.length<=sizeLine/\∀ p,H p=none->Q (.ref p) (upd H p (.lst (xs++zs)))
  | _,_=>False
 | _,_=>False
def cW:bc X (binaryOp .Add) yO:=(Xr.or (Xn.or WC)).imp fun x y H Q h=>by
 unfold yO at h;split at h
 ·exact .inl ⟨_,_,rfl,rfl,h⟩
 ·exact .inr (.inl ⟨_,_,rfl,rfl,h.1,h.2⟩)
 ·split at h
  ·rename_i xs zs h1 h2;exact .inr (.inr ⟨_,_,xs,zs,rfl,rfl,h1,h2,h.1,h.2⟩)
  ·exact h.elim
 ·exact h.elim
def bj (K:ν) (H:Hp) (p:Addr) (R:List V->Prop):Prop:=match H p with
 | some (.lst xs)=>R xs
 | some (.tup xs)=>R xs
 | _=>∃ xs,(aD K H p xs\/bE K H p xs)/\R xs
def xH {K:ν} {H:Hp} {p:Addr} {R:List V->Prop} (h:bj K H p R):∃ xs,(aD K H p xs\/bE K H p xs)/\R xs:=by
 unfold bj at h;split at h
 ·rename_i xs e;exact ⟨xs,.inl (aD.of e),h⟩
 ·rename_i xs e;exact ⟨xs,.inr (bE.of e),h⟩
 ·exact h
def xD (K:ν) (H:Hp) (p:Addr) (R:List V->Prop):Prop:=∃ xs,aD K H p xs/\R xs
def CI {K:ν} {H:Hp} {p:Addr} {R:List V->Prop} (h:xD K H p R):∃ xs,aD K H p xs/\R xs:=h
def pQ (C:Int->Int->Prop) (f:Int->Int->Int):R2:=fun x y H Q=>match x,y with
 | .int i,.int j=>C i j/\Q (.int (f i j)) H
 | _,_=>False
def Aa {C:Int->Int->Prop} {f:Int->Int->Int} {x y:V} {H:Hp} {Q:VK} (h:pQ C f x y H Q):rI C (fun i j=>.int (f i j)) x y H Q:=by
 unfold pQ at h;split at h
 ·exact ⟨_,_,rfl,rfl,h.1,h.2⟩
 ·exact h.elim
def ox:bc X (binaryOp .Mod) (pQ (fun _ j=>0 < j) fun i j=>i % j):=acj.imp fun _ _ _ _ h=>Aa h
def Dk:bc X (binaryOp .FloorDiv) (pQ KJ fun i j=>i / j):=abe.imp fun _ _ _ _ h=>Aa h
def qJ (neg:Bool):R2:=fun x y H Q=>match x,y with
 | .int i,.int j=>Q (.bl (neg ^^ decide (i=j))) H
 | .str i,.str j=>Q (.bl (neg ^^ decide (i=j))) H
 | .bl i,.bl j=>Q (.bl (neg ^^ decide (i=j))) H
 | _,_=>wD x y=true/\Q (.bl (neg ^^ decide (x=y))) H
def K5 (i j:Int):decide (V.int i=V.int j)=decide (i=j):=by by_cases h:i=j <;> simp [h]
def Hv (i j:Str):decide (V.str i=V.str j)=decide (i=j):=by by_cases h:i=j <;> simp [h]
def FF (i j:Bool):decide (V.bl i=V.bl j)=decide (i=j):=by by_cases h:i=j <;> simp [h]
def TL:bc X (compareOp .Eq) (qJ false):=Z0.imp fun x y H Q h=>by
 unfold qJ at h;simp only [Bool.false_bne] at h;split at h
 ·exact ⟨rfl,by rw [K5]; exact h⟩
 ·exact ⟨rfl,by rw [Hv]; exact h⟩
 ·exact ⟨rfl,by rw [FF]; exact h⟩
 ·exact h
def RC:bc X (compareOp .NotEq) (qJ true):=VM.imp fun x y H Q h=>by
 unfold qJ at h;simp only [Bool.true_bne] at h;split at h
 ·exact ⟨rfl,by rw [K5]; exact h⟩
 ·exact ⟨rfl,by rw [Hv]; exact h⟩
 ·exact ⟨rfl,by rw [FF]; exact h⟩
 ·exact h
def jZ (f:Int->Int->Bool):R2:=fun x y H Q=>match x,y with
 | .int i,.int j=>Q (.bl (f i j)) H
 | _,_=>False
def AB {f:Int->Int->Bool} {x y:V} {H:Hp} {Q:VK} (h:jZ f x y H Q):n8 (fun i j=>.bl (f i j)) x y H Q:=by
 unfold jZ at h;split at h
 ·exact ⟨_,_,rfl,rfl,h⟩
 ·exact h.elim
def CP:bc X (compareOp .Lt) (jZ fun i j=>decide (i < j)):=Wh.imp fun _ _ _ _ h=>AB h
def lx:bc X (compareOp .LtE) (jZ fun i j=>decide (i<=j)):=OL.imp fun _ _ _ _ h=>AB h
def yT:bc X (compareOp .Gt) (jZ fun i j=>decide (j < i)):=QC.imp fun _ _ _ _ h=>AB h
def wt (K:ν):R2:=fun x y H Q=>match x,y with
 | .str i,.str j=>Q (.bl (!(Builtin.Str.occurrences j i 0 j.length 1).isEmpty)) H
 | _,.ref p=>bj K H p fun xs=>dq x=true/\xs.all dq=true/\Q (.bl (fO x xs)) H
 | _,_=>False
def aap:bc X (compareOp .In) (wt X.K):=(WO.or KC).imp fun x y H Q h=>by
 unfold wt at h;split at h
 ·exact .inl ⟨_,_,rfl,rfl,h⟩
 ·obtain ⟨xs,h1,h2,h3,h4⟩:=xH h;exact .inr ⟨_,xs,rfl,h1,h2,h3,h4⟩
 ·exact h.elim
def mU (t:TE):TT:=fun σ H Q=>t σ H fun x H'=>match x with
 | .bl k=>Q k H'
 | _=>False
def BS {x:V} {H:Hp} {Q:Bool->Hp->Prop} (h:(match x with | .bl k=>Q k H | _=>False)):∃ k,x=.bl k/\Q k H:=by
 split at h
 ·exact ⟨_,rfl,h⟩
 ·exact h.elim
def UG {op:CmpOp} {r:R2} {a b:Expr} {ta tb:TE} {pos:Pos} (ho:bc X (compareOp op) r) (ha:PE X a ta) (hb:PE X b tb) (hm:behindInMarks op b=false:=by first | exact xv _ (by decide) (by decide) | rfl) :
  PT X (.Compare a [op] [b] pos) (mU (lh r ta tb)):=by
 intro π s σ H Q I h;refine wpAny_isTrue_Compare1 ?_ hm;refine aC (ha π s σ H _ I h) fun v s1 ⟨x,H1,I1,r1,q1⟩=>aC (hb π s1 σ H1 _ I1 q1) fun u s2 ⟨y,H2,I2,r2,q2⟩=>?_;refine aC (ho π s2 σ H2 x y v u _ I2 r1 r2 q2) fun c s3 ⟨z,H3,I3,r3,q3⟩=>?_;obtain ⟨k,rfl,q⟩:=BS q3;cases r3;exact Op ⟨H3,I3,q⟩
def Sn {e:Expr} {t:TE} (h:PE X e t) (he:∀ whole,isTrue e X.env whole=(do let v <- whole; standAt e.pos; holding [v] (truthy v)):=by intro _; rfl):PT X e (mU t):=by
 intro π s σ H Q I hw;refine isTrue_plain (aC (h π s σ H _ I hw) fun v s1 ⟨x,H1,I1,r1,q1⟩=>?_) (he _);obtain ⟨d,rfl,q⟩:=BS q1;cases r1;exact Op ⟨H1,I1,q⟩
def yQ (f g:Int->Int->Bool) (ta tb tc:TE):TT:=fun σ H Q=>ta σ H fun x H1=>tb σ H1 fun y H2=>match x,y with
 | .int i,.int j=>if f i j=true then tc σ H2 fun z H3=>(match z with | .int k=>Q (g j k) H3 | _=>False) else Q false H2
 | _,_=>False
def zB (ta tb:TE):TE:=fun σ H Q=>ta σ H fun x H1=>match x with
 | .bl c=>if c=true then tb σ H1 Q else Q (.bl false) H1
 | _=>False
def za (ta tb:TE):TE:=fun σ H Q=>ta σ H fun x H1=>match x with
 | .bl c=>if c=true then Q (.bl true) H1 else tb σ H1 Q
 | _=>False
def yZ (ta:TE):TE:=fun σ H Q=>ta σ H fun x H1=>match x with
 | .bl c=>Q (.bl (!c)) H1
 | _=>False
variable {a b:Expr} {ta tb:TE} {pos:Pos} {rest:List Expr}
def ZS (ha:PE X a ta) (hb:PE X (.BoolOp .And (b::rest) pos) tb):PE X (.BoolOp .And (a::b::rest) pos) (zB ta tb):=by
 intro π s σ H Q I h;refine BoolOp_and (aC (ha π s σ H _ I h) fun v s1 ⟨x,H1,I1,r1,q1⟩=>?_);have q1':∃ c,x=.bl c/\if c=true then tb σ H1 Q else Q (.bl false) H1:=by
  dsimp only at q1;split at q1
  ·exact ⟨_,rfl,q1⟩
  ·exact q1.elim
 obtain ⟨c,rfl,q1⟩:=q1';cases r1;refine Op ?_;cases c with
 | true=>exact hb π s1 σ H1 Q I1 q1
 | false=>exact ⟨.bl false,H1,I1,rfl,q1⟩
def aau (ha:PE X a ta) (hb:PE X (.BoolOp .Or (b::rest) pos) tb):PE X (.BoolOp .Or (a::b::rest) pos) (za ta tb):=by
 intro π s σ H Q I h;refine BoolOp_or (aC (ha π s σ H _ I h) fun v s1 ⟨x,H1,I1,r1,q1⟩=>?_);have q1':∃ c,x=.bl c/\if c=true then Q (.bl true) H1 else tb σ H1 Q:=by
  dsimp only at q1;split at q1
  ·exact ⟨_,rfl,q1⟩
  ·exact q1.elim
 obtain ⟨c,rfl,q1⟩:=q1';cases r1;refine Op ?_;cases c with
 | false=>exact hb π s1 σ H1 Q I1 q1
 | true=>exact ⟨.bl true,H1,I1,rfl,q1⟩
def wb:V->Value
 | .ty n=>.type n
 | .ref a=>.ref a
 | _=>.none
def Py:cT X (.builtin "isinstance") (fun xs H Q=>∃ x cV t b,xs=[x,cV]/\((∃ n,cV=.ty n)\/∃ a,cV=.ref a)/\fP X.K H x t/\PySem.W.kitOne X.K t (wb cV)=some b/\Q (.bl b) H):=by
 intro π s σ H xs us Q I r h;obtain ⟨x,cV,t,b,rfl,hc,ty,e,q⟩:=h;obtain ⟨u,c',rfl,ru,rc'⟩:=vals2 r;have ec:c'=wb cV:=by
  rcases hc with ⟨n,rfl⟩ | ⟨a,rfl⟩
  ·exact rc'
  ·exact rc'
 subst ec;exact zY I ru ty e fun tk=>⟨.bl b,H,I.tok tk,rfl,q⟩
end
section
variable {X:Cx}
def Bk:V->List V->Hp->VK->Prop:=fun x xs H Q=>match x,xs with
 | .str a,[.str b]=>Q (.bl (Txt.startswith a b)) H
 | _,_=>False
def Fx:ei X "str.startswith" Bk:=by
 intro π s σ H x xs v us Q I rx r h;unfold Bk at h;split at h
 ·rename_i a b;obtain ⟨t,rfl⟩:=rx;obtain ⟨u,rfl,t',rfl⟩:=vals1 r;exact SL F.slot_str_startswith (_y s a t) F.entry_str_startswith (F.args_str_startswith_2 _ _) (gives_str_startswith a b t t').meets ⟨.bl _,H,I,rfl,h⟩
 ·exact h.elim
def ze:V->List V->Hp->VK->Prop:=fun x xs H Q=>match x,xs with
 | .str a,[.str b]=>Q (.bl (Txt.endswith a b)) H
 | _,_=>False
def FR:ei X "str.endswith" ze:=by
 intro π s σ H x xs v us Q I rx r h;unfold ze at h;split at h
 ·rename_i a b;obtain ⟨t,rfl⟩:=rx;obtain ⟨u,rfl,t',rfl⟩:=vals1 r;exact SL F.slot_str_endswith (_y s a t) F.entry_str_endswith (F.args_str_endswith_2 _ _) (gives_str_endswith a b t t').meets ⟨.bl _,H,I,rfl,h⟩
 ·exact h.elim
def GA:∀ (l:List (Str×Tok)),Vals ((l.map (·.1)).map V.str) (strValues l)
 | []=>.nil
 | p::r=>.cons ⟨p.2,rfl⟩ (GA r)
def wF:∀ {ts:List Str} {us:List Value},Vals (ts.map V.str) us->∃ l:List (Str×Tok),us=strValues l/\l.map (·.1)=ts
 | [],_,.nil=>⟨[],rfl,rfl⟩
 | t::r,_,.cons h h'=>by
  obtain ⟨k,rfl⟩:=h;obtain ⟨l,e1,e2⟩:=wF h';exact ⟨(t,k)::l,by rw [e1]; rfl,by rw [<- e2]; rfl⟩
def Ab:V->List V->Hp->VK->Prop:=fun x xs H Q=>match x,xs with
 | .str a,[.str b]=>(b.length == 0)=false/\a.length<=sizeLine/\(Builtin.Str.partsBetween a (Builtin.Str.occurrences a b 0 a.length (a.length+1)) b.length).length<=sizeLine /\
   ∀ l,H l=none->Q (.ref l) (upd H l (.lst ((Txt.split a b).map V.str)))
 | _,_=>False
def vN:ei X "str.split" Ab:=by
 intro π s σ H x xs v us Q I rx r h;unfold Ab at h;split at h
 ·rename_i a b;obtain ⟨hy,hx,hn,q⟩:=h;obtain ⟨t,rfl⟩:=rx;obtain ⟨w',rfl,u,rfl⟩:=vals1 r;have fin:∀ (l:List (Str×Tok)) (tk:Nat),l.map (·.1)=Txt.split a b->l.length<=sizeLine ->
    EP X π σ Q (.ref s.heap.objs.size) { s with heap:=s.heap.push { cls:=.type "list",data:=.seq (strValues l).toArray },toks:=tk }:=fun l tk e hz =>
   ⟨.ref _,_,I.laid (t':=tk) (o:=.lst ((Txt.split a b).map V.str)) (fun b' o' q'=>lv _ q') (sK _)
    ⟨by rw [pp,<- e,pp]; exact hz,strValues l,0,by rw [<- e]; exact GA l,ut _ rfl⟩,rfl,q _ (I.ay.fresh (sK _))⟩
  cases h1:(decide (a.length < b.length) || decide (Builtin.Str.strKind a < Builtin.Str.strKind b))
  ·cases hf:(Builtin.Str.occurrences a b 0 a.length (a.length+1)).isEmpty
   ·refine SL F.slot_str_split (_y s a t) F.entry_str_split (Jab _ _) (meets_str_split_sep a b t u h1 hy hf hx hn) ?_;have e:Txt.split a b=Builtin.Str.partsBetween a (Builtin.Str.occurrences a b 0 a.length (a.length+1)) b.length:=(xL (Ja2 h1)).trans (xL (Ja2 hf));have z:=fin (numbered s.toks (Builtin.Str.partsBetween a (Builtin.Str.occurrences a b 0 a.length (a.length+1)) b.length)) (s.toks+(Builtin.Str.partsBetween a (Builtin.Str.occurrences a b 0 a.length (a.length+1)) b.length).length)
     ((numbered_texts _ _).trans e.symm) (by
      have:=Ps List.length (numbered_texts s.toks (Builtin.Str.partsBetween a (Builtin.Str.occurrences a b 0 a.length (a.length+1)) b.length));rw [pp] at this;rw [this]; exact hn)
    rw [<- strsFrom_eq] at z;exact z
   ·exact SL F.slot_str_split (_y s a t) F.entry_str_split (Jab _ _) (meets_str_split_not_found a b t u h1 hy hf)
     (fin [(a,t)] s.toks ((xL (Ja2 h1)).trans (AC hf)).symm (by show 1<=sizeLine; decide))
  ·exact SL F.slot_str_split (_y s a t) F.entry_str_split (Jab _ _) (meets_str_split_cannot_occur a b t u h1)
    (fin [(a,t)] s.toks (AC h1).symm (by show 1<=sizeLine; decide))
 ·exact h.elim
def rJoin (K:ν):V->List V->Hp->VK->Prop:=fun x xs H Q=>match x,xs with
 | .str a,[.ref p]=>xD K H p fun xs=>∃ ts:List Str,xs=ts.map V.str/\ts.foldl (fun n z=>n+z.length+a.length) 0<=sizeLine/\Q (.str (Str.join a ts)) H
 | _,_=>False
def Zr:ei X "str.join" (rJoin X.K):=by
 intro π s σ H x xs v us Q I rx r h;unfold rJoin at h;split at h
 ·rename_i a p;obtain ⟨xs,hq,ts,rfl,hz,q⟩:=CI h;obtain ⟨t,rfl⟩:=rx;obtain ⟨w',rfl,e⟩:=vals1 r;cases e;obtain ⟨aq,rv,pl,hl⟩:=I.list hq;obtain ⟨l,rfl,e2⟩:=wF rv;have EW:Builtin.Str.tooLong ((l.map (·.1)).toArray.foldl (· + ·.length+a.length) 0)=false:=by
   unfold Builtin.Str.tooLong;refine pc (Nat.not_lt.mpr ?_);rw [List.foldl_toArray,e2];exact hz
  refine SL F.slot_str_join (_y s a t) F.entry_str_join (F.args_str_join_2 _ _) (meets_str_join_list a t p l EW) ⟨pl.isList,?_⟩;have hlen:(Builtin.Str.glued a (l.map (·.1))).length<=sizeLine:=by
   rw [e2,StrLaws.glued_eq_join];refine u8 ?_ hz;have:∀ (us:List Str) (n:Nat),n+(Str.join a us).length<=us.foldl (fun n z=>n+z.length+a.length) n:=by
    intro us
    induction us with
    | nil=>intro n; exact sK _
    | cons y r ih =>
     intro n;cases r with
     | nil=>show n+y.length<=n+y.length+a.length; omega
     | cons z r' =>
      have h1:(Str.join a (y::z::r')).length=y.length+a.length+(Str.join a (z::r')).length:=by
       show ((y++a)++Str.join a (z::r')).length=_;rw [Str.length_append,Str.length_append]
      have h2:=ih (n+y.length+a.length);rw [h1];refine u8 ?_ h2;omega
   have h0:=this ts 0;omega
  have e3:Builtin.Str.glued a (l.map (·.1))=Str.join a ts:=by rw [e2,StrLaws.glued_eq_join]
  match l,e2,e3,hlen with
  | [],e2,e3,hlen=>exact ⟨hlen,⟨.str (Str.join a ts),H,I.tok _,⟨_,by rw [e3]⟩,q⟩⟩
  | [p],e2,e3,hlen =>
   have e4:Str.join a ts=p.1:=by rw [<- e2]; rfl
   exact ⟨.str (Str.join a ts),H,I.tok _,⟨_,by rw [e4]⟩,q⟩
  | p1::p2::r',e2,e3,hlen=>exact ⟨hlen,⟨.str (Str.join a ts),H,I.tok _,⟨_,by rw [e3]⟩,q⟩⟩
 ·exact h.elim
def Ia {v:Value} {o:Option Int} (p:IsPart v o):∃ l:Option (Int×Tok),v=partValue l/\l.map (·.1)=o:=by
 cases p with
 | none=>exact ⟨none,rfl,rfl⟩
 | int i t=>exact ⟨some (i,t),rfl,rfl⟩
def Gf:V->Option Int->Option Int->Hp->VK->Prop:=fun x lo hi H Q=>match x with
 | .str z=>z.length<=sizeLine/\Q (.str (Txt.slice z lo hi)) H
 | _=>False
def YC:jP X Gf:=by
 intro π s σ H x v vl vu lo hi sl Q I rx hs pl pu h;unfold Gf at h;split at h
 ·rename_i z;obtain ⟨hz,q⟩:=h;obtain ⟨t,rfl⟩:=rx;obtain ⟨l,rfl,rfl⟩:=Ia pl;obtain ⟨u,rfl,rfl⟩:=Ia pu;refine ⟨"str",_,F.slot_str_getitem.lookup,_y _ _ _,wpAny_getItem_str_slice (l:=l) (u:=u) (st:=none) hs rfl
   (post_val_or_str ⟨u8 (Txt.slice_le z _ _) hz,fun t' k=>?_⟩)⟩
  exact ⟨.str (Txt.slice z (l.map (·.1)) (u.map (·.1))),H,I.tok k,⟨t',rfl⟩,q⟩
 ·exact h.elim
def Bi:R2:=fun x y H Q=>match x,y with
 | .int i,.int j=>w6 i j/\Q (.int (i * j)) H
 | .str z,.int n=>MulOk z n/\Q (.str (Txt.mul z n)) H
 | .ref l,.int k=>match H l with
  | some (.lst xs)=>-(2 ^ 63)<=k/\k < 2 ^ 63/\xs.length * k.toNat<=sizeLine/\∀ p,H p=none->Q (.ref p) (upd H p (.lst (List.replicate k.toNat xs).flatten))
  | _=>False
 | _,_=>False
def Xq:bc X (binaryOp .Mult) (fun x y H Q=>∃ z n,x=.str z/\y=.int n/\MulOk z n/\Q (.str (Txt.mul z n)) H):=by
 intro π s σ H x y v u Q I rx ry h;obtain ⟨z,n,rfl,rfl,hm,q⟩:=h;obtain ⟨t,rfl⟩:=rx;obtain ⟨t',rfl⟩:=ry;exact SB.mul hm fun t2 k=>⟨.str _,H,I.tok _,⟨_,rfl⟩,q⟩
def jX:bc X (binaryOp .Mult) Bi:=(U5.or (Xq.or Zc)).imp fun x y H Q h=>by
 unfold Bi at h;split at h
 ·exact .inl ⟨_,_,rfl,rfl,h.1,h.2⟩
 ·exact .inr (.inl ⟨_,_,rfl,rfl,h.1,h.2⟩)
 ·split at h
  ·rename_i xs h1;obtain ⟨h2,h3,h4,h5⟩:=h;exact .inr (.inr ⟨_,_,xs,rfl,rfl,h1,h2,h3,h4,h5⟩)
  ·exact h.elim
 ·exact h.elim
def Lj:∀ {bs:List Bool} {us:List Value},Vals (bs.map V.bl) us->us=bs.map Value.bool
 | [],_,.nil=>rfl
 | b::r,_,.cons h h'=>by
  have h:_=Value.bool b:=h;rw [h,Lj h'];rfl
def all_range (bs:List Bool):(List.range bs.length).all (fun j=>bs.getD j true)=bs.all id:=by
 rw [UV,At,At];constructor
 ·intro h b hb;obtain ⟨i,hi,e⟩:=Ja3 hb;have:=h i (Ja9.mpr hi);rw [_A,ss hi,e] at this;exact this
 ·intro h j hj;have hj:=Ja9.mp hj;rw [_A,ss hj];exact h _ (_W hj)
def WQ (hc:X.calm=true):cT X (.builtin "all") (fun xs H Q=>∃ (p:Addr) (bs:List Bool),xs=[.ref p]/\aD X.K H p (bs.map V.bl)/\Q (.bl (bs.all id)) H):=by
 intro π s σ H xs us Q I r h;obtain ⟨p,bs,rfl,hq,q⟩:=h;obtain ⟨u,rfl,e⟩:=vals1 r;cases e;obtain ⟨aq,rv,pl,hz⟩:=I.list hq;have eb:=Lj rv;subst eb;have bN:p < s.heap.objs.size:=pl.lt;refine call_all_walk (wpAny_pyIter_list pl.isList ?_);refine ⟨s.heap.objs.size,_,_,_,_,_,fun j=>bs.getD j true,rfl,Walks.list (A:=X.A.in1) (show X.A.in1.handled=none from I.ok.hd hc) _ p (wS bN) (bs.map Value.bool).toArray,⟨⟨_,ut _ rfl,rfl,rfl⟩,pl.isList.push _⟩,?_,?_⟩
 ·intro i v s' Q' E' hP hQ;have hi:bs[i]?=some (bs.getD i true)/\v=.bool (bs.getD i true):=by
   have hP:(bs.map Value.bool).toArray[i]?=some v:=hP;rw [List.getElem?_toArray,Da] at hP;cases e:bs[i]? with
   | none=>rw [e] at hP; cases hP
   | some b =>
    rw [e] at hP;have:bs.getD i true=b:=by rw [_A,e]; rfl
    rw [this];exact ⟨rfl,(Go hP).symm⟩
  rw [hi.2];exact Op hQ
 ·intro h' tk hk;have e:(List.range (bs.map Value.bool).toArray.size).all (fun j=>bs.getD j true)=bs.all id:=by
   rw [tz,pp];exact all_range bs
  rw [e];refine ⟨.bl (bs.all id),H,I.kept (t':=tk) (fun b o eo=>?_),rfl,q⟩;refine hk b o ?_ (lv _ eo);intro hm;have e1:b=s.heap.objs.size:=by simpa using hm
  exact absurd (ul eo) (by rw [e1]; exact Ix _)
def v8 (x:Str):It:=⟨fun i _=>i < x.length,fun i H y H'=>H'=H/\∃ c,x.cps[i]?=some c/\y=.str ⟨#[c]⟩,fun i _=>x.length<=i⟩
def GP {P:Program} {w:World} {K:ν} {tg:Expr} {x:Str} {t:Tok} {ty:String} (it:Addr)
  (cy:["enumerate","zip","dict_itemiterator","dict_reverseitemiterator","odict_iterator","itertools.zip_longest","itertools.pairwise"].contains ty=false)
  (W:∀ A:Around,A.handled=none->Walks P w A it [it] [it] x.cps.size (SignAt x) (fun i h=>h.IsStrIter it ty x t i)) (W0:∀ (A:Around) (i:Nat) (s:Shared) (Q:Value->Shared->Prop) (E:Value->Shared->Prop),s.heap.IsStrIter it ty x t i->Q (.ref it) s->wpAny (model P w) A (pyIter (.ref it)) Q E s) :
  Turn P w K tg (v8 x) [it] it (fun i h=>i<=x.length/\h.IsStrIter it ty x t i) where
 mem:=by simp
 obj:=fun i h st b hb=>by
  have e:b=it:=by simpa using hb
  subst e;obtain ⟨_,o,e,c,d⟩:=st;exact ⟨o,e,fun v z=>by rw [d] at z; cases z⟩
 keep:=fun i h h' st k=>⟨st.1,let ⟨o,ho,r⟩:=st.2; ⟨o,k it (by simp) o ho,r⟩⟩
 item:=by
  intro X hP hw hK hc i π s σ H E I hf st hg;subst hP hw hK;obtain ⟨f0,f1,f2,f3,f4,f5⟩:=hf it (by simp);refine (W X.A (I.ok.hd hc)).item i s _ E hg st.2 fun v h' tk hv st' hk=>?_;obtain ⟨c,u,Ec,rfl⟩:=hv;have I1:Inv X π σ H { s with heap:=h',toks:=tk }:=I.turned (t':=tk) (fun b o hb e=>hk b o (by simpa using hb) e) f0 f1 f3 f4 f5;obtain ⟨o,e,cc,d⟩:=id st';exact ⟨_,rfl,AN (s:={ s with heap:=h',toks:=tk }) e cc d cy ⟨.str ⟨#[c]⟩,H,I1,⟨u,rfl⟩,⟨rfl,c,Ec,rfl⟩,⟨hg,st'⟩,fun b hb=>(hf b hb).1⟩⟩
 done:=by
  intro X hP hw hK hc i π s σ H E I hf st hg;subst hP hw hK;obtain ⟨f0,f1,f2,f3,f4,f5⟩:=hf it (by simp);have hi:i=x.cps.size:=Nat.le_antisymm st.1 hg;subst hi;exact (W X.A (I.ok.hd hc)).done s _ E st.2 fun h' tk hk=>⟨rfl,I.turned (t':=tk) (fun b o hb e=>hk b o (by simpa using hb) e) f0 f1 f3 f4 f5⟩
 self:=fun A i s Q E st h=>W0 A i s Q E st.2 h
def B3 (tl:TE):TI:=fun σ H R=>tl σ H fun x H1=>match x with
 | .str z=>R (v8 z) H1
 | _=>False
def Tj {tg l:Expr} {tl:TE} (hl:PE X l tl):PI X tg l (B3 tl):=by
 intro π s σ H R I h;refine aC (hl π s σ H _ I h) fun v s1 ⟨x,H1,I1,r1,q1⟩=>?_;have q1':∃ z,x=.str z/\R (v8 z) H1:=by
  dsimp only at q1;split at q1
  ·exact ⟨_,rfl,q1⟩
  ·exact q1.elim
 obtain ⟨z,rfl,q⟩:=q1';obtain ⟨t,rfl⟩:=r1;have fp:∀ b∈[s1.heap.objs.size],lG X π H1 b:=fun b hb=>by
  have e:b=s1.heap.objs.size:=by simpa using hb
  subst e;exact I1.zx (sK _) (I1.ay.fresh (sK _))
 cases ha:z.cps.all (· < 128)
 ·refine wpAny_pyIter_wide ha ⟨s1.heap.objs.size,[s1.heap.objs.size],_,_,H1,rfl,I1.kept (t':=s1.toks) fun b o e=>lv _ e,
   GP (ty := "str_iterator") (t:=t) _ (by decide) (fun A hA=>Walks.strWide hA _ z t) (fun A i s Q E st h=>wpAny_pyIter_striter_wide st h),⟨Cl _,_,ut _ rfl,rfl,rfl⟩,fp,q⟩
 ·refine wpAny_pyIter_ascii ha ⟨s1.heap.objs.size,[s1.heap.objs.size],_,_,H1,rfl,I1.kept (t':=s1.toks) fun b o e=>lv _ e,
   GP (ty := "str_ascii_iterator") (t:=t) _ (by decide) (fun A hA=>Walks.strAscii hA _ z t) (fun A i s Q E st h=>wpAny_pyIter_striter_ascii st h),⟨Cl _,_,ut _ rfl,rfl,rfl⟩,fp,q⟩
end
section
variable {X:Cx} {a b c:Expr} {ta tb tc:TE} {pos:Pos}
def U2 (ha:PE X a ta):PE X (.UnaryOp .Not a pos) (yZ ta):=by
 intro π s σ H Q I h;refine UnaryOp_ (aC (ha π s σ H _ I h) fun v s1 ⟨x,H1,I1,r1,q1⟩=>?_);have q1':∃ k,x=.bl k/\Q (.bl (!k)) H1:=by
  dsimp only at q1;split at q1
  ·exact ⟨_,rfl,q1⟩
  ·exact q1.elim
 obtain ⟨k,rfl,z1⟩:=q1';cases r1;exact not_of (Op ⟨.bl (!k),H1,I1,rfl,z1⟩)
def Y2 {op op':CmpOp} {f g:Int->Int->Bool} (ho:bc X (compareOp op) (jZ f)) (ho':bc X (compareOp op') (jZ g)) (ha:PE X a ta) (hb:PE X b tb) (hc:PE X c tc)
  (hm:lastMarks [op,op'] [b,c]=false:=by with_unfolding_all rfl):PT X (.Compare a [op,op'] [b,c] pos) (yQ f g ta tb tc):=by
 intro π s σ H Q I h;refine isTrue_chain (aC (ha π s σ H _ I h) fun v s1 ⟨x,H1,I1,r1,q1⟩=>test_link (aC (hb π s1 σ H1 _ I1 q1) fun u s2 ⟨y,H2,I2,r2,q2⟩=>?_)) hm;have q2':∃ i j,x=.int i/\y=.int j/\if f i j=true then tc σ H2 (fun z H3=>(match z with | .int k=>Q (g j k) H3 | _=>False)) else Q false H2:=by
  dsimp only at q2;split at q2
  ·exact ⟨_,_,rfl,rfl,q2⟩
  ·exact q2.elim
 obtain ⟨i,j,rfl,rfl,z2⟩:=q2';refine aC (ho π s2 σ H2 (.int i) (.int j) v u (fun z H3=>z=.bl (f i j)/\H3=H2) I2 r1 r2 ⟨rfl,rfl⟩) fun d s3 ⟨z,H3,I3,r3,e,e'⟩=>?_;subst e e';cases r3;refine Op ?_;cases hf:f i j with
 | false =>
  rw [hf] at z2;exact ite_ff ⟨H3,I3,z2⟩
 | true =>
  rw [hf,AC rfl] at z2;refine ite_tt (test_last (aC (hc π s3 σ H3 _ I3 z2) fun w' s4 ⟨z',H4,I4,r4,q4⟩=>?_));have q4':∃ k,z'=.int k/\Q (g j k) H4:=by
   dsimp only at q4;split at q4
   ·exact ⟨_,rfl,q4⟩
   ·exact q4.elim
  obtain ⟨k,rfl,z4⟩:=q4';refine aC (ho' π s4 σ H4 (.int j) (.int k) u w' (fun z H5=>z=.bl (g j k)/\H5=H4) I4 r2 r4 ⟨rfl,rfl⟩) fun d' s5 ⟨z2,H5,I5,r5,e,e'⟩=>?_;subst e e';cases r5;exact Op ⟨H5,I5,z4⟩
def xp (K:ν):List V->Hp->VK->Prop:=fun xs H Q=>match xs with
 | [.str y]=>y.length<=sizeLine/\Q (.int y.length) H
 | [.ref p]=>bj K H p fun ys=>Q (.int ys.length) H
 | _=>False
def aaS:cT X (.builtin "len") (xp X.K):=Vb.imp fun xs H Q h=>by
 unfold xp at h;split at h
 ·exact ⟨_,_,rfl,⟨h.1,rfl⟩,h.2⟩
 ·obtain ⟨ys,h1,h2⟩:=xH h;rcases h1 with h1 | h1
  ·exact ⟨_,_,rfl,.inl ⟨ys,h1,rfl⟩,h2⟩
  ·exact ⟨_,_,rfl,.inr ⟨ys,h1,rfl⟩,h2⟩
 ·exact h.elim
def GD (K:ν):List V->Hp->VK->Prop:=fun xs H Q=>match xs with
 | [x,cV]=>∃ t b,((∃ n,cV=.ty n)\/∃ a,cV=.ref a)/\fP K H x t/\PySem.W.kitOne K t (wb cV)=some b/\Q (.bl b) H
 | _=>False
def R6:cT X (.builtin "isinstance") (GD X.K):=Py.imp fun xs H Q h=>by
 unfold GD at h;split at h
 ·obtain ⟨t,b,h1,h2,h3,h4⟩:=h;exact ⟨_,_,t,b,rfl,h1,h2,h3,h4⟩
 ·exact h.elim
def vz (K:ν):List V->Hp->VK->Prop:=fun xs H Q=>match xs with
 | [.ref p]=>xD K H p fun xs=>∃ bs:List Bool,xs=bs.map V.bl/\Q (.bl (bs.all id)) H
 | _=>False
def aco (hc:X.calm=true):cT X (.builtin "all") (vz X.K):=(WQ hc).imp fun xs H Q h=>by
 unfold vz at h;split at h
 ·obtain ⟨xs,h1,bs,rfl,h2⟩:=CI h;exact ⟨_,bs,rfl,h1,h2⟩
 ·exact h.elim
def vU (K:ν):List V->Hp->VK->Prop:=fun xs H Q=>match xs with
 | [.ref p]=>bj K H p fun ys=>∀ l,H l=none->Q (.ref l) (upd H l (.lst ys))
 | _=>False
def VO:cT X (.type "list") (vU X.K):=OC.imp fun xs H Q h=>by
 unfold vU at h;split at h
 ·obtain ⟨ys,h1,h2⟩:=xH h;exact ⟨_,ys,rfl,h1,h2⟩
 ·exact h.elim
def pU (K:ν):R2:=fun x y H Q=>match x,y with
 | .ref p,.int i=>bj K H p fun xs=>match dI xs i with
  | some v=>Q v H
  | none=>False
 | .str z,.int i=>z.length<=sizeLine/\match dI z.cps.toList i with
  | some c=>Q (.str ⟨#[c]⟩) H
  | none=>False
 | _,_=>False
def gj.imp {r r':R2} (h:gj X r) (i:∀ x y H Q,r' x y H Q->r x y H Q):gj X r':=fun value slice π s σ H x y v u Q I rx ry q=>h value slice π s σ H x y v u Q I rx ry (i x y H Q q)
def qx:gj X (pU X.K):=Zm.imp fun x y H Q h=>by
 unfold pU at h;split at h
 ·obtain ⟨xs,h1,h2⟩:=xH h;split at h2
  ·rename_i v e;rcases h1 with h1 | h1
   ·exact .inl ⟨_,xs,_,v,rfl,rfl,h1,e,h2⟩
   ·exact .inr (.inl ⟨_,xs,_,v,rfl,rfl,h1,e,h2⟩)
  ·exact h2.elim
 ·obtain ⟨h1,h2⟩:=h;split at h2
  ·rename_i d e;exact .inr (.inr ⟨_,_,d,rfl,rfl,h1,e,h2⟩)
  ·exact h2.elim
 ·exact h.elim
def xw (K:ν):V->Option Int->Option Int->Hp->VK->Prop:=fun x lo hi H Q=>match x with
 | .str z=>z.length<=sizeLine/\Q (.str (Txt.slice z lo hi)) H
 | .ref a=>xD K H a fun xs=>∀ p,H p=none->Q (.ref p) (upd H p (.lst (gC xs lo hi)))
 | _=>False
def Ue:jP X (xw X.K):=by
 intro π s σ H x v vl vu lo hi sl Q I rx hs pl pu h;refine (YC.or XI) π s σ H x v vl vu lo hi sl Q I rx hs pl pu ?_;unfold xw at h;split at h
 ·exact .inl h
 ·obtain ⟨xs,h1,h2⟩:=CI h;exact .inr ⟨_,xs,rfl,h1,h2⟩
 ·exact h.elim
def zJ (t:TE):TO:=fun σ H Q=>t σ H fun x H1=>match x with
 | .int i=>Q (some i) H1
 | _=>False
def Rc {e:Expr} {te:TE} (h:PE X e te):PO X (some e) (zJ te):=by
 intro π s σ H Q I q;refine evalPart_some_step (aC (h π s σ H _ I q) fun v s1 ⟨x,H1,I1,r1,q1⟩=>?_);have q1':∃ i,x=.int i/\Q (some i) H1:=by
  dsimp only at q1;split at q1
  ·exact ⟨_,rfl,q1⟩
  ·exact q1.elim
 obtain ⟨i,rfl,z1⟩:=q1';obtain ⟨t,rfl⟩:=r1;exact ⟨some i,H1,I1,.int i t,z1⟩
def yL:ux:=fun o i v H Q=>match o,i with
 | .ref p,.int k=>match H p with
  | some (.lst xs)=>(match gF xs.length k with
   | some j=>Q (upd H p (.lst (xs.set j v)))
   | none=>False)
  | _=>False
 | _,_=>False
def JC:vK X yL:=by
 intro π s σ H o i v ov iv u Q I ro ri rv h;refine set_list π s σ H o i v ov iv u Q I ro ri rv ?_;unfold yL at h;split at h
 ·split at h
  ·rename_i xs h1;split at h
   ·rename_i j h2;exact ⟨_,xs,_,j,rfl,rfl,h1,h2,h⟩
   ·exact h.elim
  ·exact h.elim
 ·exact h.elim
def ei.imp {id:String} {r r':V->List V->Hp->VK->Prop} (h:ei X id r) (i:∀ x xs H Q,r' x xs H Q->r x xs H Q):ei X id r':=fun π s σ H x xs v us Q I rx rv q=>h π s σ H x xs v us Q I rx rv (i x xs H Q q)
def zq:V->List V->Hp->VK->Prop:=fun x vs H Q=>match x,vs with
 | .ref l,[y]=>match H l with
  | some (.lst xs)=>xs.length < sizeLine/\Q .aw (upd H l (.lst (xs++[y])))
  | _=>False
 | _,_=>False
def l8:ei X "list.append" zq:=ei.imp Sv fun x xs H Q h=>by
 unfold zq at h;split at h
 ·split at h
  ·rename_i zs h1;exact ⟨_,zs,_,rfl,rfl,h1,h.1,h.2⟩
  ·exact h.elim
 ·exact h.elim
def CY:V->List V->Hp->VK->Prop:=fun x vs H Q=>match x,vs with
 | .ref l,[.ref b]=>match H l,H b with
  | some (.lst xs),some (.lst zs)=>xs.length+zs.length<=sizeLine/\Q .aw (upd H l (.lst (xs++zs)))
  | _,_=>False
 | _,_=>False
def Oy:ei X "list.extend" CY:=ei.imp Tr fun x xs H Q h=>by
 unfold CY at h;split at h
 ·split at h
  ·rename_i zs ws h1 h2;exact ⟨_,_,zs,ws,rfl,rfl,h1,h2,h.1,h.2⟩
  ·exact h.elim
 ·exact h.elim
def clsName (H:Hp):V->Option String
 | .aw=>some "NoneType"
 | .bl _=>some "bool"
 | .int _=>some "int"
 | .str _=>some "str"
 | .ref p=>match H p with
  | some (.lst _)=>some "list"
  | some (.tup _)=>some "tuple"
  | some (.dK _)=>some "dict"
  | _=>none
 | _=>none
def wQ (T n:String):Bool:=T == n || (T == "bool" && n == "int")
def Zo {K:ν} {H:Hp} {x:V} {T:String} (h:clsName H x=some T):fP K H x (.type T)/\T∈["NoneType","bool","int","str","list","tuple","dict"]:=by
 unfold clsName at h;split at h
 ·cases h; exact ⟨.aw,by simp⟩
 ·cases h; exact ⟨.bl _,by simp⟩
 ·cases h; exact ⟨.int _,by simp⟩
 ·cases h; exact ⟨.str _,by simp⟩
 ·split at h
  ·rename_i e; cases h; exact ⟨.lst e,by simp⟩
  ·rename_i e; cases h; exact ⟨.tup e,by simp⟩
  ·rename_i e; cases h; exact ⟨.dK e,by simp⟩
  ·cases h
 ·cases h
def Si (K:ν):∀ T,T∈["NoneType","bool","int","str","list","tuple","dict"]->∀ n,n∈["bool","int","str","list","tuple","dict"]->PySem.W.kitOne K (.type T) (.type n)=some (wQ T n):=by
 intro T hT n hn;simp only [mo,List.mem_nil_iff,xz] at hT hn;rcases hT with rfl | rfl | rfl | rfl | rfl | rfl | rfl <;> rcases hn with rfl | rfl | rfl | rfl | rfl | rfl <;> kernel_rfl
def A0:List V->Hp->VK->Prop:=fun xs H Q=>match xs with
 | [x,.ty n]=>n∈["bool","int","str","list","tuple","dict"]/\match clsName H x with
  | some T=>Q (.bl (wQ T n)) H
  | none=>False
 | _=>False
def iR:cT X (.builtin "isinstance") A0:=R6.imp fun xs H Q h=>by
 unfold A0 at h;split at h
 ·rename_i x n;obtain ⟨hn,h⟩:=h;split at h
  ·rename_i T e;obtain ⟨h1,h2⟩:=Zo (K:=X.K) e;exact ⟨_,_,.inl ⟨_,rfl⟩,h1,Si _ T h2 n hn,h⟩
  ·exact h.elim
 ·exact h.elim
def CV (r:V->List V->Hp->VK->Prop) (to:TE) (t:TA):TE:=fun σ H Q=>to σ H fun x H1=>match x with
 | .str z=>t σ H1 fun xs H2=>r (.str z) xs H2 Q
 | _=>False
def y8 (r:V->List V->Hp->VK->Prop) (to:TE) (t:TA):TE:=fun σ H Q=>to σ H fun x H1=>match x with
 | .ref l=>(match H1 l with
  | some (.lst _)=>t σ H1 fun xs H2=>r (.ref l) xs H2 Q
  | _=>False)
 | _=>False
section
variable {T:String} {name:Str} {id:String} {r:V->List V->Hp->VK->Prop} {o e:Expr} {es:List Expr} {to:TE} {t:TA} {apos bt:Pos}
def VD (slot:Slot "str" name id) (cy:typeOf (.builtin id)=pure (.type "method_descriptor")) (hm:ei X id r) (ho:PE X o to) (ha:PA X (e::es) t)
  (hs:(e::es).all noStar=true:=by rfl) (aY:decide ((e::es).length+([]:List Keyword).length+(if ([]:List Keyword).isEmpty then 0 else 1) < 30)=true:=by rfl)
  (jn:attributeBase o name X.env (eval o X.env)=eval o X.env:=by rfl) (jw:(apos.endLine == bt.line)=true:=by rfl) :
  PE X (.Call (.Attribute o name apos) (e::es) [] bt) (CV r to t):=by
 have hs':=hs;rw [KM,zn] at hs';have aM:starEach (e::es) X.env=(false,eval e X.env)::starEach es X.env:=fM hs'.1;have DU:(backTo bt (starEach es X.env)).any (·.1)=false:=iE hs'.2;have Ek:((backTo bt (starEach (e::es) X.env)).all (fun x=>!x.1) && (backToKw bt (keywordEach [] X.env)).all (fun x=>x.1.isSome)
   && decide ((e::es).length+([]:List Keyword).length+(if ([]:List Keyword).isEmpty then 0 else 1) < 30))=true:=by
  rw [AR hs,aY];rfl
 intro π s σ H Q I h;refine wpAny_Call_method_late jn Ek jw rfl (aC (ho π s σ H _ I h) fun v s1 ⟨x,H1,I1,r1,q1⟩=>?_);dsimp only at q1;split at q1
 ·rename_i z;obtain ⟨h1,h2⟩:=Cz (T := "str") I1 r1 rfl;refine ⟨"str",id,PySem.F.plainAttrs_str,slot,cy,h1,h2,?_⟩;have hA:=ha bt π s1 σ H1 _ I1 q1;rw [aM] at hA ⊢;refine _o (by show (false || (backTo bt (starEach es X.env)).any (·.1))=false; rw [DU] <;> rfl) (_z ?_);exact aC hA fun us s2 ⟨vs,H2,I2,r2,q2⟩=>hm π s2 σ H2 (.str z) vs v us Q I2 r1 r2 q2
 ·exact q1.elim
def Pb (slot:Slot "list" name id) (cy:typeOf (.builtin id)=pure (.type "method_descriptor")) (hm:ei X id r) (ho:PE X o to) (ha:PA X (e::es) t)
  (hs:(e::es).all noStar=true:=by rfl) (aY:decide ((e::es).length+([]:List Keyword).length+(if ([]:List Keyword).isEmpty then 0 else 1) < 30)=true:=by rfl)
  (jn:attributeBase o name X.env (eval o X.env)=eval o X.env:=by rfl) (jw:(apos.endLine == bt.line)=true:=by rfl) :
  PE X (.Call (.Attribute o name apos) (e::es) [] bt) (y8 r to t):=by
 have hs':=hs;rw [KM,zn] at hs';have aM:starEach (e::es) X.env=(false,eval e X.env)::starEach es X.env:=fM hs'.1;have DU:(backTo bt (starEach es X.env)).any (·.1)=false:=iE hs'.2;have Ek:((backTo bt (starEach (e::es) X.env)).all (fun x=>!x.1) && (backToKw bt (keywordEach [] X.env)).all (fun x=>x.1.isSome)
   && decide ((e::es).length+([]:List Keyword).length+(if ([]:List Keyword).isEmpty then 0 else 1) < 30))=true:=by
  rw [AR hs,aY];rfl
 intro π s σ H Q I h;refine wpAny_Call_method_late jn Ek jw rfl (aC (ho π s σ H _ I h) fun v s1 ⟨x,H1,I1,r1,q1⟩=>?_);dsimp only at q1;split at q1
 ·rename_i l;split at q1
  ·rename_i zs el;obtain ⟨h1,h2⟩:=Cz (T := "list") I1 r1 (.inl ⟨rfl,zs,aD.of el⟩);refine ⟨"list",id,PySem.F.plainAttrs_list,slot,cy,h1,h2,?_⟩;have hA:=ha bt π s1 σ H1 _ I1 q1;rw [aM] at hA ⊢;refine _o (by show (false || (backTo bt (starEach es X.env)).any (·.1))=false; rw [DU] <;> rfl) (_z ?_);exact aC hA fun us s2 ⟨vs,H2,I2,r2,q2⟩=>hm π s2 σ H2 (.ref l) vs v us Q I2 r1 r2 q2
  ·exact q1.elim
 ·exact q1.elim
end
def XN {CX:dX} {P:Program} {w:World} {K:ν} {mg:Str->Option Value} {base:Heap} {N:List Str} {qual:Str} {scope:Scope} {f:Addr} {cd:Value} {A:Around} {outer:List Env} {s:Shared} {H:Hp} {E:XK} :
  (en CX P w K mg base N qual scope f cd A outer s H E).K=K:=rfl
def e8 {α:Type} (a:α) (l:List α):dI (a::l) 0=some a:=mK (j:=0) rfl
def lC {α:Type} (a b:α) (l:List α):dI (a::b::l) 1=some b:=mK (j:=1) rfl
def zl {α:Type} (a b c:α) (l:List α):dI (a::b::c::l) 2=some c:=mK (j:=2) rfl
def abY (n:Nat):gF (n+1) 0=some 0:=by
 unfold gF;rw [AC (by decide),AC (by omega)];rfl
def abx (n:Nat):gF (n+3) 2=some 2:=by
 unfold gF;rw [AC (by decide),AC (by omega)];rfl
def Uc {H:Hp} {p b:Addr} {o u:HO} (h:H b=some u) (hp:H p=Option.none):upd H p o b=some u:=by rw [aj (gv h hp)]; exact h
def dE:bootBuiltins "isinstance" = some (.builtin "isinstance"):=by decide +kernel
def BG:bootBuiltins "all" = some (.builtin "all"):=by decide +kernel
def lH:bootBuiltins "str" = some (.type "str"):=by decide +kernel
def Sr:bootBuiltins "bool" = some (.type "bool"):=by decide +kernel
def Fz:bootBuiltins "int" = some (.type "int"):=by decide +kernel
def GB:bootBuiltins "list" = some (.type "list"):=by decide +kernel
def aci:bootBuiltins "dict" = some (.type "dict"):=by decide +kernel
def YJ:bootBuiltins "ValueError" = some (.type "ValueError"):=by decide +kernel
end
abbrev JF (ifs:List Expr) (env:Env):Sem Bool:=forIn ifs true fun c r=>if r=true then do let ok <- isTrue c env (eval c env); pure (ForInStep.yield ok) else pure (ForInStep.yield r)
section
variable {prog:Program} {w:World} {A:Around} {R:Result->Shared->Prop} {s:Shared}
def Yn {elt tg iter:Expr} {ifs:List Expr} {scope:Scope} {pos:Pos} {it acc:Value} {env:Env} (J:Nat->Shared->Prop) (hN:∀ e s',notedBy (model prog w) A env (fun e s'=>R (.error e) s') e s'->True)
  (turn:∀ n s,J n s->wpAny (model prog w) A (pyNext it) (fun r s1=>match r with
   | none=>R (.ok .next) s1
   | some v=>wpAny (model prog w) A (letOwnedTupleGo tg it v) (fun _ s2=>wpAny (model prog w) A (assign tg env v) (fun _ s3=>wpAny (model prog w) A (JF ifs env)
     (fun ok s4=>if ok=true then wpAny (model prog w) A (eval elt env) (fun x s5=>wpAny (model prog w) A (call (.builtin "list.append") [acc,x]) (fun _ s6=>∃ m,m < n/\J m s6) (fun _ _=>False) s5) (fun _ _=>False) s4
      else ∃ m,m < n/\J m s4) (fun _ _=>False) s3) (fun _ _=>False) s2) (fun _ _=>False) s1) (fun _ _=>False) s)
  (n:Nat) (h:J n s):codeAny (model prog w) A (.compLoop (.ListComp elt [⟨tg,iter,ifs,0⟩] scope pos) 0 it acc env) R s:=by
 have no:∀ {E:Value->Shared->Prop} (e:Value) (s':Shared),False->E e s':=fun _ _ z=>z.elim;refine codeAny_loop rfl J (fun n s hI=>?_) n h;refine (show wpAny _ A (Sem.onRaise (compTurn (.ListComp elt [⟨tg,iter,ifs,0⟩] scope pos) 0 it acc env) (fun x=>do noteFrame x env; theTreesLotGoes x)) _ _ s from ?_);refine wpAny_noted ?_;rw [compTurn_list];refine lm (_Y (lm (IN (turn n s hI) (fun r s1 q1=>?_) no)));cases r with
 | none=>exact pi q1
 | some v =>
  refine lm (IN q1 (fun _ s2 q2=>lm (IN q2 (fun _ s3 q3=>lm (IN q3 (fun ok s4 q4=>?_) no)) no)) no);cases ok with
  | false=>exact pi ⟨rfl,q4⟩
  | true=>exact lm (lm (IN q4 (fun x s5 q5=>lm (IN q5 (fun _ s6 q6=>pi (pi ⟨rfl,q6⟩)) no)) no))
end
def pM (X:Cx) (ifs:List Expr) (t:TT):Prop :=
 ∀ (π:List (Addr×Obj)) (s:Shared) (σ:St) (H:Hp) (Q:Bool->Hp->Prop),Inv X π σ H s->t σ H Q->wpAny (model X.prog X.w) X.A (JF ifs X.env) (TP X π σ Q) X.xe s
def jg:TT:=fun _ H Q=>Q true H
def Wk {X:Cx}:pM X [] jg:=fun _ _ _ H _ I h=>wpAny_tests_nil ⟨H,I,h⟩
def abT {X:Cx} {c:Expr} {t:TT} (h:PT X c t):pM X [c] t:=fun π s σ H Q I q=>wpAny_tests_one (h π s σ H Q I q)
def vJ (wi:TI) (tt:TT) (te:TE):TE:=fun σ H Q=>wi σ H fun J H1=>∃ W:Nat->List V->Nat->Hp->Prop,(∃ m,W 0 [] m H1)/\∀ i ys m H,W i ys m H ->
 ys.length<=sizeLine/\((J.stop i H/\∀ l,H l=none->Q (.ref l) (upd H l (.lst ys))) \/
  (J.go i H/\ys.length < sizeLine/\∀ y H',J.mM i H y H'->tt [some y] H' fun c H2=>if c=true then te [some y] H2 fun z H3=>∃ m',m' < m/\W (i+1) (ys++[z]) m' H3 else ∃ m',m' < m/\W (i+1) ys m' H2))
section
variable {X:Cx}
structure zo (X:Cx) (π:List (Addr×Obj)) (H:Hp) (C:Addr):Prop where
 fr:H C=none
 nl:C≠X.env.locals
 ab:X.s₀.heap.objs.size<=C
 nc:∀ x c,X.env.cells.lookup x=some c->c≠C
 np:∀ p∈X.pn++π,p.1≠C
def zo.go {π:List (Addr×Obj)} {σ:St} {H:Hp} {s:Shared} {C:Addr} {h':Heap} (o:zo X π H C) (I:Inv X π σ H s) (hs:Heap.SameBut C s.heap h'):Inv X π σ H { s with heap:=h' } :=
 I.turned (t':=s.toks) (fun b ob hb e=>(hs.2 b hb).trans e) o.fr o.nl (.inr o.ab) o.nc o.np
end
def cJ (st:Addr) (H H':Hp):Prop:=∀ c o,c≠st->H c=some o->H' c=some o
def cJ.trans {st:Addr} {H H1 H2:Hp} (a:cJ st H H1) (b:cJ st H1 H2):cJ st H H2:=fun c o n e=>b c o n (a c o n e)
def ag.upd {H:Hp} {p:Addr} {o:HO} (h:H p=Option.none):ag H (upd H p o):=fun b u e=>by rw [aj (gv e h)]; exact e
def ag.keep {H H':Hp} (h:ag H H') (st:Addr):cJ st H H':=fun c o _ e=>h c o e
def cJ.upd {H:Hp} {p:Addr} {o:HO}:cJ p H (upd H p o):=fun c u n e=>by rw [aj n]; exact e
def cJ.same {H H1 H':Hp} {st:Addr} (a:ag H H1) (h:H st=Option.none) (k:cJ st H1 H'):ag H H':=fun c o e=>k c o (gv e h) (a c o e)
def nA:V->Bool
 | .str _=>true
 | _=>false
def mE (t:TE):TE:=fun σ H Q=>∃ M:VK,t σ H M/\∀ v H1,M v H1->Q v H1
def mA (t:TA):TA:=fun σ H Q=>∃ M:List V->Hp->Prop,t σ H M/\∀ v H1,M v H1->Q v H1
def PE.m {X:Cx} {e:Expr} {t:TE} (h:PE X e t):PE X e (mE t):=fun π s σ H Q I ⟨M,h1,h2⟩=>aC (h π s σ H M I h1) fun _ _ ⟨v,H1,I1,r,q⟩=>⟨v,H1,I1,r,h2 v H1 q⟩
def PA.m {X:Cx} {e:List Expr} {t:TA} (h:PA X e t):PA X e (mA t):=fun pos π s σ H Q I ⟨M,h1,h2⟩=>aC (h pos π s σ H M I h1) fun _ _ ⟨v,H1,I1,r,q⟩=>⟨v,H1,I1,r,h2 v H1 q⟩
def PI.imp {X:Cx} {tg it:Expr} {t t':TI} (h:PI X tg it t) (i:∀ σ H R,t' σ H R->t σ H R):PI X tg it t':=fun π s σ H R I hw=>h π s σ H R I (i σ H R hw)
def Dx (ta:TA):TI:=fun σ H R=>ta σ H fun vs H1=>match vs with
 | [.int j]=>(-(2 ^ 62)<=j/\j < 2 ^ 62)/\R (oK 0 j.toNat) H1
 | _=>False
def Rk {X:Cx} {tg a:Expr} {ta:TA} {p pos:Pos} (hg:Gl X "range") (hm:X.mg "range" = none) (ha:PA X [a] ta) (hs:starEach [a] X.env=[(false,eval a X.env)]:=by rfl):PI X tg (.Call (.Name "range" p) [a] [] pos) (Dx ta) :=
 (T2 hg hm ha.m hs).imp fun σ H R h=>⟨_,h,fun vs H1 z=>by
  split at z
  ·exact ⟨_,rfl,z.1.1,z.1.2,z.2⟩
  ·exact z.elim⟩
def AL (K:ν) (tl:TE):TI:=fun σ H R=>tl σ H fun x H1=>match x with
 | .ref a=>(∃ xs,aD K H1 a xs)/\R (lF K a) H1
 | _=>False
def aag {X:Cx} {tg l:Expr} {tl:TE} (hl:PE X l tl):PI X tg l (AL X.K tl):=(Xe hl.m).imp fun σ H R h=>⟨_,h,fun x H1 z=>by
  split at z
  ·exact ⟨_,rfl,z.1,z.2⟩
  ·exact z.elim⟩
def Kl (J:It) (g:TG) (tb:TS) (D:Ends) (σ:St) (H1:Hp):Prop:=∃ W:Nat->Nat->St->Hp->Prop,(∃ m,W 0 m σ H1)/\∀ i m σ H,W i m σ H ->
 (J.stop i H/\D.nx σ H)\/(J.go i H/\∃ N:St->Hp->Prop,(∀ σ' H',N σ' H'->∃ m',m' < m/\W (i+1) m' σ' H')/\∀ x H',J.mM i H x H'->g x σ H' fun σ2 H2=>tb { D with nx:=N,ct:=N,bk:=D.nx } σ2 H2)
def Vt {wi:TI} {g:TG} {tb:TS} {D:Ends} {σ:St} {H:Hp}:BV wi g tb D σ H=wi σ H fun J H1=>Kl J g tb D σ H1:=rfl
def wI {K:ν} {a:Addr} {xs:List V} {g:TG} {tb:TS} {D:Ends} {σ:St} {H:Hp} (Pv:Nat->St->Hp->Prop) (h0:Pv 0 σ H) (hl:∀ i σ H,i<=xs.length->Pv i σ H->aD K H a xs)
  (hs:∀ i x σ H,xs[i]?=some x->Pv i σ H->g x σ H fun σ2 H2=>tb { D with nx:=Pv (i+1),ct:=Pv (i+1),bk:=D.nx } σ2 H2) (hd:∀ σ H,Pv xs.length σ H->D.nx σ H):Kl (lF K a) g tb D σ H:=Wn Pv h0 hl hs hd
def fits {n:Nat} (h:n<=1000):n<=sizeLine:=Ja5 (Im h)
def oq {n:Nat} (h:n<=1000):n < sizeLine:=Im h
def nK (t u:TS):TS:=fun D σ H=>∃ P:St->Hp->Prop,t { D with nx:=P } σ H/\∀ σ' H',P σ' H'->u D σ' H'
def UT {X:Cx} {st:Stmt} {rest:List Stmt} {t u:TS} (h1:PS X st t) (h2:dH X rest u):dH X (st::rest) (nK t u):=by
 intro π s σ H D I h;obtain ⟨P,ht,hu⟩:=h;have h1':PS X st (fun D' σ' H'=>D'={ D with nx:=P }/\t D' σ' H'):=h1.imp fun _ _ _ z=>z.2;have h2':dH X rest (fun D' σ' H'=>P σ' H'/\D'=D):=fun π s σ H D' I z=>by
  obtain ⟨z1,rfl⟩:=z;exact h2 π s σ H D' I (hu σ H z1)
 refine Tz (t:=fun D' σ' H'=>t { D with nx:=P } σ' H'/\D'.rt=D.rt/\D'.bk=D.bk/\D'.ct=D.ct/\∀ σ'' H'',P σ'' H''->D'.nx σ'' H'') (u:=fun D' σ' H'=>P σ' H'/\D'=D) ?_ h2' π s σ H D I ⟨ht,rfl,rfl,rfl,fun σ'' H'' z=>⟨z,rfl⟩⟩;intro π s σ H D' I z;obtain ⟨z1,z2,z3,z4,z5⟩:=z;refine aC (h1 π s σ H { D with nx:=P } I z1) fun f s' hq=>?_;cases f with
 | next=>obtain ⟨σ',H',I',q⟩:=hq; exact ⟨σ',H',I',z5 _ _ q⟩
 | brk=>obtain ⟨σ',H',I',q⟩:=hq; exact ⟨σ',H',I',by rw [z3]; exact q⟩
 | cont=>obtain ⟨σ',H',I',q⟩:=hq; exact ⟨σ',H',I',by rw [z4]; exact q⟩
 | ret u=>obtain ⟨v,σ',H',I',r,q⟩:=hq; exact ⟨v,σ',H',I',r,by rw [z2]; exact q⟩
def ah {t u:TS} {D:Ends} {σ:St} {H:Hp} (h:t { D with nx:=u D } σ H):nK t u D σ H:=⟨u D,h,fun _ _ z=>z⟩
def ck {t u:TS} {D:Ends} {σ:St} {H:Hp} (P:St->Hp->Prop) (h1:t { D with nx:=P } σ H) (h2:∀ σ' H',P σ' H'->u D σ' H'):nK t u D σ H:=⟨P,h1,h2⟩
def qc {H:Hp} {x:V} {T:String} (h:clsName H x=some T):wQ T "str" = nA x:=by
 unfold clsName at h;split at h
 ·cases h; rfl
 ·cases h; rfl
 ·cases h; rfl
 ·cases h; rfl
 ·split at h
  ·cases h; rfl
  ·cases h; rfl
  ·cases h; rfl
  ·cases h
 ·cases h
def Xl (H:Hp) (z:Str):clsName H (.str z)=some "str" := rfl
def Uz (H:Hp) (z:Bool):clsName H (.bl z)=some "bool" := rfl
def TC (H:Hp) (z:Int):clsName H (.int z)=some "int" := rfl
def Yq (H:Hp):clsName H .aw=some "NoneType" := rfl
def qA {H:Hp} {p:Addr} {xs:List V} (h:H p=some (.lst xs)):clsName H (.ref p)=some "list" := by simp only [clsName,h]
def kT {H H':Hp} {x:V} {T:String} (e:ag H H') (h:clsName H x=some T):clsName H' x=some T:=by
 unfold clsName at h ⊢;split at h
 ·exact h
 ·exact h
 ·exact h
 ·exact h
 ·split at h
  ·rename_i q; simp only [e _ _ q]; exact h
  ·rename_i q; simp only [e _ _ q]; exact h
  ·rename_i q; simp only [e _ _ q]; exact h
  ·cases h
 ·cases h
def kY (n:String) (h:["bool","int","str","list","tuple","dict"].contains n=true):n∈["bool","int","str","list","tuple","dict"]:=by simpa using h
def xI (K:ν):R2:=fun x y H Q=>match y with
 | .ref p=>∃ xs,(aD K H p xs\/bE K H p xs)/\dq x=true/\xs.all dq=true/\Q (.bl (fO x xs)) H
 | _=>False
def Rh {X:Cx}:bc X (compareOp .In) (xI X.K):=KC.imp fun x y H Q h=>by
 unfold xI at h;split at h
 ·obtain ⟨xs,h1,h2,h3,h4⟩:=h;exact ⟨_,xs,rfl,h1,h2,h3,h4⟩
 ·exact h.elim
section
variable {X:Cx} {K:ν}
def zD (h:X.K=K):bc X (compareOp .In) (wt K):=h ▸ aap
def wG (h:X.K=K):bc X (compareOp .In) (xI K):=h ▸ Rh
def g9 (h:X.K=K):cT X (.builtin "len") (xp K):=h ▸ aaS
def Dy (h:X.K=K) (hc:X.calm=true):cT X (.builtin "all") (vz K):=h ▸ aco hc
def Rq (h:X.K=K):cT X (.type "list") (vU K):=h ▸ VO
def bD (h:X.K=K):gj X (pU K):=h ▸ qx
def uH (h:X.K=K):jP X (xw K):=h ▸ Ue
def TQ (h:X.K=K):ei X "str.join" (rJoin K):=h ▸ Zr
end
def sT (J:It) (tt:TT) (te:TE) (Q:VK) (H0:Hp):Prop:=∃ W:Nat->List V->Nat->Hp->Prop,(∃ m,W 0 [] m H0)/\∀ i ys m H,W i ys m H ->
 ys.length<=sizeLine/\((J.stop i H/\∀ l,H l=none->Q (.ref l) (upd H l (.lst ys))) \/
  (J.go i H/\ys.length < sizeLine/\∀ y H',J.mM i H y H'->tt [some y] H' fun c H2=>if c=true then te [some y] H2 fun z H3=>∃ m',m' < m/\W (i+1) (ys++[z]) m' H3 else ∃ m',m' < m/\W (i+1) ys m' H2))
def GK {wi:TI} {tt:TT} {te:TE} {σ:St} {H:Hp} {Q:VK}:vJ wi tt te σ H Q=wi σ H fun J H1=>sT J tt te Q H1:=rfl
def S9 {z:Str} {te:TE} {H:Hp} {Q:VK} (f:Nat->V) (hz:z.length<=sizeLine)
  (he:∀ c,c∈z.cps.toList->∀ H1,ag H H1->∀ R:VK,(∀ H2,ag H1 H2->R (f c) H2)->te [some (.str ⟨#[c]⟩)] H1 R)
  (q:∀ H1,ag H H1->∀ l,H1 l=none->Q (.ref l) (upd H1 l (.lst (z.cps.toList.map f)))):sT (v8 z) jg te Q H:=by
 have hl:z.cps.toList.length=z.length:=by simp [Str.length]
 refine ⟨fun i ys m H1=>ag H H1/\ys=(z.cps.toList.take i).map f/\i<=z.length/\m=z.length - i,⟨_,ag.refl H,rfl,Cl _,rfl⟩,?_⟩;rintro i ys m H1 ⟨s1,rfl,hi,rfl⟩;have hlen:((z.cps.toList.take i).map f).length=i:=by rw [pp,Ty,hl]; omega
 refine ⟨by rw [hlen]; omega,?_⟩;by_cases h:i < z.length
 ·refine .inr ⟨h,by rw [hlen]; omega,?_⟩;rintro y H' ⟨rfl,c,hc,rfl⟩;have Fd:z.cps.toList[i]?=some c:=by simpa using hc
  simp only [jg,Ja7];refine he c (Pi Fd) H' s1 _ fun H2 s2=>⟨_,?_,s1.trans s2,?_,h,rfl⟩
  ·omega
  ·rw [List.take_add_one,Fd,Ev]; rfl
 ·have MO:i=z.length:=by omega
  refine .inl ⟨Nat.le_of_eq MO.symm,fun l hl'=>?_⟩;have:=q H1 s1 l hl';rw [P3 (by rw [hl]; omega)];exact this
def uS {K:ν} {a:Addr} {xs:List V} {tt:TT} {te:TE} {H:Hp} {Q:VK} (p:V->Bool) (f:V->V) (DB:aD K H a xs) (hz:xs.length<=sizeLine)
  (ht:∀ x,x∈xs->∀ H1,ag H H1->∀ R:Bool->Hp->Prop,(∀ H2,ag H1 H2->R (p x) H2)->tt [some x] H1 R)
  (he:∀ x,x∈xs->p x=true->∀ H1,ag H H1->∀ R:VK,(∀ H2,ag H1 H2->R (f x) H2)->te [some x] H1 R)
  (q:∀ H1,ag H H1->∀ l,H1 l=none->Q (.ref l) (upd H1 l (.lst ((xs.filter p).map f)))):sT (lF K a) tt te Q H:=by
 refine ⟨fun i ys m H1=>ag H H1/\ys=((xs.take i).filter p).map f/\i<=xs.length/\m=xs.length - i,⟨_,ag.refl H,rfl,Cl _,rfl⟩,?_⟩;rintro i ys m H1 ⟨s1,rfl,hi,rfl⟩;have hlen:(((xs.take i).filter p).map f).length<=i:=by
  rw [pp];refine u8 (_u _ _) ?_;rw [Ty]; omega
 refine ⟨by omega,?_⟩;by_cases h:i < xs.length
 ·have hx:xs[i]?=some xs[i]:=ss h;refine .inr ⟨⟨xs,xs[i],s1.seq DB,hx⟩,by omega,?_⟩;rintro y H' ⟨rfl,hy⟩;have yf:xs[i]?=some y:=hy xs (s1.seq DB);have hm:y∈xs:=Pi yf;have e1:(xs.take (i+1)).filter p=(xs.take i).filter p++(if p y=true then [y] else []):=by
   rw [List.take_add_one,yf,Jac];by_cases hp:p y=true
   ·simp [hp]
   ·simp [hp]
  refine ht y hm H' s1 _ fun H2 s2=>?_;by_cases hp:p y=true
  ·rw [AC hp];refine he y hm hp H2 (s1.trans s2) _ fun H3 s3=>⟨_,?_,(s1.trans s2).trans s3,?_,h,rfl⟩
   ·omega
   ·rw [e1,AC hp,Ev]; rfl
  ·rw [xL hp];refine ⟨_,?_,s1.trans s2,?_,h,rfl⟩
   ·omega
   ·rw [e1,xL hp,_5]
 ·have MO:i=xs.length:=by omega
  refine .inl ⟨⟨xs,s1.seq DB,by omega⟩,fun l hl'=>?_⟩;have:=q H1 s1 l hl';rw [P3 (by omega)];exact this
structure QE (X:Cx) (e:Expr) (t:TE):Prop where
 h:PE X e t
structure QA (X:Cx) (e:List Expr) (t:TA):Prop where
 h:PA X e t
structure QT (X:Cx) (e:Expr) (t:TT):Prop where
 h:PT X e t
structure QW (X:Cx) (e:Expr) (t:TT):Prop where
 h:PW X e t
structure QS (X:Cx) (e:Stmt) (t:TS):Prop where
 h:PS X e t
structure QB (X:Cx) (e:List Stmt) (t:TS):Prop where
 h:dH X e t
structure QI (X:Cx) (tg it:Expr) (t:TI):Prop where
 h:PI X tg it t
structure QG (X:Cx) (e:Expr) (t:TG):Prop where
 h:PG X e t
structure wk (X:Cx) (e:List Expr) (t:jD):Prop where
 h:sQ X e t
structure qX (X:Cx) (e:List Expr) (t:TT):Prop where
 h:pM X e t
structure QO (X:Cx) (e:Option Expr) (t:TO):Prop where
 h:PO X e t
structure QP (X:Cx) (pos:Pos) (ks:List (Option Expr)) (vs:List Expr) (t:List (TE×TE)):Prop where
 h:Sh X pos ks vs t
namespace Dv
section
variable {X:Cx} {a b c:Expr} {ta tb tc:TE} {pos:Pos} {rest:List Expr} {tA tB':TT}
def v (i:Nat) {x:Str} {pos:Pos} (hN:X.N[i]?=some x:=by rfl) (hv:mC X.env.scope x:=by first | exact Or.inl rfl | exact Or.inr (Or.inl rfl) | exact Or.inr (Or.inr rfl)) (hd:(x == ("__debug__" : Str))=false:=by decide)
  (bQ:(x == ("__classdict__" : Str))=false:=by decide):QE X (.Name x pos) (iY i):=⟨qv i hN hv hd bQ⟩
def int {i j pos}:QE X (.Constant (.int i) j pos) (tC (.int i)):=⟨aa9⟩
def bl {b j pos}:QE X (.Constant (.bool b) j pos) (tC (.bl b)):=⟨Xd⟩
def aw {j pos}:QE X (.Constant .none j pos) (tC .aw):=⟨Xs⟩
def str {x j pos}:QE X (.Constant (.str x) j pos) (tC (.str x)):=⟨O5⟩
def glob {x:Str} (v:V) {u:Value} {pos:Pos} (hm:X.mg x=some u) (r:RelV v u) (hg:Gl X x:=by rfl) (hd:(x == ("__debug__" : Str))=false:=by decide):QE X (.Name x pos) (tC v):=⟨Zv hg hm r hd⟩
def iB {x:Str} (v:V) {u:Value} {pos:Pos} (hm:X.mg x=none) (hv:bootBuiltins x=some u) (r:RelV v u) (hg:Gl X x:=by rfl) (hn:x ≠ "__name__" := by decide) (hd:(x == ("__debug__" : Str))=false:=by decide):QE X (.Name x pos) (tC v):=⟨R8 hg hm hv r hn hd⟩
def op {o:Operator} {r:R2} (ho:bc X (binaryOp o) r) (ha:QE X a ta) (hb:QE X b tb):QE X (.BinOp a o b pos) (lh r ta tb):=⟨U3 ho ha.h hb.h⟩
def un {o:UnaryOp} {r:V->Hp->VK->Prop} (ho:uJ X (unaryOp o) r) (ha:QE X a ta):QE X (.UnaryOp o a pos) (zy r ta):=⟨Q6 ho ha.h⟩
def cmp {o:CmpOp} {r:R2} (ho:bc X (compareOp o) r) (ha:QE X a ta) (hb:QE X b tb) (hm:behindInMarks o b=false:=by first | exact xv _ (by decide) (by decide) | rfl):QE X (.Compare a [o] [b] pos) (lh r ta tb):=⟨YW ho ha.h hb.h hm⟩
def nH (ha:QE X a ta) (hb:QE X (.BoolOp .And (b::rest) pos) tb):QE X (.BoolOp .And (a::b::rest) pos) (zB ta tb):=⟨ZS ha.h hb.h⟩
def RF (ha:QE X a ta) (hb:QE X (.BoolOp .Or (b::rest) pos) tb):QE X (.BoolOp .Or (a::b::rest) pos) (za ta tb):=⟨aau ha.h hb.h⟩
def one {o} {t:TE} (h:QE X a t):QE X (.BoolOp o [a] pos) t:=⟨Rx h.h⟩
def YI (ha:QE X a ta):QE X (.UnaryOp .Not a pos) (yZ ta):=⟨U2 ha.h⟩
def ae:QA X [] jE:=⟨Rp⟩
def aa {e:Expr} {es:List Expr} {te:TE} {t:TA} (ha:QE X e te) (hr:QA X es t) (hs:noStar e=true:=by rfl):QA X (e::es) (oi te t):=⟨Pu ha.h hr.h hs⟩
def call {CX:dX} {k:Nat} {f:Addr} {fd:FuncData} {ps:List Str} {sp:Sp} {bg:List V} {ds:List Value} {E:XK} {x:Str} {p pos:Pos} {e:Expr} {es:List Expr} {t:TA}
  (F:aA X.prog X.w X.K X.mg X.base CX k f fd ps sp) (hr:bf k X.A) (hm:X.mg x=some (.ref f)) (hk:PySem.W.keepIn X.K (.ref f)=true) (hb:Binds X.K fd ps ds) (hd:Vals bg ds) (hx:Passes CX X E)
  (ha:QA X (e::es) t) (hg:Gl X x:=by rfl) (hs:(e::es).all noStar=true:=by rfl) (bF:(x == ("__debug__" : Str))=false:=by decide):QE X (.Call (.Name x p) (e::es) [] pos) (wK sp bg E t):=⟨Yt F hr hg hm hk hb hd hx ha.h hs bF⟩
def bL {x:Str} {p pos:Pos} {e:Expr} {es:List Expr} {t:TA} {id:String} {r:List V->Hp->VK->Prop} (hc:cT X (.builtin id) r) (hm:X.mg x=none) (hv:bootBuiltins x=some (.builtin id)) (ha:QA X (e::es) t)
  (hg:Gl X x:=by rfl) (hs:(e::es).all noStar=true:=by rfl) (hn:x ≠ "__name__" := by decide) (bF:(x == ("__debug__" : Str))=false:=by decide):QE X (.Call (.Name x p) (e::es) [] pos) (nI r t):=⟨abd hc hg hm hv ha.h hs hn bF⟩
def wV {x:Str} {p pos:Pos} {e:Expr} {es:List Expr} {t:TA} {T:String} {r:List V->Hp->VK->Prop} (hc:cT X (.type T) r) (hm:X.mg x=none) (hv:bootBuiltins x=some (.type T)) (ha:QA X (e::es) t)
  (hg:Gl X x:=by rfl) (hs:(e::es).all noStar=true:=by rfl) (hn:x ≠ "__name__" := by decide) (bF:(x == ("__debug__" : Str))=false:=by decide):QE X (.Call (.Name x p) (e::es) [] pos) (nI r t):=⟨Yg hc hg hm hv ha.h hs hn bF⟩
section
variable {name:Str} {id:String} {r:V->List V->Hp->VK->Prop} {o e:Expr} {es:List Expr} {to:TE} {t:TA} {apos bt:Pos}
def kF (slot:Slot "str" name id) (cy:typeOf (.builtin id)=pure (.type "method_descriptor")) (hm:ei X id r) (ho:QE X o to) (ha:QA X (e::es) t)
  (hs:(e::es).all noStar=true:=by rfl) (aY:decide ((e::es).length+([]:List Keyword).length+(if ([]:List Keyword).isEmpty then 0 else 1) < 30)=true:=by rfl)
  (jn:attributeBase o name X.env (eval o X.env)=eval o X.env:=by rfl) (jw:(apos.endLine == bt.line)=true:=by rfl):QE X (.Call (.Attribute o name apos) (e::es) [] bt) (CV r to t):=⟨VD slot cy hm ho.h ha.h hs aY jn jw⟩
def iQ (slot:Slot "list" name id) (cy:typeOf (.builtin id)=pure (.type "method_descriptor")) (hm:ei X id r) (ho:QE X o to) (ha:QA X (e::es) t)
  (hs:(e::es).all noStar=true:=by rfl) (aY:decide ((e::es).length+([]:List Keyword).length+(if ([]:List Keyword).isEmpty then 0 else 1) < 30)=true:=by rfl)
  (jn:attributeBase o name X.env (eval o X.env)=eval o X.env:=by rfl) (jw:(apos.endLine == bt.line)=true:=by rfl):QE X (.Call (.Attribute o name apos) (e::es) [] bt) (y8 r to t):=⟨Pb slot cy hm ho.h ha.h hs aY jn jw⟩
end
def uO:QO X none Bv:=⟨O8⟩
def tO (h:QE X a ta):QO X (some a) (zJ ta):=⟨Rc h.h⟩
def slice {r:V->Option Int->Option Int->Hp->VK->Prop} {lo hi:Option Expr} {tl th:TO} {p2:Pos} (hr:jP X r) (he:QE X a ta) (hl:QO X lo tl) (hu:QO X hi th):QE X (.Subscript a (.Slice lo hi none p2) pos) (zN r ta tl th):=⟨OU hr he.h hl.h hu.h⟩
def ix {r:R2} (hr:gj X r) (ha:QE X a ta) (hb:QE X b tb) (hs:IL b:=by intro _ _; rfl):QE X (.Subscript a b pos) (lh r ta tb):=⟨abG hr ha.h hb.h hs⟩
def lst {es:List Expr} {t:TA} (h:QA X es t):QE X (.List es pos) (Ca t):=⟨WK h.h⟩
def tup {es:List Expr} {x1} {t:TA} (h:QA X es t):QE X (.Tuple es x1 pos) (xJ t):=⟨Vq h.h⟩
def nM:QE X (.Dict [] [] pos) zh:=⟨Q1⟩
def bB {o:CmpOp} {r:R2} (ho:bc X (compareOp o) r) (ha:QE X a ta) (hb:QE X b tb) (hm:behindInMarks o b=false:=by first | exact xv _ (by decide) (by decide) | rfl):QT X (.Compare a [o] [b] pos) (mU (lh r ta tb)):=⟨UG ho ha.h hb.h hm⟩
def wx {o o':CmpOp} {f g:Int->Int->Bool} (ho:bc X (compareOp o) (jZ f)) (ho':bc X (compareOp o') (jZ g)) (ha:QE X a ta) (hb:QE X b tb) (hc:QE X c tc)
  (hm:lastMarks [o,o'] [b,c]=false:=by with_unfolding_all rfl):QT X (.Compare a [o,o'] [b,c] pos) (yQ f g ta tb tc):=⟨Y2 ho ho' ha.h hb.h hc.h hm⟩
def bO {t:TE} (h:QE X a t) (he:∀ whole,isTrue a X.env whole=(do let v <- whole; standAt a.pos; holding [v] (truthy v)):=by intro _; rfl):QT X a (mU t):=⟨Sn h.h he⟩
def dW (ha:QT X a tA):QT X (.UnaryOp .Not a pos) (AO tA):=⟨Vs ha.h⟩
def fF (h:QW X a tA):QT X a tA:=⟨h.h.pt⟩
def sr (ha:QT X a tA):QW X (.BoolOp .And [a] pos) tA:=⟨R4 ha.h⟩
def iF (ha:QT X a tA):QW X (.BoolOp .Or [a] pos) tA:=⟨acB ha.h⟩
def w_and (ha:QT X a tA) (hb:QW X (.BoolOp .And (b::rest) pos) tB'):QW X (.BoolOp .And (a::b::rest) pos) (Cp tA tB'):=⟨abO ha.h hb.h⟩
def w_or (ha:QT X a tA) (hb:QW X (.BoolOp .Or (b::rest) pos) tB'):QW X (.BoolOp .Or (a::b::rest) pos) (zj tA tB'):=⟨ZN ha.h hb.h⟩
variable {st:Stmt} {NA:List Stmt} {t u:TS} {tg:Expr} {g:TG}
def gq (i:Nat) {x:Str} (hN:X.N.Nodup) (hi:X.N[i]?=some x:=by rfl) (hx:Loc X.env.scope x:=by first | exact Or.inl rfl | exact Or.inr rfl) (hf:X.fn x=true\/X.env.scope.names.lookup x=some .local:=by first | exact .inl rfl | exact .inr rfl):QG X (.Name x pos) (fE i):=⟨abf hN hi hx hf⟩
def Jh {o i:Expr} {to ti:TE} {s:ux} (ho:QE X o to) (hi:QE X i ti) (hs:vK X s) (ha:∀ v,assign (.Subscript o i pos) X.env v=(do
   let ov <- holding [v] (eval o X.env)
   let iv <- holding [v,ov] (eval i X.env)
   standAt pos
   holding [v,ov,iv] (setItem ov iv v)
   release [v,ov,iv] []):=by intro _; rfl):QG X (.Subscript o i pos) (z7 to ti s):=⟨Oj ho.h hi.h hs ha⟩
def Yy:wk X [] zu:=⟨Tn⟩
def Kv {e:Expr} {es:List Expr} {t:TG} {u:jD} (h1:QG X e t) (h2:wk X es u) (hs:(assignEach (e::es) X.env).map (·.2)=assign e X.env::(assignEach es X.env).map (·.2):=by rfl):wk X (e::es) (Bt t u):=⟨ZA h1.h h2.h hs⟩
def acF {K:ν} {es:List Expr} {k:Nat} {t:jD} {n:Nat} (hK:X.K=K) (hc:X.calm=true) (h:wk X es t) (hn:(assignEach es X.env).length=n:=by rfl) (aM:(assignEach es X.env).findIdx? (·.1)=none:=by rfl):QG X (.Tuple es k pos) (C1 K n t):=hK ▸ ⟨SW hc h.h hn aM⟩
def aP (i:Nat) {x:Str} {e:Expr} {te:TE} {pos':Pos} (hN:X.N.Nodup) (he:QE X e te) (hi:X.N[i]?=some x:=by rfl) (hx:Loc X.env.scope x:=by first | exact Or.inl rfl | exact Or.inr rfl) (hs:swapsWith e (some (.Name x pos')) pos.line X.env=pure false:=by rfl)
  (hf:X.fn x=true\/X.env.scope.names.lookup x=some .local:=by first | exact .inl rfl | exact .inr rfl):QS X (.Assign [.Name x pos'] e pos) (mL te (fE i)):=⟨Sl hN hi hx he.h hs hf⟩
def HH {e:Expr} {te:TE} (he:QE X e te) (hg:QG X tg g) (hs:swapsWithSole [tg] e pos.line X.env=pure false:=by rfl) (hw:swappedStores [tg] e X.env=pure none:=by rfl) (h1:(assignEach [tg] X.env).map (·.2)=[assign tg X.env]:=by rfl) :
  QS X (.Assign [tg] e pos) (mL te g):=⟨UK he.h hg.h hs hw h1⟩
def aK (he:QE X a ta):QS X (.Return (some a) pos) (Dg ta):=⟨S3 he.h⟩
def HV:QS X (.Return none pos) Ac:=⟨Pr⟩
def aW (he:QE X a ta) (hs:swapsWith a none pos.line X.env=pure false:=by rfl):QS X (.Expr a pos) (yV ta):=⟨aaa he.h hs⟩
def aX {A B:List Stmt} (hc:QT X a tA) (ha:QB X A t) (hb:QB X B u):QS X (.If a A B pos) (yW tA t u):=⟨Yj hc.h ha.h hb.h⟩
def xu {iter:Expr} {body:List Stmt} {wi:TI} {tb:TS} (hp:PassesOwn (model X.prog X.w) X.A X.env X.xe) (hc:X.calm=true) (hi:QI X tg iter wi) (hg:QG X tg g) (hb:QB X body tb) (hs:∀ x,foldedSetIterable iter X.env x=pure x:=by intro _; rfl) :
  QS X (.For tg iter body [] pos) (BV wi g tb):=⟨Wj hp hc hi.h hg.h hb.h hs⟩
def nil:QB X [] zE:=⟨N9⟩
def ai (h1:QS X st t):QB X [st] t:=⟨aaT h1.h⟩
def cut (h1:QS X st t) (h2:QB X NA u):QB X (st::NA) (nK t u):=⟨UT h1.h h2.h⟩
def jV {K:ν} {l:Expr} {tl:TE} (h:X.K=K) (hl:QE X l tl):QI X tg l (AL K tl):=h ▸ ⟨aag hl.h⟩
def aca {l:Expr} {tl:TE} (hl:QE X l tl):QI X tg l (B3 tl):=⟨Tj hl.h⟩
def zI {ta:TA} {p:Pos} (hm:X.mg "range" = none) (ha:QA X [a] ta) (hg:Gl X "range" := by rfl) (hs:noStar a=true:=by rfl):QI X tg (.Call (.Name "range" p) [a] [] pos) (Dx ta):=⟨Rk hg hm ha.h (fM hs)⟩
def qI:qX X [] jg:=⟨Wk⟩
def wj (h:QT X c tA):qX X [c] tA:=⟨abT h.h⟩
end
end Dv
end L2
namespace Tx
open PySem PySem.Builtin PySem.StrLaws
def aao {c a:Nat} (h:a=c) (r:List Nat):cut c (a::r)=[]::cut c r:=if_pos h
def Ua {c a:Nat} {r:List Nat} {x:List Nat} {y:List (List Nat)} (h:¬ a=c) (e:cut c r=x::y):cut c (a::r)=(a::x)::y:=by
 show (if a=c then _ else _)=_;rw [if_neg h,e]
def words (c:Nat) (t:List Nat):List (List Nat):=(cut c t).filter fun w=>decide (w≠[])
def sW (c:Nat):∀ t:List Nat,(cut c t).length<=t.length+1
 | []=>Nat.le_refl _
 | a::r=>by
  have ih:=sW c r;unfold cut;split
  ·simp only [List.length_cons]; omega
  ·split
   ·simp
   ·rename_i h t' e;rw [e] at ih;simp only [List.length_cons] at ih ⊢;omega
def Pk (t:List Nat) (c:Nat):((cut c t).map S).filter (fun z=>decide (z≠S []))=(words c t).map S:=by
 unfold words;rw [List.filter_map]
 congr 1
 refine List.filter_congr fun w _=>?_;show decide (S w≠S [])=decide (w≠[]);by_cases h:w=[]
 ·simp [h]
 ·have:S w≠S []:=fun e=>h (LF e);simp [h,this]
def XM (x:List Nat) (c:Nat):Txt.startswith (S x) (S [c])=decide (x.head?=some c):=by
 unfold Txt.startswith;rw [cC,cC];cases x with
 | nil=>simp
 | cons a r =>
  rw [subAt_one (a::r) c 0 (by simp)];simp
def WS (x:List Nat) (c:Nat):Txt.endswith (S x) (S [c])=decide (x.getLast?=some c):=by
 unfold Txt.endswith;rw [cC,cC];cases hx:x with
 | nil=>simp
 | cons a r =>
  have hl:(a::r).length - [c].length < (a::r).length:=by simp
  rw [subAt_one (a::r) c _ hl];have e:(a::r)[(a::r).length - [c].length]?=(a::r).getLast?:=by
   rw [List.getLast?_eq_getElem?]; rfl
  rw [e];have:decide (0+[c].length<=(a::r).length)=true:=decide_eq_true (by simp);rw [this,Bool.true_and]
end Tx
namespace L2
open PySem PySem.Spec PyProof.Rows
def Hb {A:Around} {s:Shared} {l1 l2:List (Str×Tok)} (j:Nat) (h1:j < (strValues l1).toArray.size) (h2:j < (strValues l2).toArray.size) :
  SeqAt.EqAt A s (strValues l1).toArray[j] (strValues l2).toArray[j] (decide ((l1.map (·.1))[j]?=(l2.map (·.1))[j]?)):=by
 have g1:j < l1.length:=by simpa [strValues] using h1
 have g2:j < l2.length:=by simpa [strValues] using h2
 have e1:(strValues l1).toArray[j]=Value.str l1[j].1 l1[j].2:=by simp [strValues]
 have e2:(strValues l2).toArray[j]=Value.str l2[j].1 l2[j].2:=by simp [strValues]
 rw [e1,e2];have e:decide ((l1.map (·.1))[j]?=(l2.map (·.1))[j]?)=(l1[j].1 == l2[j].1):=by
  rw [Da,Da,ss g1,ss g2];by_cases q:l1[j].1=l2[j].1
  ·simp [q]
  ·simp [q]
 rw [e];exact SeqAt.EqAt.str_str _ _ _ _
def all_eq {α:Type} [DecidableEq α] {xs ys:List α} (h:xs.length=ys.length):(List.range xs.length).all (fun j=>decide (xs[j]?=ys[j]?))=decide (xs=ys):=by
 rw [UV,At,Os];constructor
 ·intro q;apply List.ext_getElem?;intro i;by_cases hi:i < xs.length
  ·exact LE (q i (Ja9.mpr hi))
  ·rw [_U (by omega),_U (by omega)]
 ·rintro rfl j _;simp
section
variable {X:Cx}
def Fw {π:List (Addr×Obj)} {σ:St} {H:Hp} {s:Shared} {A:Around} {a b:Addr} {ts us:List Str} (I:Inv X π σ H s) (ha:H a=some (.lst (ts.map V.str))) (hb:H b=some (.lst (us.map V.str))) (hu:A.units < cLine) :
  SeqAt.RcAt A s (.ref a) (.ref b) (decide (ts=us))/\SeqAt.RcNeAt A s (.ref a) (.ref b) (!decide (ts=us)):=by
 obtain ⟨i1,r1,p1,_⟩:=I.list (aD.of ha);obtain ⟨i2,r2,p2,_⟩:=I.list (aD.of hb);obtain ⟨l1,rfl,e1⟩:=wF r1;obtain ⟨l2,rfl,e2⟩:=wF r2;have n1:(strValues l1).toArray.size=ts.length:=by rw [<- e1]; simp [strValues]
 have n2:(strValues l2).toArray.size=us.length:=by rw [<- e2]; simp [strValues]
 by_cases h:ts.length=us.length
 ·have hsz:(strValues l1).toArray.size=(strValues l2).toArray.size:=by rw [n1,n2,h]
  have k1:=SeqAt.RcAt.lists (A:=A) p1.isList p2.isList hsz hu (fun j g1 g2=>Hb j g1 g2);have k2:=Jad (A:=A) p1.isList p2.isList hsz hu (fun j g1 g2=>Hb j g1 g2);rw [n1,e1,e2,all_eq h] at k1 k2;exact ⟨k1,k2⟩
 ·have hsz:((strValues l1).toArray.size != (strValues l2).toArray.size)=true:=by rw [n1,n2]; simpa using h
  have e:decide (ts=us)=false:=pc fun z=>h (by rw [z]);rw [e];exact ⟨SeqAt.RcAt.lists_lengths p1.isList p2.isList hsz hu,SeqAt.RcNeAt.lists_lengths p1.isList p2.isList hsz hu⟩
def pL (neg:Bool):R2:=fun x y H Q=>match x,y with
 | .ref a,.ref b=>∃ ts us:List Str,H a=some (.lst (ts.map V.str))/\H b=some (.lst (us.map V.str))/\Q (.bl (neg ^^ decide (ts=us))) H
 | _,_=>False
def YS (hu:X.A.units < cLine):bc X (compareOp .Eq) (pL false):=by
 intro π s σ H x y v u Q I rx ry h;unfold pL at h;split at h
 ·obtain ⟨ts,us,ha,hb,q⟩:=h;cases rx; cases ry;simp only [Bool.false_bne] at q;exact (Fw I ha hb hu).1 _ _ _ _ ⟨.bl _,H,I,rfl,q⟩
 ·exact h.elim
def Q9 (hu:X.A.units < cLine):bc X (compareOp .NotEq) (pL true):=by
 intro π s σ H x y v u Q I rx ry h;unfold pL at h;split at h
 ·obtain ⟨ts,us,ha,hb,q⟩:=h;cases rx; cases ry;simp only [Bool.true_bne] at q;exact (Fw I ha hb hu).2 _ _ _ _ ⟨.bl _,H,I,rfl,q⟩
 ·exact h.elim
def Dv.i0 {st:Stmt}:QS X st BN:=⟨aa1⟩
end
def Ag:V->Hp->VK->Prop:=fun x H Q=>match x with
 | .int i=>Q (.int (-i)) H
 | _=>False
def mR {X:Cx}:uJ X (unaryOp .USub) Ag:=fun π s σ H x v Q I rx h=>ZU π s σ H x v Q I rx (by
 unfold Ag at h;split at h
 ·exact ⟨_,rfl,h⟩
 ·exact h.elim)
def RN (r:List V) (x:V):gC (r++[x]) Option.none (some (-1))=r:=by
 unfold gC;have e1:HT.dQ (r++[x]).length (r++[x]).length (some (-1))=r.length:=by
  unfold HT.dQ;simp;omega
 rw [HT.y9,e1];simp
section
variable {X:Cx} {K:ν}
def Pl (K:ν):List V->Hp->VK->Prop:=fun xs H Q=>match xs with
 | [.ref p]=>∃ ys,aD K H p ys/\Q (.int ys.length) H
 | _=>False
def QN (K:ν):R2:=fun x y H Q=>match x,y with
 | .ref p,.int i=>∃ xs v,aD K H p xs/\dI xs i=some v/\Q v H
 | _,_=>False
end
end L2
namespace L2
open PySem
open Sem (wp)
def dA (e:Addr) (c:Value) (od:Option Addr) (h:Heap):Prop:=∃ o,h.get? e=some o/\o.cls=c/\o.dict=od/\∃ vs,o.data=.fields vs
structure Kp (e:Addr) (c:Value) (od:Option Addr) {α:Type} (t:Sem α):Prop where
 out:∀ (M:Model) (Γ:Ctx) (P:α->Pos->Shared->Prop) (Ee:Value->Pos->Shared->Prop) (p:Pos) (s:Shared),dA e c od s.heap->wp M Γ t P Ee p s->wp M Γ t (fun a p' s'=>P a p' s'/\dA e c od s'.heap) Ee p s
section
variable {e:Addr} {c:Value} {od:Option Addr} {α β:Type}
def Kp.pure (a:α):Kp e c od (Pure.pure a:Sem α):=⟨fun _ _ _ _ _ _ hd h=>⟨h,hd⟩⟩
def Kp.unsupported (w:String):Kp e c od (PySem.unsupported w:Sem α):=⟨fun _ _ _ _ _ _ _ h=>h⟩
def Kp.bind {m:Sem α} {f:α->Sem β} (hm:Kp e c od m) (hf:∀ a,Kp e c od (f a)):Kp e c od (m >>= f):=⟨fun M Γ P Ee p s hd h=>by
 rw [Sem.wp_bind'] at h ⊢;exact Sem.wp_mono M Γ m (fun a p' s' h'=>(hf a).out M Γ P Ee p' s' h'.2 h'.1) (fun _ _ _ x=>x) p s (hm.out M Γ _ Ee p s hd h)⟩
def Kp.ite {q:Prop} [Decidable q] {t u:Sem α} (ht:Kp e c od t) (hu:Kp e c od u):Kp e c od (if q then t else u):=by split <;> assumption
def Kp.load (a:Addr):Kp e c od (PySem.load a):=⟨fun _ _ _ _ _ _ hd h=>let ⟨o,ho,z⟩:=h; ⟨o,ho,z,hd⟩⟩
def Kp.stack:Kp e c od PySem.stack:=⟨fun M Γ P Ee p s hd h=>by
 unfold PySem.stack at h ⊢;rw [Sem.wp_stack] at h ⊢;exact ⟨h,hd⟩⟩
def dA.push {h:Heap} (x:dA e c od h) (o:Obj):dA e c od (h.push o):=let ⟨u,hu,r⟩:=x; ⟨u,lv _ hu,r⟩
def dA.update {h:Heap} (x:dA e c od h) (a:Addr) (f:Obj->Obj) (hf:∀ o,(f o).cls=o.cls/\(f o).dict=o.dict/\∀ vs,o.data=.fields vs->∃ ws,(f o).data=.fields ws):dA e c od (h.update a f):=by
 obtain ⟨u,hu,h1,h2,vs,h3⟩:=x;by_cases q:a=e
 ·subst q;obtain ⟨ws,h4⟩:=(hf u).2.2 vs h3;exact ⟨f u,Rs f hu (Obj.isFreed_of_fields h4),(hf u).1.trans h1,(hf u).2.1.trans h2,ws,h4⟩
 ·exact ⟨u,(GT _ _ q).trans hu,h1,h2,vs,h3⟩
def Kp.update (a:Addr) (f:Obj->Obj) (hf:∀ o,(f o).cls=o.cls/\(f o).dict=o.dict/\∀ vs,o.data=.fields vs->∃ ws,(f o).data=.fields ws):Kp e c od (PySem.update a f) :=
 ⟨fun _ _ _ _ _ _ hd h=>⟨h.1,h.2,hd.update a f hf⟩⟩
def T5 (g:Array Value->Array Value) (o:Obj):(Obj.mapFields g o).cls=o.cls/\(Obj.mapFields g o).dict=o.dict/\∀ vs,o.data=.fields vs->∃ ws,(Obj.mapFields g o).data=.fields ws:=by
 obtain ⟨c1,d1,dt,sl⟩:=o;refine ⟨Obj.cls_mapFields _ _,?_,fun vs h=>⟨_,Jae h g⟩⟩;cases dt <;> rfl
def Kp.alloc (o:Obj):Kp e c od (PySem.alloc o):=⟨fun _ _ _ _ _ _ hd h=>⟨h,hd.push o⟩⟩
def Kp.field (v:Value) (i:Nat):Kp e c od (PySem.field v i):=⟨fun _ Γ _ _ _ _ hd h=>by
 rw [wp_field_iff] at h ⊢;obtain ⟨a,o,vs,x,h1,h2,h3,h4,h5⟩:=h;exact ⟨a,o,vs,x,h1,h2,h3,h4,h5,hd⟩⟩
def Kp.setField (v:Value) (i:Nat) (x:Value):Kp e c od (PySem.setField v i x):=⟨fun _ Γ _ _ _ _ hd h=>by
 rw [wp_setField_iff] at h ⊢;obtain ⟨a,o,vs,h1,h2,h3,h4,h5⟩:=h;exact ⟨a,o,vs,h1,h2,h3,h4,h5,hd.update a _ (T5 _)⟩⟩
local macro_rules | `(tactic| walk_at "kps")=>`(tactic| repeat' with_reducible first | assumption | exact Kp.pure _ | exact Kp.unsupported _ | exact Kp.field _ _ | exact Kp.setField _ _ _ | exact Kp.load _ | exact Kp.stack | exact Kp.alloc _ | apply Kp.ite | apply Kp.bind | intro _ | split)
def Kp.newFields (ty:String) (vs:List Value):Kp e c od (PySem.newFields ty vs):=by
 unfold PySem.newFields newObj newObjAsIs;walk_at "kps"
def Kp.frameEnvs:Kp e c od PySem.frameEnvs:=by
 unfold PySem.frameEnvs;walk_at "kps"
def Kp.isImport (env:Env) (outer:List Env):Kp e c od (behindIsImport env outer):=by
 unfold behindIsImport;walk_at "kps"
def Kp.caller:Kp e c od underTheClaimsCaller:=by
 unfold underTheClaimsCaller;walk_at "kps"
def Kp.keptBack (env:Env) (i:Bool) (l:List Env):Kp e c od (PySem.keptBack env i l):=by
 have:=Kp.caller (e:=e) (c:=c) (od:=od);cases l <;> unfold PySem.keptBack <;> walk_at "kps"
def Kp.ready:∀ l:List Env,Kp e c od (readyFrames l)
 | []=>Kp.pure _
 | env::outer=>by
  have ih:=Kp.ready outer;have h1:=Kp.isImport (e:=e) (c:=c) (od:=od) env outer;have h2:=fun i=>Kp.keptBack (e:=e) (c:=c) (od:=od) env i outer;unfold readyFrames;walk_at "kps"
  all_goals first | exact h2 _ | exact Kp.update _ _ (fun o=>⟨rfl,rfl,fun vs h=>⟨vs,h⟩⟩) | skip
def Kp.frameObject (l:List Env):Kp e c od (PySem.frameObject l):=by
 cases l with
 | nil=>exact Kp.pure _
 | cons env outer =>
  have:=Kp.ready (e:=e) (c:=c) (od:=od) (env::outer);unfold PySem.frameObject;walk_at "kps"
def Kp.frameOf (env:Env):Kp e c od (PySem.frameOf env):=by
 have h1:=Kp.frameEnvs (e:=e) (c:=c) (od:=od);have h2:=Kp.frameObject (e:=e) (c:=c) (od:=od);unfold PySem.frameOf;walk_at "kps"
 all_goals first | exact h2 _ | skip
def Kp.place (f:Addr) (b:Bool):Kp e c od (entryPlaceOf f b):=by
 unfold entryPlaceOf;walk_at "kps"
def Kp.setFlight (v:Value) (fr:Option Addr):Kp e c od (PySem.setFlight v fr):=by
 unfold PySem.setFlight;walk_at "kps"
def Kp.noteFrame (v:Value) (env:Env):Kp e c od (PySem.noteFrame v env):=by
 have h1:=Kp.frameOf (e:=e) (c:=c) (od:=od) env;have h2:=fun f b=>Kp.place (e:=e) (c:=c) (od:=od) f b;unfold PySem.noteFrame EntryCells.newEntry;walk_at "kps"
 all_goals first | exact h2 _ _ | exact Kp.newFields _ _ | skip
def Kp.leaving (env:Env) (v:Value):Kp e c od (PySem.leaving env v):=by
 have h1:=Kp.noteFrame (e:=e) (c:=c) (od:=od) v env;have h2:=Kp.setFlight (e:=e) (c:=c) (od:=od) v none;unfold PySem.leaving;walk_at "kps"
def Kp.any {t:Sem α} (k:Kp e c od t) {M:Model} {A:Around} {Q:α->Shared->Prop} {E:Value->Shared->Prop} {s:Shared} (hd:dA e c od s.heap) (h:wpAny M A t Q E s):wpAny M A t (fun a s'=>Q a s'/\dA e c od s'.heap) E s :=
 fun Γ p hΓ=>k.out M Γ _ _ p s hd (h Γ p hΓ)
end
end L2
namespace Tx
open PySem PySem.Builtin PySem.StrLaws
def pF (l:List Nat) (n:Nat) (hl:l.length<=2) (hn:n<=2100):MulOk (S l) (n:Int):=by
 refine ⟨?_,fun h1 h2=>?_,fun h1 h2=>?_⟩
 ·rw [decide_eq_false (by omega),decide_eq_false (by omega)]; rfl
 ·rw [cC];have h0:(0:Int) < n:=by omega
  have:(2:Int)<=(2 ^ 63 - 1) / (n:Int):=by
   rw [Int.le_ediv_iff_mul_le h0];omega
  omega
 ·unfold PySem.Builtin.Str.tooLong;rw [cC,Int.toNat_natCast];refine decide_eq_false ?_;have:(sizeLine:Nat)=16777216:=sizeLine_eq;have h3:l.length * n<=2 * 2100:=Nat.mul_le_mul hl hn;omega
end Tx
namespace Tx
def vZ (c:Nat):∀ (t:List Nat),∀ w∈cut c t,w.length<=t.length
 | [],w,h=>by
  have:w=[]:=by simpa [cut] using h
  rw [this];exact Nat.le_refl _
 | x::r,w,h=>by
  by_cases hx:x=c
  ·rw [aao hx] at h;rcases List.mem_cons.mp h with e | e
   ·rw [e]; exact Nat.zero_le _
   ·exact Nat.le_trans (vZ c r w e) (by simp)
  ·cases e:cut c r with
   | nil=>exact absurd e (Xw c r)
   | cons y z =>
    rw [Ua hx e] at h;rcases List.mem_cons.mp h with q | q
    ·have:=vZ c r y (by rw [e]; exact List.mem_cons_self);rw [q,List.length_cons,List.length_cons];omega
    ·exact Nat.le_trans (vZ c r w (by rw [e]; exact List.mem_cons_of_mem _ q)) (by simp)
def Ot (c:Nat) (t:List Nat) (w:List Nat) (h:w∈words c t):w.length<=t.length:=vZ c t w (List.mem_filter.mp h).1
end Tx
namespace L2
def US (xs:List V) (k:Nat):gC xs none (some (k:Int))=xs.take k:=by
 unfold gC;rw [HT.y9,HT.z0,List.drop_zero,Nat.sub_zero];by_cases h:k<=xs.length
 ·rw [Nat.min_eq_left h]
 ·rw [Nat.min_eq_right (by omega),P3 (sK _),P3 (by omega)]
def KH (xs:List V) (k:Nat):gC xs (some (k:Int)) none=xs.drop k:=by
 unfold gC;rw [HT.y9,HT.z0];by_cases h:k<=xs.length
 ·rw [Nat.min_eq_left h,P3 (by rw [List.length_drop]; exact sK _)]
 ·rw [Nat.min_eq_right (by omega),List.drop_eq_nil_of_le (sK _),List.drop_eq_nil_of_le (by omega)];simp
end L2
namespace L2
open PySem PySem.Spec PyProof.Rows
def bG.there {P:Program} {w:World} {H:Hp} {h:Heap} {a:Addr} {o:HO} (x:bG P w H h a o):∃ u,h.get? a=some u:=by
 cases o with
 | lst xs=>obtain ⟨_,_,_,_,e⟩:=x; exact ⟨_,e⟩
 | tup xs=>obtain ⟨_,_,_,u,e,_⟩:=x; exact ⟨_,e⟩
 | dK kvs=>obtain ⟨_,_,_,_,o,_,_,e,_⟩:=x; exact ⟨_,e⟩
 | dT kvs=>obtain ⟨_,_,_,_,o,_,_,e,_⟩:=x; exact ⟨_,e⟩
 | set S n=>obtain ⟨o,_,_,_,e,_⟩:=x; exact ⟨_,e⟩
 | ins C dx fs=>obtain ⟨_,_,_,e,_⟩:=x; exact ⟨_,e⟩
 | own y=>exact x
 | xd fs=>obtain ⟨_,⟨_,_,_,e,_⟩,_⟩:=x; exact ⟨_,e⟩
 | xT lo hi=>obtain ⟨_,_,_,e⟩:=x; exact ⟨_,e⟩
 | eV ob u=>obtain ⟨e,_⟩:=x; exact ⟨_,e⟩
 | mG ps=>exact ⟨_,(show h.get? a=some _ from x)⟩
 | met f y=>exact ⟨_,(show h.get? a=some _ from x)⟩
 | ext φ=>obtain ⟨_,e,_⟩:=x; exact e
def ug (B:Heap) (fs:List Addr) (h:Heap) (H':Hp) (h':Heap):Prop :=
 ∀ b o,h'.get? b=some o->b ∉ fs->((∃ u,h.get? b=some u)\/∃ u,H' b=some u)->B.get? b=some o
def Fy {P:Program} {w:World} {fs:List Addr} {H H':Hp} {h h1 h2 B:Heap} (u:Un fs [] H H' h h1) (ay:cj P w H' h1) (hf:∀ b∈fs,H b=none/\∃ o,h.get? b=some o/\∀ vs,o.data≠.fields vs) (gO:ug B fs h H' h1)
  (st:B.StaysIn h2) (up:h1.UpToSlots h2):Un fs [] H H' h h2/\cj P w H' h2:=by
 have kB:∀ b o,h1.get? b=some o->b ∉ fs->((∃ u,h.get? b=some u)\/∃ u,H' b=some u)->h2.get? b=some o:=fun b o e hb z=>st b o (gO b o e hb z);have fr:∀ b∈fs,∀ o,h.get? b=some o->∃ sl,h2.get? b=some { o with slots:=sl }:=fun b hb o e=>by
  obtain ⟨n,o',e',nf⟩:=hf b hb;rw [e] at e'; cases e';obtain ⟨sl,e1⟩:=u.slot b o e n hb (by simp);obtain ⟨sl',e2⟩:=up b _ e1 nf;exact ⟨sl',e2⟩
 refine ⟨⟨fun b o q n hb hx=>kB b o (u.keep b o q n hb hx) hb (.inl ⟨o,q⟩),fun b o q n hb hx=>fr b hb o q,u.free,fun b o q hx=>?_,u.gb,u.fR,u.gm⟩,fun a v e=>?_⟩
 ·by_cases hb:b∈fs
  ·obtain ⟨sl,e⟩:=fr b hb o q;exact ⟨_,e⟩
  ·obtain ⟨o',e1⟩:=u.there b o q hx;exact ⟨o',kB b o' e1 hb (.inl ⟨o,q⟩)⟩
 ·have tr:∀ b,(∃ u,H' b=some u)->b ∉ fs:=fun b ⟨v',e'⟩ hb=>by
   obtain ⟨n,o,ho,_⟩:=hf b hb;have:=u.free b o ho n (by simp);rw [e'] at this; cases this
  refine (ay a v e).gS (fun b x hb q=>?_) (fun _ q=>q) fun _ _ q=>q;have hs:∃ u,H' b=some u:=by
   rcases hb with rfl | hb
   ·exact ⟨v,e⟩
   ·exact ⟨_,hb⟩
  exact kB b x q (tr b hs) (.inr hs)
structure nZ (P:Program) (w:World) (outer:List Env) (H:Hp) (s:Shared) (ea C:Addr) (od:Option Addr) (H':Hp) (s':Shared):Prop where
 os:s'.os=s.os
 bare:AllBare s'.gens
 un:Un (bH outer) [] H H' s.heap s'.heap
 ay:cj P w H' s'.heap
 free:H' ea=none
 new:s.heap.get? ea=none
 hd:dA ea (.ref C) od s'.heap
 Ll:∃ B a0,Heap.FlyingW B outer ea (.ref C) a0 s'.heap/\ug B (bH outer) s.heap H' s'.heap
def bI (P:Program) (w:World):dX:=fun outer H s E e s'=>∃ ea C od H',e=.ref ea/\nZ P w outer H s ea C od H' s'/\E (.ref C) od H'
def aA.cx {P:Program} {w:World} {K:ν} {mg:Str->Option Value} {base:Heap} {CX:dX} {k:Nat} {f:Addr} {fd:FuncData} {ps:List Str} {sp:Sp} (F:aA P w K mg base aN k f fd ps sp):aA P w K mg base CX k f fd ps sp :=
 ⟨F.len,fun A outer s H args us vs Q E hr he hb hv hs=>XV (F.run A outer s H args us vs Q E hr he hb hv hs) fun r s' z=>by
  cases r with
  | error e=>exact False.elim z
  | ok fl=>cases fl <;> exact z⟩
section
variable {X:Cx} {π:List (Addr×Obj)} {σ:St} {H H':Hp} {s s':Shared} {ea C:Addr} {od:Option Addr}
def Inv.Kh (I:Inv X π σ H s):∀ b∈bH X.stack,H b=none/\∃ o,s.heap.get? b=some o/\∀ vs,o.data≠.fields vs:=fun b hb=>⟨I.wW b hb,(I.stack.mem hb).2⟩
structure Own (X:Cx):Prop where
 dB:X.stack=X.env::X.outer
 frame:X.env.frame=some X.env.locals
 ex:X.ex=[]
def Inv.Cb {h1 B:Heap} {a0:Value} (I:Inv X π σ H s) (O:Own X) (os:s'.os=s.os) (bare:AllBare s'.gens) (un:Un (bH X.stack) [] H H' s.heap h1) (ay:cj X.prog X.w H' h1) (free:H' ea=none) (new:s.heap.get? ea=none)
  (gO:ug B (bH X.stack) s.heap H' h1) (fl:Heap.FlyingW B X.outer ea (.ref C) a0 s'.heap) (up:h1.UpToSlots s'.heap) (hd:dA ea (.ref C) od s'.heap):nZ X.prog X.w X.outer X.H₀ X.s₀ ea C od H' s':=by
 obtain ⟨u2,hok2⟩:=Fy un ay I.Kh gO fl.1 up;have Ed:bH X.stack=X.env.locals::X.fs:=by
  rw [O.dB];unfold bH;rw [_d,O.frame];rfl
 have vi:∀ b o,X.s₀.heap.get? b=some o->b≠X.env.locals:=fun b o e=>wS (wn (ul e) I.ok.above);have nx:∀ b:Addr,b ∉ X.ex:=fun b=>by rw [O.ex]; simp
 have f9:∀ b o,X.s₀.heap.get? b=some o->b ∉ X.fs->b ∉ bH X.stack:=fun b o e hb z=>by
  rw [Ed] at z;rcases mo.mp z with q | q
  ·exact vi b o e q
  ·exact hb q
 have Lfree:H' X.env.locals=none:=by
  obtain ⟨m,⟨o,_,_,ho,_⟩,_⟩:=I.loc;exact un.free _ o ho I.free (by simp)
 refine ⟨os.trans I.os,bare,⟨fun b o q n hb _=>?_,fun b o q n hb _=>?_,fun b o q n _=>?_,fun b o q _=>?_,fun b xs q=>?_,fun b o v q=>?_,fun b ps q=>?_⟩,hok2,free,?_,hd,B,a0,fl,fun b o e hb z=>?_⟩
 ·exact u2.keep b o (I.base.keep b o q n hb (nx b)) (I.base.free b o q n (nx b)) (f9 b o q hb) (by simp)
 ·obtain ⟨sl,e1⟩:=I.base.slot b o q n hb (nx b);obtain ⟨sl',e2⟩:=u2.slot b _ e1 (I.base.free b o q n (nx b)) (by rw [Ed]; exact GE _ hb) (by simp);exact ⟨sl',e2⟩
 ·obtain ⟨o',e1⟩:=I.base.there b o q (nx b);exact u2.free b o' e1 (I.base.free b o q n (nx b)) (by simp)
 ·obtain ⟨o',e1⟩:=I.base.there b o q (nx b);exact u2.there b o' e1 (by simp)
 ·exact u2.gb b xs (I.base.gb b xs q)
 ·exact u2.fR b o v (I.base.fR b o v q)
 ·obtain ⟨m1,e1⟩:=I.base.gm b ps q;obtain ⟨m2,e2⟩:=u2.gm b _ e1;exact ⟨m1++m2,by rw [e2,Array.append_assoc]⟩
 ·cases q:X.s₀.heap.get? ea with
  | none=>rfl
  | some u =>
   obtain ⟨u',e'⟩:=I.base.there ea u q (nx ea);rw [new] at e'; cases e'
 ·have hn:b ∉ bH X.stack:=fun z'=>by
   rw [Ed] at z';rcases mo.mp z' with q | q
   ·rcases z with ⟨o',e'⟩ | ⟨v,e'⟩
    ·exact vi b o' e' q
    ·rw [q,Lfree] at e'; cases e'
   ·exact hb q
  have hs:∃ o',h1.get? b=some o'/\((∃ u,s.heap.get? b=some u)\/∃ u,H' b=some u):=by
   rcases z with ⟨o',e'⟩ | ⟨v,e'⟩
   ·obtain ⟨o2,e2⟩:=I.base.there b o' e' (nx b);obtain ⟨o3,e3⟩:=un.there b o2 e2 (by simp);exact ⟨o3,e3,.inl ⟨o2,e2⟩⟩
   ·obtain ⟨o3,e3⟩:=(ay b v e').there;exact ⟨o3,e3,.inr ⟨v,e'⟩⟩
  obtain ⟨o3,e3,z3⟩:=hs;have e4:=gO b o3 e3 hn z3;have e5:=fl.1 b o3 e4;rw [e] at e5; cases e5;exact e4
def Inv.La {M:Model} {A:Around} {E:Value->Shared->Prop} (I:Inv X π σ H s) (O:Own X) (hA:A.frames=some X.stack) (F:nZ X.prog X.w X.stack H s ea C od H' s') :
  wpAny M A (leaving X.env (.ref ea)) (fun _ s''=>nZ X.prog X.w X.outer X.H₀ X.s₀ ea C od H' s'') E s':=by
 obtain ⟨B,a0,fl,gO⟩:=F.Ll;have fl':=fl;rw [O.dB] at fl' hA;refine aC ((Kp.leaving X.env (.ref ea)).any F.hd (wpAny_leaves_onW (Q:=fun _ s''=>∃ h',s''={ s' with heap:=h' }/\Heap.FlyingW B X.outer ea (.ref C) a0 h'/\s'.heap.UpToSlots h') hA O.frame fl' fun h' x1 x2=>⟨h',rfl,x1,x2⟩)) fun _ s'' ⟨⟨h',e,x1,x2⟩,hd⟩=>?_;subst e;exact I.Cb (s':={ s' with heap:=h' }) O F.os F.bare F.un F.ay F.free F.new gO x1 x2 hd
def JE {h h':Heap} {e:Addr} {cls:Value} {args:List Value} (hx:Heap.MadeExcOf h h' e cls args):dA e cls none h':=by
 obtain ⟨t,he,_⟩:=hx.there;exact ⟨_,he,rfl,rfl,_,rfl⟩
def Inv.Qk {M:Model} {A:Around} {E:Value->Shared->Prop} {h':Heap} {vs:List Value} (I:Inv X π σ H s) (O:Own X) (hA:A.frames=some X.stack) (hx:Heap.MadeExcOf s.heap h' ea (.ref C) vs) :
  wpAny M A (leaving X.env (.ref ea)) (fun _ s''=>nZ X.prog X.w X.outer X.H₀ X.s₀ ea C none H s'') E { s with heap:=h' }:=by
 have aM:(PySem.W.hideAll s.heap (bH X.stack)).StaysIn s.heap:=fun b o q=>Ja8 _ q;have lQ:s.heap.FunFrames (PySem.W.hideAll s.heap (bH X.stack)) X.stack:=PySem.W.funFrames_hide I.stack fun env he a ha=>_J.mpr ⟨env,he,ha⟩;have mZ:H ea=none:=by
  cases q:H ea with
  | none=>rfl
  | some u =>
   obtain ⟨o,e⟩:=(I.ay ea u q).there;have:=hx.new;rw [e] at this; cases this
 have gO:ug (PySem.W.hideAll s.heap (bH X.stack)) (bH X.stack) s.heap H h':=fun b o e hb z=>by
  have hs:∃ u,s.heap.get? b=some u:=by
   rcases z with z | ⟨v,z⟩
   ·exact z
   ·exact (I.ay b v z).there
  obtain ⟨u,eu⟩:=hs;have:=hx.keeps b u eu;rw [e] at this; cases this;exact _9 _ eu hb
 generalize PySem.W.hideAll s.heap (bH X.stack)=B at aM lQ gO;have hfr':=lQ;rw [O.dB] at hfr' hA;refine aC ((Kp.leaving X.env (.ref ea)).any (s:={ s with heap:=h' }) (JE hx) (wpAny_leaves_madeW (s:={ s with heap:=h' }) (Q:=fun _ s''=>∃ h2 t,s''={ s with heap:=h2 }/\Heap.FlyingW B X.outer ea (.ref C) (.ref t) h2/\h'.UpToSlots h2) hA O.frame aM hfr' hx
  fun h2 t x1 _ _ x4=>⟨h2,t,rfl,x1,x4⟩)) fun _ s'' ⟨⟨h2,t,e,x1,x4⟩,hd⟩=>?_
 subst e;exact I.Cb (s':={ s with heap:=h2 }) O rfl I.bare (Un.kept hx.keeps) (I.ay.kept hx.keeps) mZ hx.new gO x1 x4 hd
structure gE (X:Cx) (R:St->XK):Prop where
 pass:∀ (π:List (Addr×Obj)) (σ:St) (H:Hp) (s:Shared) (e:Value) (s':Shared),Inv X π σ H s->bI X.prog X.w X.stack H s (R σ) e s'->X.xe e s'
structure Raises (X:Cx) (R:St->XK):Prop where
 made:∀ (π:List (Addr×Obj)) (σ:St) (H:Hp) (s:Shared) (h':Heap) (ea C:Addr) (vs:List Value),Inv X π σ H s->Heap.MadeExcOf s.heap h' ea (.ref C) vs->R σ (.ref C) none H->X.xe (.ref ea) { s with heap:=h' }
def bS {P:Program} {w:World} {K:ν} {mg:Str->Option Value} {base:Heap} {N:List Str} {qual:Str} {scope:Scope} {f:Addr} {cd:Value} {A:Around} {outer:List Env} {s₀:Shared} {H₀:Hp} {E:XK} :
  gE (en (bI P w) P w K mg base N qual scope f cd A outer s₀ H₀ E) (fun _=>E) where
 pass:=fun π σ H s e s' I hc=>by
  obtain ⟨ea,C,od,H',rfl,F,hE⟩:=hc;exact aC (I.La ⟨rfl,rfl,rfl⟩ I.ok.frames F) fun _ s'' z=>⟨ea,C,od,H',rfl,z,hE⟩
def mh {P:Program} {w:World} {K:ν} {mg:Str->Option Value} {base:Heap} {N:List Str} {qual:Str} {scope:Scope} {f:Addr} {cd:Value} {A:Around} {outer:List Env} {s₀:Shared} {H₀:Hp} {E:XK} :
  Raises (en (bI P w) P w K mg base N qual scope f cd A outer s₀ H₀ E) (fun _=>E) where
 made:=fun π σ H s h' ea C vs I hx hE=>aC (I.Qk ⟨rfl,rfl,rfl⟩ I.ok.frames hx) fun _ s'' z=>⟨ea,C,none,H,rfl,z,hE⟩
def wZ (sp:Sp) (bg:List V) (R:St->XK) (t:TA):TE:=fun σ H Q=>t σ H fun vs H1=>sp (vs++bg) H1 Q (R σ)
section
variable {k:Nat} {f:Addr} {fd:FuncData} {ps:List Str} {sp:Sp} {bg:List V} {ds:List Value} {R:St->XK} {x:Str} {p pos:Pos} {e:Expr} {es:List Expr} {t:TA}
def Dl {Q:VK} {us:List Value} {vs:List V} (F:aA X.prog X.w X.K X.mg X.base (bI X.prog X.w) k f fd ps sp) (hr:bf k X.A) (hb:Binds X.K fd ps ds) (hd:Vals bg ds) (hx:gE X R)
  (I:Inv X π σ H s) (r:Vals vs us) (h:sp (vs++bg) H Q (R σ)):wpAny (model X.prog X.w) X.A (call (.ref f) us) (EP X π σ Q) X.xe s:=by
 have r2:Vals (vs++bg) (us++ds):=r.append hd;have hl:(us++ds).length=ps.length:=by rw [<- r2.length]; exact F.len _ _ _ _ h
 refine T0 (XV (F.run X.A X.stack s H ⟨us,[]⟩ (us++ds) (vs++bg) Q (R σ) hr I.qH (hb s us I.bR hl) r2 h) fun r s' hq=>?_);cases r with
 | error e=>exact hx.pass π σ H s e s' I hq
 | ok fl =>
  cases fl with
  | ret u=>exact I.after hq
  | next=>exact False.elim hq
  | brk=>exact False.elim hq
  | cont=>exact False.elim hq
def aa4 (F:aA X.prog X.w X.K X.mg X.base (bI X.prog X.w) k f fd ps sp) (hr:bf k X.A) (hg:Gl X x) (hm:X.mg x=some (.ref f)) (hk:PySem.W.keepIn X.K (.ref f)=true) (hb:Binds X.K fd ps ds) (hd:Vals bg ds) (hx:gE X R)
  (ha:PA X (e::es) t) (hs:(e::es).all noStar=true:=by rfl) (bF:(x == ("__debug__" : Str))=false:=by decide):PE X (.Call (.Name x p) (e::es) [] pos) (wZ sp bg R t):=by
 have hs':=hs;rw [KM,zn] at hs';intro π s σ H Q I h;refine FB (jW I hg hm ?_ bF);refine SC (h₀:=X.base) I.ok.mod.iH hk (aC (ha pos π s σ H _ I h) fun us s1 ⟨vs,H1,I1,r,q⟩=>⟨I1.bR,?_⟩) (fM hs'.1) (iE hs'.2);exact Dl F hr hb hd hx I1 r q
end
end
abbrev sV:List Value:=[.type "ValueError",.type "Exception",.type "BaseException",.type "object"]
def W9 {K:ν} {h:Heap} {C:Addr} {Nw:List Value} {newId:String} (X:K.In h) (q:PySem.W.excIn K C Nw newId=true) :
  ∃ bm N nm q bs hdct sn sub ab col dd k0 k1 k2 k3 k5 mN,h.get? C=some (excClassObj nm q C N bs bm hdct sn sub ab col dd k0 k1 k2 k3 k5 newId)/\h.Ns N mN/\mN "__init__" = none/\OwnTail h Nw bm:=by
 unfold PySem.W.excIn at q;split at q
 ·rename_i dd cd sl ho;split at q
  ·rename_i C' bm k0 k1 k2 k3 n k5 hm hs;simp only [zn,TD,_Q] at q;obtain ⟨⟨⟨⟨⟨q1,q2⟩,q3⟩,q4⟩,q5⟩,q6⟩:=q;subst q1 q2;obtain ⟨nm,bs,mro,ns,qn,hd,sn,sub,ab,col,del⟩:=cd;dsimp only at hm q3 q5 q6;subst hm q3;have e1:sl=#[k0,k1,k2,k3,some (.builtin n),k5]:=by
    obtain ⟨l⟩:=sl;simp only at hs;rw [hs]
   subst e1;exact ⟨bm,ns,nm,qn,bs,hd,sn,sub,ab,col,dd,k0,k1,k2,k3,k5,_,X _ _ ho,.of_isNs (PySem.W.isNs_of_in X q5),PySem.W.nsMap_none_of_in X q5 q6,PySem.W.tail_of_in X q4⟩
  ·cases q
 ·cases q
def Dj (C:Addr) (R:St->XK) (t:TA):TS:=fun _ σ H=>t σ H fun vs H1=>vs.length<=sizeLine/\R σ (.ref C) none H1
def aaO {X:Cx} {R:St->XK} {x:Str} {C:Addr} {e:Expr} {es:List Expr} {t:TA} {np bt pos:Pos} (hx:Raises X R) (hc:X.calm=true) (hm:X.mg x=some (.ref C)) (q:PySem.W.excIn X.K C sV "ValueError.__new__" = true) (ha:PA X (e::es) t)
  (hg:Gl X x:=by rfl) (hs:(e::es).all noStar=true:=by rfl) (bF:(x == ("__debug__" : Str))=false:=by decide):PS X (.Raise (some (.Call (.Name x np) (e::es) [] bt)) none pos) (Dj C R t):=by
 have hs':=hs;rw [KM,zn] at hs';intro π s σ H D I h;obtain ⟨bm,N,nm,qn,bs,hdct,sn,sub,ab,col,dd,k0,k1,k2,k3,k5,mN,hC,hN,hni,T⟩:=W9 I.ok.mod.iH q;refine wpAny_Raise_call_subT (C:=C) (nm:=nm) (q:=qn) (N:=N) (bs:=bs) (bm:=bm) (hdct:=hdct) (sn:=sn) (sub:=sub) (ab:=ab) (col:=col) (dd:=dd) (k0:=k0) (k1:=k1) (k2:=k2) (k3:=k3) (k5:=k5)
  _B (mN:=mN) (T.hasType _B.hasBase) (I.ok.hd hc) (by rw [fM hs'.1]; exact iE hs'.2) hni (jW I hg hm ⟨rfl,?_⟩ bF)
 have ha':=ha bt π s σ H _ I h;rw [fM hs'.1] at ha' ⊢;refine _z (aC ha' fun us s2 ⟨vs,H2,I2,r,z,hR⟩=>?_);exact ⟨rfl,by rw [<- r.length]; exact z,I2.bk _ _ hC,hN.keeps I2.bk,T.keeps I2.bk,fun h' ea hm'=>hx.made π σ H2 s2 h' ea C us I2 hm' hR⟩
def mv (ea C:Addr) (od:Option Addr):HO:=.ext (dA ea (.ref C) od)
def Qj {P:Program} {w:World} {H:Hp} {h:Heap} {ea C:Addr} {od:Option Addr} (x:dA ea (.ref C) od h):bG P w H h ea (mv ea C od) :=
 ⟨x,let ⟨o,e,_⟩:=x; ⟨o,e⟩,fun _ _ ⟨o,e,r⟩ k=>⟨o,k o e,r⟩⟩
abbrev Cx.iZ (X:Cx) (v:Value):Cx:={ X with A:=X.A.mark (some v),calm:=false,xe:=fun _ _=>False }
abbrev Cx.nR (X:Cx) (π:List (Addr×Obj)) (R:St->XK):Cx:={ X with pn:=X.pn++π,xe:=fun e s'=>∃ (σ':St) (H H':Hp) (s:Shared) (ea C:Addr) (od:Option Addr),Inv X π σ' H s/\e=.ref ea/\nZ X.prog X.w X.stack H s ea C od H' s'/\R σ' (.ref C) od H' }
section
variable {X:Cx} {π π':List (Addr×Obj)} {σ:St} {H H':Hp} {s s':Shared} {R:St->XK} {v:Value}
def Inv.iZ (I:Inv X π σ H s) (v:Value):Inv (X.iZ v) π σ H s :=
 ⟨⟨I.ok.mod,I.ok.kind,I.ok.glob,I.ok.blt,I.ok.above,I.ok.inj,I.ok.has,I.ok.lE,(fun z=>Bool.noConfusion z),I.ok.frames,I.ok.dB,I.ok.tW,I.ok.bs,I.ok.gU,I.ok.mf,I.ok.mQ,I.ok.fC,I.ok.iU⟩,
  I.os,I.bare,I.base,I.loc,I.cell,I.free,I.fB,I.pin,I.ay,I.len⟩
def Inv.VN (I:Inv (X.iZ v) π σ H s) (ok:X.Ok):Inv X π σ H s:=⟨ok,I.os,I.bare,I.base,I.loc,I.cell,I.free,I.fB,I.pin,I.ay,I.len⟩
def Inv.nR (I:Inv X π σ H s) (R:St->XK):Inv (X.nR π R) [] σ H s :=
 ⟨⟨I.ok.mod,I.ok.kind,I.ok.glob,I.ok.blt,I.ok.above,I.ok.inj,I.ok.has,I.ok.lE,I.ok.hd,I.ok.frames,I.ok.dB,I.ok.tW,I.ok.bs,I.ok.gU,I.ok.mf,I.ok.mQ,I.ok.fC,I.ok.iU⟩,
  I.os,I.bare,I.base,I.loc,I.cell,I.free,I.fB,fun p hp=>I.pin p (by simpa using hp),I.ay,I.len⟩
def Inv.sI (I:Inv (X.nR π R) π' σ H s):Inv X π σ H s :=
 ⟨⟨I.ok.mod,I.ok.kind,I.ok.glob,I.ok.blt,I.ok.above,I.ok.inj,I.ok.has,I.ok.lE,I.ok.hd,I.ok.frames,I.ok.dB,I.ok.tW,I.ok.bs,I.ok.gU,I.ok.mf,I.ok.mQ,I.ok.fC,I.ok.iU⟩,
  I.os,I.bare,I.base,I.loc,I.cell,I.free,I.fB,fun p hp=>I.pin p (Fr _ hp),I.ay,I.len⟩
def Ug:gE (X.nR π R) R:=⟨fun π' σ H s e s' I hc=>by
 obtain ⟨ea,C,od,H',rfl,F,hE⟩:=hc;exact ⟨σ,H,H',s,ea,C,od,I.sI,rfl,F,hE⟩⟩
def Inv.xF {a:Addr} {o:HO} (I:Inv X π σ H s) (hn:H a=none) (n0:X.s₀.heap.get? a=none) (nL:a≠X.env.locals) (nC:∀ x c,X.env.cells.lookup x=some c->c≠a) (nP:∀ p∈X.pn++π,p.1≠a)
  (new:bG X.prog X.w (upd H a o) s.heap a o):Inv X π σ (upd H a o) s:=by
 have ne:∀ b u,H b=some u->b≠a:=fun b u e=>gv e hn;have n0':∀ b u,X.s₀.heap.get? b=some u->b≠a:=fun b u e z=>by rw [z,n0] at e; cases e
 refine ⟨I.ok,I.os,I.bare,⟨I.base.keep,I.base.slot,fun b u e n hx=>by rw [aj (n0' b u e)]; exact I.base.free b u e n hx,I.base.there,fun b xs e=>by have:=I.base.gb b xs e; rw [aj (ne b _ this)]; exact this,
  fun b u v e=>by have:=I.base.fR b u v e; rw [aj (ne b _ this)]; exact this,fun b ps e=>?_⟩,I.loc,I.cell,by rw [aj (sB nL)]; exact I.free,fun x c e=>by rw [aj (nC x c e)]; exact I.fB x c e,fun p hp=>?_,fun b u e=>?_,I.len⟩
 ·obtain ⟨m,e1⟩:=I.base.gm b ps e;exact ⟨m,by rw [aj (ne b _ e1)]; exact e1⟩
 ·obtain ⟨e1,e2,r⟩:=I.pin p hp;exact ⟨e1,by rw [aj (nP p hp)]; exact e2,r⟩
 ·by_cases hb:b=a
  ·subst hb;rw [au] at e; cases e;exact new
  ·rw [aj hb] at e;exact (I.ay b u e).gS (fun _ _ _ q=>q) (fun c q=>by rw [aj (ne c _ q)]; exact q) fun c xs q=>by rw [aj (ne c _ q)]; exact q
def Inv.TR {i:Nat} {n:Str} {m:Str->Option Value} {h8:Heap} {v:Option Value} {t8:Nat} (I:Inv X π σ H s) (hN:X.N.Nodup) (hi:X.N[i]?=some n)
  (hl:∀ (i:Nat) (x:Str) (v:V),X.N[i]?=some x->σ[i]?=some (some v)->mC X.env.scope x->∃ u,RelV v u/\Look X.env s.heap m x u)
  (DX:h8.Ns X.env.locals (fun x=>if x=n then v else m x)) (sb:Heap.SameBut X.env.locals s.heap h8):Inv X π (σ.set i none) H { s with heap:=h8,toks:=t8 }:=by
 have old:∀ b o,X.s₀.heap.get? b=some o->h8.get? b=s.heap.get? b:=fun b o e=>sb.2 b (wS (wn (ul e) I.ok.above));refine ⟨I.ok,I.os,I.bare,⟨fun b o e n' hb hx=>(old b o e).trans (I.base.keep b o e n' hb hx),fun b o e n' hb hx=>?_,I.base.free,fun b o e hx=>?_,I.base.gb,I.base.fR,I.base.gm⟩,⟨_,DX,fun j y v' e1 e2 e3=>?_⟩,fun y c e=>?_,I.free,I.fB,fun p hp=>?_,fun b u e=>?_,by simpa using I.len⟩
 ·obtain ⟨sl,e1⟩:=I.base.slot b o e n' hb hx;exact ⟨sl,(old b o e).trans e1⟩
 ·obtain ⟨o',e1⟩:=I.base.there b o e hx;exact ⟨o',(old b o e).trans e1⟩
 ·by_cases hj:j=i
  ·subst hj;have bK:j < σ.length:=by rw [I.len]; exact (sw.mp hi).1
   rw [NE bK] at e2;cases e2
  ·rw [No (sB hj)] at e2;obtain ⟨u',r',q⟩:=hl j y v' e1 e2 e3;refine ⟨u',r',?_⟩;rcases q with ⟨k,e⟩ | ⟨k,c,e,z⟩
   ·refine .inl ⟨k,?_⟩;have:y≠n:=fun e=>hj (AK hN e1 (e ▸ hi));simp [this,e]
   ·exact .inr ⟨k,c,e,z.sameBut sb (I.jF y c e)⟩
 ·obtain ⟨w',z⟩:=I.cell y c e;exact ⟨w',z.sameBut sb (I.jF y c e)⟩
 ·obtain ⟨e,n',ne,nf,d⟩:=I.pin p hp;exact ⟨(sb.2 p.1 ne).trans e,n',ne,nf,d⟩
 ·refine (I.ay b u e).gS (fun c w' hc q=>(sb.2 c ?_).trans q) (fun _ q=>q) fun _ _ q=>q;rintro rfl;have hf:=I.free;rcases hc with z | z
  ·rw [z] at hf; rw [hf] at e; cases e
  ·rw [hf] at z; cases z
end
def Rw {K:ν} {M:Model} {A:Around} {E:Value->Shared->Prop} {s:Shared} {e C Cc:Addr} {od:Option Addr} {Q:Bool->Shared->Prop} (X:K.In s.heap) (hd:dA e (.ref C) od s.heap) (h1:PySem.W.instIn K (.ref Cc) (.type "tuple")=some false)
  (h2:PySem.W.mroIn K Cc (.type "BaseException")=some true) (h3:PySem.W.subIn K (.ref C) (.ref Cc)=some true) (hq:Q true s):wpAny M A (excMatches (.ref e) (.ref Cc)) Q E s:=by
 obtain ⟨o,he,hc,_⟩:=hd;have L1:=PySem.W.looks_instIn (M:=M) X h1;have L2:=_f (M:=M) X h2;have L3:=PySem.W.looks_subIn (M:=M) X h3;have L4:PySem.W.Looks M s.heap (isType (.ref Cc)) true:=by
  obtain ⟨cd,bQ,_⟩:=Option.bind_eq_some_iff.mp h2;unfold PySem.W.clsIn at bQ;split at bQ
  ·rename_i c' d' cd' sl' ho;intro A' Q' E' s' k q;unfold isType loadHead;exact lm (_g (k _ _ (X _ _ ho)) (pi q))
  ·cases bQ
 have L5:PySem.W.Looks M s.heap (typeOf (.ref e)) (.ref C):=hc ▸ (_i he).andThen .now;have L6:PySem.W.Looks M s.heap (isExcClass (.ref Cc)) true:=L4.andThen L2;obtain ⟨hh,g,d,t,os⟩:=s;unfold excMatches;refine lm (L1.at ?_);simp only [IO,ZB,pure_bind];simp only [List.forIn_cons,List.forIn_nil,bind_assoc,pure_bind];refine lm (L6.at ?_);simp only [_F,IO,ZB,bind_assoc,pure_bind];refine lm (L5.at (lm (L3.at ?_)));simp only [Ja7,pure_bind];exact pi hq
def Ends.Cy (D:Ends) (i:Nat):Ends:=⟨fun σ H=>D.nx (σ.set i none) H,D.rt,fun σ H=>D.bk (σ.set i none) H,fun σ H=>D.ct (σ.set i none) H⟩
def FC (K:ν) (Cc:Addr) (i:Nat) (tb:(St->XK)->TS) (th:TS):TS:=fun D σ H=>∃ R:St->XK,tb R D σ H/\∀ σ' C od H',R σ' (.ref C) od H'->PySem.W.subIn K (.ref C) (.ref Cc)=some true /\
 ∀ ea,H' ea=none->th (D.Cy i) (σ'.set i (some (.ref ea))) (upd H' ea (mv ea C od))
def O6 {X:Cx} {K:ν} {Cc:Addr} (i:Nat) {n x:Str} {body px:List Stmt} {b₀:Stmt} {np hpos pos:Pos} {tb:(St->XK)->TS} {th:TS} (hK:X.K=K) (O:Own X) (hN:X.N.Nodup) (hm:X.mg x=some (.ref Cc))
  (c1:PySem.W.instIn X.K (.ref Cc) (.type "tuple")=some false) (c2:PySem.W.mroIn X.K Cc (.type "BaseException")=some true)
  (hb:∀ π R,dH (X.nR π R) body (tb R)) (hs:∀ v,dH (X.iZ v) (b₀::px) th) (hg:Gl X x:=by rfl) (hi:X.N[i]?=some n:=by rfl) (hn:X.env.scope.names.lookup n=some .local:=by rfl) (bF:(x == ("__debug__" : Str))=false:=by decide) :
  PS X (.Try body [.ExceptHandler (some (.Name x np)) (some n) (b₀::px) hpos] [] [] pos) (FC K Cc i tb th):=by
 subst hK;intro π s σ H D I h;obtain ⟨R,hb',hh⟩:=h;refine wpAny_Try_except (IN (hb π R [] s σ H D (I.nR R) hb') (fun f s1 z=>?_) fun e s1 z=>?_)
 ·cases f with
  | next=>obtain ⟨σ',H',I',q⟩:=z; exact _H ⟨σ',H',I'.sI,q⟩
  | ret u=>obtain ⟨v,σ',H',I',r,q⟩:=z; exact ⟨v,σ',H',I'.sI,r,q⟩
  | brk=>obtain ⟨σ',H',I',q⟩:=z; exact ⟨σ',H',I'.sI,q⟩
  | cont=>obtain ⟨σ',H',I',q⟩:=z; exact ⟨σ',H',I'.sI,q⟩
 ·obtain ⟨σ',H0,H',s0,ea,C,od,I0,rfl,F,hR⟩:=z;obtain ⟨hsub,aS⟩:=hh σ' C od H' hR;obtain ⟨B,a0,fl,gO⟩:=F.Ll;have hA:X.A.frames=some (X.env::X.outer):=by rw [<- O.dB]; exact I.ok.frames
  rw [O.dB] at fl;refine aC ((Kp.noteFrame (.ref ea) X.env).any F.hd (wpAny_looks_onW (Q:=fun _ s2=>∃ h2,s2={ s1 with heap:=h2 }/\Heap.HeldW B (X.env::X.outer) ea (.ref C) a0 X.env.locals h2/\s1.heap.UpToSlots h2) hA O.frame fl fun h2 x1 x2=>⟨h2,rfl,x1,x2⟩))
   fun _ s2 ⟨⟨h2,e2,held,MF⟩,hd2⟩=>?_
  subst e2;refine aC ((Kp.setFlight (.ref ea) none).any (s:={ s1 with heap:=h2 }) hd2 (wpAny_landsW (s:={ s1 with heap:=h2 }) (Q:=fun _ s3=>∃ h3,s3={ s1 with heap:=h3 }/\Heap.FlyingW B (X.env::X.outer) ea (.ref C) a0 h3/\h2.UpToSlots h3) held fun h3 x1 x2=>⟨h3,rfl,x1,x2⟩))
   fun _ s3 ⟨⟨h3,e3,NI,MS⟩,LV⟩=>?_
  subst e3;have step:∀ h4:Heap,B.StaysIn h4->s1.heap.UpToSlots h4->Inv X π σ' H' { s1 with heap:=h4 }:=fun h4 st up=>by
   obtain ⟨u,ay⟩:=Fy F.un F.ay I0.Kh gO st up;exact I0.Ho (s':={ s1 with heap:=h4 }) (ch:=[]) F.os u ay F.bare (fun b z=>absurd z (by simp))
  have I3:=step h3 NI.1 (MF.trans MS);refine wpAny_handleBy_cons (codeAny_handlers_test (jW (I3.iZ (.ref ea)) hg hm ?_ bF)) (by intro q; cases q);refine Rw I3.bR LV c1 c2 hsub ?_;refine codeAny_handlers_suite_as ?_;refine aC ((Kp.setFlight (.ref ea) none).any (s:={ s1 with heap:=h3 }) LV (lands_againW (s:={ s1 with heap:=h3 }) (Q:=fun _ s4=>∃ h4,s4={ s1 with heap:=h4 }/\Heap.FlyingW B (X.env::X.outer) ea (.ref C) a0 h4/\h3.UpToSlots h4) NI fun h4 x1 x2=>⟨h4,rfl,x1,x2⟩))
   fun _ s4 ⟨⟨h4,e4,fl4,up4⟩,rF⟩=>?_
  subst e4;have I4:=step h4 fl4.1 ((MF.trans MS).trans up4);have f9:∀ b,(∃ o,s0.heap.get? b=some o)->b≠ea:=fun b ⟨o,e⟩ z=>by rw [z,F.new] at e; cases e
  have I5:Inv X π σ' (upd H' ea (mv ea C od)) { s1 with heap:=h4 }:=by
   refine I4.xF F.free ?_ ?_ ?_ ?_ (Qj rF)
   ·cases q:X.s₀.heap.get? ea with
    | none=>rfl
    | some u=>exact absurd rfl (f9 ea (I0.base.there ea u q (by rw [O.ex]; simp)))
   ·obtain ⟨m,⟨o,_,_,ho,_⟩,_⟩:=I0.loc;exact sB (f9 _ ⟨o,ho⟩)
   ·intro y c e;obtain ⟨w',o,ho,_⟩:=I0.cell y c e;exact f9 _ ⟨o,ho⟩
   ·intro p hp;exact f9 _ ⟨_,(I0.pin p hp).1⟩
  refine BW (X:=X.iZ (.ref ea)) (v:=.ref ea) (I5.iZ (.ref ea)) hN hi (Or.inl hn) rfl (fun s6 I6=>?_) (Or.inr hn);refine IN (hs (.ref ea) π s6 _ _ (D.Cy i) I6 (aS ea F.free)) (fun f s7 z=>?_) fun _ _ z=>False.elim z;have u0:(X.env.scope.kind == .class || (X.env.scope.kind == .module && X.env.locals != X.env.globals))=false:=by rw [I.ok.kind]; rfl
  have fin:∀ {σ7:St} {H7:Hp} (I7:Inv (X.iZ (.ref ea)) π σ7 H7 s7) (Q:Unit->Shared->Prop),(∀ s8,Inv X π (σ7.set i none) H7 s8->Q () s8)->∀ E:Value->Shared->Prop,wpAny (model X.prog X.w) X.A (do bindName X.env n .none; unbindBehindTheSuite X.env n hpos) Q E s7:=fun {σ7 H7} I7 Q k E=>by
   have J:=I7.VN I.ok;obtain ⟨m,hn7,hl7⟩:=id J.loc;exact wpAny_nameGoes_keeps hn hn7 u0 fun h8 v DX sb8=>k _ (J.TR hN hi hl7 DX sb8)
  cases f with
  | next=>obtain ⟨σ7,H7,I7,q⟩:=z; exact fin I7 _ (fun s8 I8=>⟨_,H7,I8,q⟩) _
  | ret u=>obtain ⟨v,σ7,H7,I7,r,q⟩:=z; exact fin I7 _ (fun s8 I8=>⟨v,_,H7,I8,r,q⟩) _
  | brk=>obtain ⟨σ7,H7,I7,q⟩:=z; exact fin I7 _ (fun s8 I8=>⟨_,H7,I8,q⟩) _
  | cont=>obtain ⟨σ7,H7,I7,q⟩:=z; exact fin I7 _ (fun s8 I8=>⟨_,H7,I8,q⟩) _
structure gi (K:ν) (C:Addr):Prop where
 ha:PySem.W.findIn K (.ref C) "__class__" = some (some (.builtin "object.__class__"))
 hn:PySem.W.specialIn K (.builtin "object.__class__") "__get__" = some (some (.builtin "getset_descriptor.__get__"))
 eP:PySem.W.takesIn K (.builtin "object.__class__")=some true
 hm:PySem.W.mroIn K C (.type "object")=some true
 BQ:PySem.W.findIn K (.ref C) "__getattribute__" = some (some (.builtin "BaseException.__getattribute__"))
 HU:PySem.W.findIn K (.ref C) "__getattr__" = some none
 hb:PySem.W.mroIn K C (.type "BaseException")=some true
def oA {M:Model} {h:Heap} {x C:Addr} {od:Option Addr} (I:dA x (.ref C) od h):PySem.W.Looks M h (typeOf (.ref x)) (.ref C):=by
 obtain ⟨o,e,c,_⟩:=I;exact c ▸ (_i e).andThen .now
def F5 {K:ν} {C:Addr} {b:Value} {r:Bool} (h:PySem.W.mroIn K C b=some r):∃ c d cd sl,K.lookup C=some ⟨c,d,.cls cd,sl⟩:=by
 obtain ⟨cd,bQ,_⟩:=Option.bind_eq_some_iff.mp h;unfold PySem.W.clsIn at bQ;split at bQ
 ·rename_i c' d' cd' sl' ho;exact ⟨_,_,_,_,ho⟩
 ·cases bQ
section
variable {prog:Program} {w:World} {A:Around} {E:Value->Shared->Prop} {s:Shared} {K:ν} {x C:Addr} {od:Option Addr}
def UA {M:Model} {h:Heap} {name:Str} {a g:Value} (X:K.In h) (ha:PySem.W.findIn K (.ref C) name=some (some a)) (hn:PySem.W.specialIn K a "__get__" = some (some g)) (eP:PySem.W.takesIn K a=some true) :
  PySem.W.Looks M h (Builtin.ObjectAttr.find (.ref x) (.ref C) name) (.bind g a):=by
 have L1:=GM (M:=M) X ha;have L2:PySem.W.Looks M h (Builtin.ObjectAttr.getOf (some a)) (some g):=PySem.W.looks_specialIn X hn;have L3:=PySem.W.looks_takesIn (M:=M) X eP;unfold Builtin.ObjectAttr.find;refine L1.andThen (L2.andThen ?_);have L4:PySem.W.Looks M h (Builtin.ObjectAttr.dataDescriptor? (some a) (some g)) (some (g,a)):=by
  unfold Builtin.ObjectAttr.dataDescriptor?;exact L3.andThen .now
 exact L4.andThen (PySem.W.Looks.tag .now)
open PySem.W in
open Builtin Builtin.ObjectAttr Builtin.Getset_descriptor in
def OH {R:Result->Shared->Prop} {tp:Value} (Z:gi K C) (X:K.In s.heap) (I:dA x (.ref C) od s.heap) (h:R (.ok (.ret (.ref C))) s) :
  codeAny (model prog w) A (.call (.builtin "getset_descriptor.__get__") ⟨[.builtin "object.__class__",.ref x,tp],[]⟩) R s:=by
 obtain ⟨hh,g,dr,t,os⟩:=s;have L0:=oA (M:=model prog w) I;have L1:=looks_mroIn (M:=model prog w) X Z.hm;refine _a KF.slot_gs.plain KF.entry_gs (KF.slot_gs.check _ _ _ _ _ _ _ _ KF.type_class (KF.args_gs _ _ _) ?_);unfold Builtin.«getset_descriptor.__get__» descrGet;rw [dga_obj];refine lm (pi ?_);unfold descrGetter descrCheckInstance descrNameAndClass isInstance;simp only [KF.owner_class]
 repeat lk
 refine ⟨Jaf _ (by decide +kernel),_s KF.entry_class ?_⟩;unfold Builtin.«object.__class__» shownTypeOf
 repeat lk
 exact h
def JW {M:Model} {Nb:Value} {Q:Unit->Shared->Prop} (Z:gi K C) (X:K.In s.heap) (I:dA x (.ref C) od s.heap) (h:Q () s):wpAny M A (checkBuiltinCall "BaseException.__getattribute__" ⟨[.ref x,Nb],[]⟩) Q E s:=by
 have k1:builtinKind "BaseException.__getattribute__" = some .slot:=by decide +kernel
 have k2:splitId "BaseException.__getattribute__" = some ("BaseException","__getattribute__"):=by decide +kernel
 have k3:=PySem.F.args_bexc_ga (.ref x) Nb;have L0:=oA (M:=M) I;have L1:=_f (M:=M) X Z.hb;obtain ⟨hh,g,d,t,os⟩:=s;have L2:PySem.W.Looks M hh (isInstance (.ref x) (.type "BaseException")) true:=L0.andThen L1;simp only [checkBuiltinCall,k1,k2];refine lm (L2.at ?_)
 repeat (any_goals (first | assumption | wp_step))
def OX {Q:Option Value->Shared->Prop} (Z:gi K C) (X:K.In s.heap) (I:dA x (.ref C) od s.heap) (h:Q (some (.ref C)) { s with toks:=s.toks+1 }):wpAny (model prog w) A (getAttr? (.ref x) "__class__") Q E s:=by
 obtain ⟨hh,g,d,t,os⟩:=s;have L0:=oA (M:=model prog w) I;have L1:=GM (M:=model prog w) X Z.BQ;have L2:=GM (M:=model prog w) X Z.HU;have L3:=UA (M:=model prog w) (x:=x) X Z.ha Z.hn Z.eP;unfold getAttr? getAttrBy? getAttrBy;refine lm (wpAny_mkText (lm (_Z (FS (lm (L0.at (lm (L1.at ?_))))))));show wpAny _ _ (getAttrByItsOwn (.ref x) (.str "__class__" t) (.ref C) (.builtin "BaseException.__getattribute__") false false) _ _ _;unfold getAttrByItsOwn;refine lm (L2.at ?_);refine lm (_Z (FS ?_));show wpAny _ _ (boundAndCalled (.builtin "BaseException.__getattribute__") (.ref x) (.str "__class__" t)) _ _ _;unfold boundAndCalled;refine lm (wpAny_of_eq (_j.ga.bind (.ref x)) ?_);refine T0 (_a _j.ga.plain PySem.F.entry_bexc_ga (JW Z X I ?_));show wpAny _ _ (Builtin.«object.__getattribute__» ⟨[.ref x,.str "__class__" t],[]⟩) _ _ _;unfold Builtin.«object.__getattribute__»;refine lm (pi ?_);refine lm (pi ?_);refine lm (L0.at (lm (L3.at ?_)));show wpAny _ _ (Builtin.ObjectAttr.bindTo (.builtin "getset_descriptor.__get__") (.builtin "object.__class__") (.ref x) (.ref C)) _ _ _;show wpAny _ _ (holding [.builtin "object.__class__"] (call (.builtin "getset_descriptor.__get__") [.builtin "object.__class__",.ref x,.ref C]) >>= fun v=>ret v) _ _ _;refine lm (FS (T0 (OH Z X I (pi ?_))));exact pi (pi h)
def Cf (Z:gi K C):PySem.W.KitX K (.ref x) (.ref C) (dA x (.ref C) od) where
 ty:=fun _ _ _ I=>oA I
 it:=fun _ _ X _=>by
  obtain ⟨c',d',cd',sl',ho⟩:=F5 Z.hm;intro A' Q' E' s' k q;unfold isType loadHead;exact lm (_g (k _ _ (X _ _ ho)) (pi q))
 ne:=fun h tp dd aq n sl X htp=>by
  obtain ⟨c',d',cd',sl',ho⟩:=F5 Z.hm;refine Bool.eq_false_iff.mpr fun q=>?_;have e:C=tp:=Value.ref.inj (TD.mp q);subst e;have z:=(X _ _ ho).symm.trans htp;cases z
 ca:=fun X I k=>OX Z X I k
end
inductive xy (K:ν) (H:Hp):V->Value->Bool->Prop where
 | of {x:V} {t:Value} (h:fP K H x t):xy K H x t false
 | exc {ea C:Addr} {od:Option Addr} (e:H ea=some (mv ea C od)) (Z:gi K C):xy K H (.ref ea) (.ref C) true
inductive uf (K:ν) (H:Hp) (t:Value):Bool->V->Bool->Prop where
 | ty {f:Bool} {n:String} {b:Bool} (e:PySem.W.kitOne K t (.type n)=some b):uf K H t f (.ty n) b
 | cls {f:Bool} {a:Addr} {b:Bool} (e:PySem.W.kitOne K t (.ref a)=some b):uf K H t f (.ref a) b
 | tup {p:Addr} {cs:List V} {us:List Value} {b:Bool} (h:H p=some (.tup cs)) (hu:∀ ws,Vals cs ws->ws=us) (e:PySem.W.kitAny K t us=some b):uf K H t true (.ref p) b
section
variable {X:Cx} {K:ν}
def AM (K:ν):List V->Hp->VK->Prop:=fun xs H Q=>match xs with
 | [x,c]=>∃ (t:Value) (f b:Bool),xy K H x t f/\uf K H t f c b/\Q (.bl b) H
 | _=>False
def OF {x c:V} {u v t:Value} {π:List (Addr×Obj)} {σ:St} {H:Hp} {s:Shared} {A:Around} {E:Value->Shared->Prop} {Q:Value->Shared->Prop} {f b:Bool} (I:Inv X π σ H s) (rx:RelV x u) (rc:RelV c v) (ty:xy X.K H x t f) (a:uf X.K H t f c b)
  (h:∀ tk,Q (.bool b) { s with toks:=tk }):wpAny (model X.prog X.w) A (call (.builtin "isinstance") [u,v]) Q E s:=by
 cases ty with
 | of ty =>
  cases a with
  | ty e=>cases (show v=Value.type _ from rc); exact zY I rx ty e h
  | cls e=>cases (show v=Value.ref _ from rc); exact zY I rx ty e h
 | @exc ea C od e Z =>
  cases (show u=Value.ref ea from rx);obtain ⟨p,_,_⟩:=(show bG X.prog X.w H s.heap ea (mv ea C od) from I.ay ea _ e);cases a with
  | ty e'=>cases (show v=Value.type _ from rc); exact KK (Cf Z) I.bR p e' (fun z=>nomatch z) h
  | cls e'=>cases (show v=Value.ref _ from rc); exact KK (Cf Z) I.bR p e' (fun z=>nomatch z) h
  | @tup tp cs us b hp hu e' =>
   cases (show v=Value.ref tp from rc);obtain ⟨_,aq,rv,o,ho,hc,n,hd,_⟩:=(show bG X.prog X.w H s.heap tp (.tup cs) from I.ay tp _ hp);obtain rfl:=hu aq rv;obtain ⟨oc,odd,D9,dF⟩:=o;dsimp only at hc hd;subst hc hd;exact PySem.W.kia_tup (Cf Z) I.bR p ho e' (fun z=>nomatch z) h
def gf (h:X.K=K):cT X (.builtin "isinstance") (AM K):=h ▸ fun π s σ H xs us Q I r q=>by
 unfold AM at q;split at q
 ·rename_i x c;obtain ⟨t,f,b,ty,a,q⟩:=q;obtain ⟨u,v,rfl,ru,rv⟩:=vals2 r;exact OF I ru rv ty a fun tk=>⟨.bl b,H,I.tok tk,rfl,q⟩
 ·exact q.elim
end
namespace Dv
section
variable {X:Cx} {st:Stmt} {t:TS}
def cL {k:Nat} {f:Addr} {fd:FuncData} {ps:List Str} {sp:Sp} {bg:List V} {ds:List Value} {R:St->XK} {x:Str} {p pos:Pos} {e:Expr} {es:List Expr} {t:TA}
  (F:aA X.prog X.w X.K X.mg X.base (bI X.prog X.w) k f fd ps sp) (hr:bf k X.A) (hm:X.mg x=some (.ref f)) (hk:PySem.W.keepIn X.K (.ref f)=true) (hb:Binds X.K fd ps ds) (hd:Vals bg ds) (hx:gE X R)
  (ha:QA X (e::es) t) (hg:Gl X x:=by rfl) (hs:(e::es).all noStar=true:=by rfl) (bF:(x == ("__debug__" : Str))=false:=by decide):QE X (.Call (.Name x p) (e::es) [] pos) (wZ sp bg R t):=⟨aa4 F hr hg hm hk hb hd hx ha.h hs bF⟩
def mr {R:St->XK} {x:Str} {C:Addr} {e:Expr} {es:List Expr} {t:TA} {np bt pos:Pos} (hx:Raises X R) (hc:X.calm=true) (hm:X.mg x=some (.ref C)) (q:PySem.W.excIn X.K C sV "ValueError.__new__" = true) (ha:QA X (e::es) t)
  (hg:Gl X x:=by rfl) (hs:(e::es).all noStar=true:=by rfl) (bF:(x == ("__debug__" : Str))=false:=by decide):QS X (.Raise (some (.Call (.Name x np) (e::es) [] bt)) none pos) (Dj C R t):=⟨aaO hx hc hm q ha.h hg hs bF⟩
def Xb {K:ν} {Cc:Addr} (i:Nat) {n x:Str} {body px:List Stmt} {b₀:Stmt} {np hpos pos:Pos} {tb:(St->XK)->TS} {th:TS} (hK:X.K=K) (O:Own X) (hN:X.N.Nodup) (hm:X.mg x=some (.ref Cc))
  (c1:PySem.W.instIn X.K (.ref Cc) (.type "tuple")=some false) (c2:PySem.W.mroIn X.K Cc (.type "BaseException")=some true)
  (hb:∀ π R,QB (X.nR π R) body (tb R)) (hs:∀ v,QB (X.iZ v) (b₀::px) th) (hg:Gl X x:=by rfl) (hi:X.N[i]?=some n:=by rfl) (hn:X.env.scope.names.lookup n=some .local:=by rfl) (bF:(x == ("__debug__" : Str))=false:=by decide) :
  QS X (.Try body [.ExceptHandler (some (.Name x np)) (some n) (b₀::px) hpos] [] [] pos) (FC K Cc i tb th):=⟨O6 i hK O hN hm c1 c2 (fun π R=>(hb π R).h) (fun v=>(hs v).h) hg hi hn bF⟩
end
end Dv
def gn.dJ {P:Program} {w:World} {K:ν} {mg:Str->Option Value} {base:Heap} {CX:dX} {x qual:Str} {st:Stmt} {f:Addr} {fd:FuncData} {N ps:List Str} {k:Nat} {sp:Sp} (F:gn K x qual st f fd) (S:aF N ps (aB st)) (len:∀ vs H Q E,sp vs H Q E->vs.length=ps.length)
  (hb:∀ (ao:Value) (A:Around) (outer:List Env) (s:Shared) (H:Hp) (vs:List V) (Q:VK) (E:XK),bf k (A.deeper (envOfC qual (aB st) s.heap.objs.size f ao))->sp vs H Q E ->
   ∃ t,dH (en CX P w K mg base N qual (aB st) f ao A outer s H E) (bb st) t/\t { nx:=fun _ H'=>Q .aw H',rt:=Q } (start N vs) H):aA P w K mg base CX (k+1) f fd ps sp:=by
 obtain ⟨oc,od,kV,doc,pm,an,ao,ct,dF,rfl,lk,bQ⟩:=F.ex;exact wz lk bQ S len fun A outer s H vs Q E hr ef=>hb ao A outer s H vs Q E hr ef
def uC:List Value->Bool
 | []=>false
 | v::r=>(v::r) == sV || match v with
  | .ref _=>uC r
  | _=>false
def Jr (self:Value):∀ {l:List Value},uC l=true->refuseLoop self "__setattr__" l=pure ()
 | [],e=>nomatch e
 | v::r,e=>by
  unfold uC at e;rcases Bool.or_eq_true_iff.mp e with q | q
  ·rw [TD.mp q]; exact PySem.F.store_ValueError.passes self
  ·split at q
   ·rw [refuseLoop_ref];exact Jr self q
   ·cases q
def vF (K:ν) (C:Addr):Bool:=match K.lookup C with
 | some ⟨.type "type",_,.cls cd,sl⟩=>(match cd.mro,sl.toList with
  | .ref C'::bm,[_,_,_,_,some (.builtin n),_]=>C' == C && n == "ValueError.__new__" && !cd.hasDel && PySem.W.tailIn K sV bm && uC cd.mro && cd.hasDict
  | _,_=>false)
 | _=>false
structure gK (K:ν) (C f:Addr) (fld:Str):Prop where
 q:vF K C=true
 hi:PySem.W.findIn K (.ref C) "__init__" = some (some (.ref f))
 hf:PySem.W.typeIn K (.ref f)=some (.type "function")
 sa:PySem.W.findIn K (.ref C) "__setattr__" = some (some (.builtin "object.__setattr__"))
 na:PySem.W.findIn K (.ref C) fld=some none
 ob:PySem.W.mroIn K C (.type "object")=some true
 be:PySem.W.mroIn K C (.type "BaseException")=some true
 self:PySem.W.mroIn K C (.ref C)=some true
 kp:PySem.W.keepIn K (.ref C)=true
def xP {K:ν} {h:Heap} {C:Addr} (X:K.In h) (q:vF K C=true) :
  ∃ bm N nm q bs sn sub ab col dd k0 k1 k2 k3 k5,h.get? C=some (excClassObj nm q C N bs bm true sn sub ab col dd k0 k1 k2 k3 k5 "ValueError.__new__")/\OwnTail h sV bm/\uC (.ref C::bm)=true:=by
 unfold vF at q;split at q
 ·rename_i dd cd sl ho;split at q
  ·rename_i C' bm k0 k1 k2 k3 n k5 hm hs;simp only [zn,TD,_Q] at q;obtain ⟨⟨⟨⟨⟨q1,q2⟩,q3⟩,q4⟩,q5⟩,q6⟩:=q;subst q1 q2;obtain ⟨nm,bs,mro,ns,qn,hd,sn,sub,ab,col,del⟩:=cd;dsimp only at hm q3 q5 q6;subst hm q3 q6;have e1:sl=#[k0,k1,k2,k3,some (.builtin "ValueError.__new__"),k5]:=by
    obtain ⟨l⟩:=sl;simp only at hs;rw [hs]
   subst e1;exact ⟨bm,ns,nm,qn,bs,sn,sub,ab,col,dd,k0,k1,k2,k3,k5,X _ _ ho,PySem.W.tail_of_in X q4,q5⟩
  ·cases q
 ·cases q
section
variable {prog:Program} {w:World} {A:Around} {E:Value->Shared->Prop} {s:Shared} {K:ν} {x C f:Addr} {fld:Str} {v:Value}
open Builtin Builtin.ObjectAttr in
def Se {Q:Unit->Shared->Prop} (Z:gK K C f fld) (X:K.In s.heap) (I:dA x (.ref C) none s.heap)
  (h:∀ h' d tk,s.heap.objs.size<=d->d≠x->(∃ o,s.heap.get? x=some o/\h'.get? x=some { o with dict:=some d })->h'.Ns1 d (fun y=>if y=fld then some v else none)->(∀ b o,b≠x->s.heap.get? b=some o->h'.get? b=some o)->Q () { s with heap:=h',toks:=tk }) :
  wpAny (model prog w) A (setAttr (.ref x) fld v) Q E s:=by
 obtain ⟨hh,g,dr,t,os⟩:=s;have L0:=oA (M:=model prog w) I;have L1:=GM (M:=model prog w) X Z.sa;have L2:=GM (M:=model prog w) X Z.na;obtain ⟨bm,N,nm,qn,bs,sn,sub,ab,col,dd,k0,k1,k2,k3,k5,hC,T,MV⟩:=xP X Z.q;have Lo:=_f (M:=model prog w) X Z.ob;have Li:PySem.W.Looks (model prog w) hh (isInstance (.ref x) (.type "object")) true:=L0.andThen Lo;have SF:=PySem.F.store_object;refine lm (wpAny_mkText (lm (lm (lm (L0.at (L1.at (FS ?_)))))));rw [SF.slot.bind];refine lm (pi (lm (T0 ?_)));refine _a SF.slot.plain SF.entry ?_;refine @PySem.W.check_slot (model prog w) _ _ ⟨hh,g,dr,t+1,os⟩ "object.__setattr__" "object" "__setattr__" (.ref x) [.str fld t,v] [] _ SF.kind SF.split Li (SF.args (.ref x) (.str fld t) v) ?_;show wpAny _ _ (Builtin.«object.__setattr__» ⟨[.ref x,.str fld t,v],[]⟩) _ _ _;rw [PySem.W.osa_eq,refuse_eq];refine lm (lm (L0.at (lm (wpAny_mroOf_exc hC ?_))));rw [Jr _ MV];refine pi (lm (L0.at (lm (L2.at (lm (pi ?_))))));obtain ⟨o,hx,hc,jq,vs,eN⟩:=I;show wpAny _ _ (storeInOwnDict (.ref x) (.ref C) (.str fld t) fld v false) _ _ _;have Lc:PySem.W.Looks (model prog w) hh (classData C) _:=(_i (part:=none) hC).andThen .now;obtain ⟨oc,od,D9,dF⟩:=o;dsimp only at hc jq eN;subst hc jq eN;have bu:(hh.push { cls:=.type "dict",data:=.dict #[] }).get? x=some ⟨.ref C,none,.fields vs,dF⟩:=lv _ hx;have Fg:x≠hh.objs.size:=wS (ul hx);unfold storeInOwnDict ownDictForStores instanceDict;refine lm (pi ?_);refine lm (lm (_g hx (lm (Lc.at ?_))));refine lm (wpAny_alloc' ?_);refine lm (wpAny_update' bu (pi ?_));show wpAny _ _ (storeInDict hh.objs.size (.str fld t) fld v) _ _ _;have hself:((hh.push { cls:=.type "dict",data:=.dict #[] }).update x fun o=>{ o with dict:=some hh.objs.size }).get? x=some ⟨.ref C,some hh.objs.size,.fields vs,dF⟩:=Rs _ bu rfl;have hdict:((hh.push { cls:=.type "dict",data:=.dict #[] }).update x fun o=>{ o with dict:=some hh.objs.size }).get? hh.objs.size=some { cls:=.type "dict",data:=.dict #[] } :=
  (Heap.get?_update_ne _ _ _ _ Fg.symm).trans (Heap.get?_push_at rfl rfl)
 have hoth:∀ b o,b≠x->hh.get? b=some o->((hh.push { cls:=.type "dict",data:=.dict #[] }).update x fun o=>{ o with dict:=some hh.objs.size }).get? b=some o:=fun b o hb e =>
  (Heap.get?_update_ne _ _ _ _ hb).trans (lv _ e)
 have eB:((hh.push { cls:=.type "dict",data:=.dict #[] }).update x fun o=>{ o with dict:=some hh.objs.size }).Ns hh.objs.size (fun _=>none):=⟨_,#[],_,hdict,rfl,fun e he=>absurd he (by simp),fun _=>rfl⟩;unfold storeInDict newKeyGuard;refine lm (pi (lm (wpAny_nsSet1 (Heap.Ns1.of_empty eB) fun h' hn' hs=>?_)));obtain ⟨oD,esD,epD,EO,DF,E1⟩:=hn'.count (Within.cons fld v Within.nil);refine lm (wpAny_lookBehind EO (by rw [DF]; exact pastItsLine_dict (u8 E1 (by rw [Gc,_7,sizeLine_eq]; omega))) ?_);refine pi (pi (pi ?_));exact h h' hh.objs.size _ (sK _) (sB Fg) ⟨_,hx,(hs.2 x Fg).trans hself⟩ hn' fun b o hb e=>(hs.2 b (wS (ul e))).trans (hoth b o hb e)
end
def mH (e:Addr) (c:Value) (od:Option Addr) (h:Heap):Prop:=∃ o,h.get? e=some o/\o.cls=c/\o.dict=od/\∃ vs a0,o.data=.fields vs/\vs[1]?=some .none/\vs[0]?=some a0
def mH.hd {e:Addr} {c:Value} {od:Option Addr} {h:Heap} (x:mH e c od h):dA e c od h:=let ⟨o,a,b,c,vs,_,d,_⟩:=x; ⟨o,a,b,c,vs,d⟩
def dU (ea C:Addr) (od:Option Addr):HO:=.ext (mH ea (.ref C) od)
def G8 {P:Program} {w:World} {H:Hp} {h:Heap} {ea C:Addr} {od:Option Addr} (x:mH ea (.ref C) od h):bG P w H h ea (dU ea C od) :=
 ⟨x,let ⟨o,e,_⟩:=x; ⟨o,e⟩,fun _ _ ⟨o,e,r⟩ k=>⟨o,k o e,r⟩⟩
def WZ {h h':Heap} {e:Addr} {cls:Value} {args:List Value} (hx:Heap.MadeExcOf h h' e cls args):mH e cls none h':=by
 obtain ⟨t,he,_⟩:=hx.there;exact ⟨_,he,rfl,rfl,_,_,rfl,rfl,rfl⟩
def Bp (C:Addr) (fld:Str) (ta tv:TE):TS:=fun D σ H=>tv σ H fun y H1=>ta σ H1 fun x H2=>∃ ea,x=.ref ea/\H2 ea=some (dU ea C none)/\∀ d,H2 d=none->D.nx σ (upd (upd H2 ea (dU ea C (some d))) d (.xd [(fld,y)]))
def abi {fld g:Str} {y:V} {u:Value} (r:RelV y u):e9 (([(fld,y)]:List (Str×V)).lookup g) (if g=fld then some u else none):=by
 by_cases h:g=fld
 ·have hb:(g == fld)=true:=TD.mpr h;simp only [List.lookup,hb,AC h];exact r
 ·have hb:(g == fld)=false:=Fa.mpr h;simp only [List.lookup,hb,xL h];exact True.intro
section
variable {X:Cx} {C f:Addr} {fld:Str} {o value:Expr} {ta tv:TE} {pos pos':Pos}
def ab9 (Z:gK X.K C f fld) (ha:PE X o ta) (hv:PE X value tv) (hs:swapsWith value (some (.Attribute o fld pos')) pos.line X.env=pure false):PS X (.Assign [.Attribute o fld pos'] value pos) (Bp C fld ta tv):=by
 intro π s σ H D I h;refine plainObj_wpAny_Assign_Attribute (aC (hv π s σ H _ I h) fun u s1 ⟨y,H1,I1,ry,q⟩=>aC (ha π s1 σ H1 _ I1 q) fun ov s2 ⟨x,H2,I2,rx,ea,ex,he,q2⟩=>?_) hs;subst ex;obtain rfl:ov=Value.ref ea:=rx;obtain ⟨p,_,_⟩:=(show bG X.prog X.w H2 s2.heap ea (dU ea C none) from I2.ay ea _ he);refine Se Z I2.bR p.hd fun h' d tk hsz lT u3 eB hkeep=>?_;obtain ⟨o0,e0,e1⟩:=u3;obtain ⟨o0',e0',c0,d0,vs,a0,v0⟩:=p;rw [e0] at e0'; cases e0';have hd':mH ea (.ref C) (some d) h':=⟨_,e1,c0,rfl,vs,a0,v0⟩;have bW:H2 d=none:=I2.ay.fresh hsz;have J:Inv X π σ (upd H2 ea (dU ea C (some d))) { s2 with heap:=h',toks:=tk } :=
  I2.write (x:=ea) (e:=ea) (o:=dU ea C (some d)) (t':=tk) (by rw [he]; exact True.intro) (.inl rfl) hkeep ⟨_,e1⟩ (G8 hd')
 have big:∀ b,(∃ u,s2.heap.get? b=some u)->b≠d:=fun b ⟨u,e⟩ z=>absurd (ul e) (by rw [z]; exact Nat.not_lt.mpr hsz);refine ⟨σ,_,J.xF (a:=d) (o:=.xd [(fld,y)]) (by rw [aj lT]; exact bW) (WP (u8 I2.sz hsz)) ?_ ?_ ?_ ⟨_,eB,fun g=>abi ry⟩,q2 d bW⟩
 ·obtain ⟨m,⟨o,_,_,ho,_⟩,_⟩:=I2.loc;exact sB (big _ ⟨o,ho⟩)
 ·intro z c e;obtain ⟨w',o,ho,_⟩:=I2.cell z c e;exact big _ ⟨o,ho⟩
 ·intro p hp;exact big _ ⟨_,(I2.pin p hp).1⟩
end
def mm (C:Addr) (fld:Str):Sp:=fun vs H Q _=>match vs with
 | [.ref ea,y]=>H ea=some (dU ea C none)/\∀ d,H d=none->Q .aw (upd (upd H ea (dU ea C (some d))) d (.xd [(fld,y)]))
 | _=>False
section
variable {prog:Program} {w:World} {A:Around} {E:Value->Shared->Prop} {h:Heap} {g:Array GenState} {d:Drawn} {t:Nat} {os:OsState} {K:ν} {C f:Addr} {fld:Str}
def Tw {rest:List Value} {Q:Fin->Shared->Prop} (Z:gK K C f fld) (X:K.In h) (eA:rest.length<=sizeLine)
  (hq:∀ h' e,Heap.MadeExcOf h h' e (.ref C) rest->wpAny (model prog w) A (call (.ref f) (.ref e::rest)) (fun r s'=>r=.none/\Q (.done (.ret (.ref e))) s') E ⟨h',g,d,t,os⟩) :
  wpAny (model prog w) A (Builtin.«type.__call__» ⟨.ref C::rest,[]⟩) Q E ⟨h,g,d,t,os⟩:=by
 have F:=_B;obtain ⟨bm,N,nm,qn,bs,sn,sub,ab,col,dd,k0,k1,k2,k3,k5,hC,T,_⟩:=xP X Z.q
 repeat (first | with_reducible refine wpAny_loadPart_at hC ?_ | with_reducible refine wpAny_madeBy_exc hC ?_ | wp_step)
 refine codeAny_call_builtin_code (Jaf _ F.quiet) (wpAny_check_new_subT F T hC (codeAny_exc_new_subT F T hC ?_ eA));show wpAny _ _ _ _ _ _;have kk:∀ b o,h.get? b=some o->((h.push { cls:=.type "tuple",data:=.seq rest.toArray }).push { cls:=.ref C,data:=.fields #[.ref h.objs.size,.none,.none,.none,.bool false,.none] }).get? b=some o:=fun b o e=>lv _ (lv _ e);have Ng:((h.push { cls:=.type "tuple",data:=.seq rest.toArray }).push { cls:=.ref C,data:=.fields #[.ref h.objs.size,.none,.none,.none,.bool false,.none] }).get? (h.objs.size+1)=some { cls:=.ref C,data:=.fields #[.ref h.objs.size,.none,.none,.none,.bool false,.none] }:=by heap_get
 have M3:((h.push { cls:=.type "tuple",data:=.seq rest.toArray }).push { cls:=.ref C,data:=.fields #[.ref h.objs.size,.none,.none,.none,.bool false,.none] }).get? h.objs.size=some { cls:=.type "tuple",data:=.seq rest.toArray }:=lv _ (Heap.get?_push_at rfl rfl);generalize NY:(h.push { cls:=.type "tuple",data:=.seq rest.toArray }).push { cls:=.ref C,data:=.fields #[.ref h.objs.size,.none,.none,.none,.bool false,.none] }=h2 at kk Ng M3 ⊢;have made:Heap.MadeExcOf h h2 (h.objs.size+1) (.ref C) rest:=⟨kk,WP (_1 _),h.objs.size,Ng,WP (sK _),M3⟩;have X2:K.In h2:=fun b o e=>kk b o (X b o e);have L0:=oA (M:=model prog w) (JE made);have L1:=GM (M:=model prog w) X2 Z.hi;have Lb:=PySem.W.bind_fn (M:=model prog w) X2 (.ref (h.objs.size+1)) Z.hf;have Ls:PySem.W.Looks (model prog w) h2 (isSubtype (.ref C) (.ref C)) true:=_f X2 Z.self;have Li:PySem.W.Looks (model prog w) h2 (isInstance (.ref (h.objs.size+1)) (.ref C)) true:=L0.andThen Ls;refine lm (Li.at ?_);simp only [_F,IO,ZB];refine lm (FS ?_);unfold callSpecial? specialOf;refine lm (lm (L0.at (L1.at ?_)));refine FS (lm (Lb.at (lm (IN (hq h2 _ made) (fun r s' z=>?_) fun _ _ z=>z))));obtain ⟨rfl,z⟩:=z;exact pi (pi z)
def Zj {rest:List Value} {Q:Value->Shared->Prop} (Z:gK K C f fld) (X:K.In h) (eA:rest.length<=sizeLine)
  (hq:∀ h' e,Heap.MadeExcOf h h' e (.ref C) rest->wpAny (model prog w) (A.under (.builtin "type.__call__" ⟨.ref C::rest,[]⟩)) (call (.ref f) (.ref e::rest)) (fun r s'=>r=.none/\Q (.ref e) s') E ⟨h',g,d,t,os⟩) :
  wpAny (model prog w) A (call (.ref C) rest) Q E ⟨h,g,d,t,os⟩:=by
 obtain ⟨bm,N,nm,qn,bs,sn,sub,ab,col,dd,k0,k1,k2,k3,k5,hC,T,_⟩:=xP X Z.q;have f1:=tc_lookup;have f2:=tc_bind (.ref C);have hT:(⟨h,g,d,t,os⟩:Shared).TypeIs (.ref C) "type" := ⟨_,hC,rfl⟩;refine T0 (codeAny_of_tree ?_);show wpAny _ _ (callAny (.ref C) _) _ _ _
 repeat (any_goals (first | assumption | with_reducible refine wpAny_loadPart_at hC ?_ | wp_step))
 exact ⟨rfl,codeAny_call_builtin_at (Jaf _ (by decide +kernel)) entry_typeCall (wpAny_check_type_call_sub hC (Tw Z X eA fun h' e hm=>hq h' e hm))⟩
end
def YO {M:Model} {A:Around} {E:Value->Shared->Prop} {s:Shared} {env:Env} {K:ν} {C:Addr} {x:Sem Value} {Q:Flow->Shared->Prop} (hb:PySem.W.mroIn K C (.type "BaseException")=some true) (cy:PySem.W.typeIn K (.ref C)=some (.type "type")) (hh:A.handled=none)
  (h:wpAny M A x (fun v s₁=>∃ e o vs,v=.ref e/\s₁.heap.get? e=some o/\o.cls=.ref C/\o.data=.fields vs/\vs[1]?=some .none/\K.In s₁.heap/\E (.ref e) s₁) E s) :
  wpAny M A (raiseStmt env (some x) none) Q E s:=by
 unfold raiseStmt;refine lm (IN h (fun v s₁ h₁=>?_) fun _ _ x=>x);obtain ⟨e,o,vs,rfl,he,hc,hd,h1,X,hE⟩:=h₁;obtain ⟨hp,g,d,tk,os⟩:=s₁;have L0:PySem.W.Looks M hp (typeOf (.ref e)) (.ref C):=hc ▸ (_i he).andThen .now;have L1:=_f (M:=M) X hb;have L2:PySem.W.Looks M hp (isType (.ref e)) false:=by
  obtain ⟨oc,od,D9,dF⟩:=o;dsimp only at hd;subst hd;intro A' Q' E' s' k q;unfold isType loadHead;exact lm (_g (k _ _ he) (pi q))
 have L3:PySem.W.Looks M hp (isExcClass (.ref e)) false:=L2.andThen .now;have L4:PySem.W.Looks M hp (isInstance (.ref e) (.type "BaseException")) true:=L0.andThen L1;have L5:=PySem.W.looks_typeIn (M:=M) X cy;refine lm (pi (lm (FS ?_)));unfold excFromValue;refine lm (L3.at ?_);simp only [IO,ZB];refine lm (L4.at ?_);simp only [Ja7];refine pi ?_;refine lm (L2.at ?_);simp only [IO,ZB];unfold raisedInstance;refine lm (lm (L0.at (lm (L5.at ?_))));refine pi ?_;unfold setFlight;refine lm (lm (wpAny_field he hd h1 ?_));refine pi ?_;exact wpAny_raiseNew_none hh hE
def Ft {fs:List Addr} {H H':Hp} {h h1 base:Heap} (u:Un fs [] H H' h h1):∀ l:List Env,(∀ b∈bH l,b∈fs/\H b=none)->h.FunFrames base l->h1.FunFrames base l
 | [],_,_=>trivial
 | env::r,hs,⟨hk,⟨L,o,hf,hn,ho,hd⟩,hr⟩=>by
  have e:bH (env::r)=L::bH r:=by
   unfold bH;rw [_d,hf]
  obtain ⟨h1',h2'⟩:=hs L (by rw [e]; exact _m);obtain ⟨sl,e1⟩:=u.slot L o ho h2' h1' (by simp);exact ⟨hk,⟨L,_,hf,hn,e1,hd⟩,Ft u r (fun b hb=>hs b (by rw [e]; exact GE _ hb)) hr⟩
section
variable {X:Cx} {π:List (Addr×Obj)} {σ:St} {H H':Hp} {s s1:Shared} {ea C:Addr} {od:Option Addr}
def Inv.Tc {M:Model} {A:Around} {E:Value->Shared->Prop} (I:Inv X π σ H s) (O:Own X) (hA:A.frames=some X.stack) (os:s1.os=s.os) (bare:AllBare s1.gens) (un:Un (bH X.stack) [] H H' s.heap s1.heap) (ay:cj X.prog X.w H' s1.heap)
  (free:H' ea=none) (new:s.heap.get? ea=none) (hn:mH ea (.ref C) od s1.heap):wpAny M A (leaving X.env (.ref ea)) (fun _ s''=>nZ X.prog X.w X.outer X.H₀ X.s₀ ea C od H' s'') E s1:=by
 have aM:(PySem.W.hideAll s1.heap (ea::bH X.stack)).StaysIn s1.heap:=fun b o q=>Ja8 _ q;have lQ:s1.heap.FunFrames (PySem.W.hideAll s1.heap (ea::bH X.stack)) X.stack:=PySem.W.funFrames_hide (Ft un X.stack (fun b hb=>⟨hb,I.wW b hb⟩) I.stack) fun env he a ha=>GE _ (_J.mpr ⟨env,he,ha⟩);have DH:(PySem.W.hideAll s1.heap (ea::bH X.stack)).get? ea=none:=PySem.W.hideAll_none _ _m;have gO:ug (PySem.W.hideAll s1.heap (ea::bH X.stack)) (bH X.stack) s.heap H' s1.heap:=fun b o e hb z=>by
  refine _9 _ e fun hm=>?_;rcases mo.mp hm with q | q
  ·rcases z with ⟨u,z⟩ | ⟨u,z⟩
   ·rw [q,new] at z; cases z
   ·rw [q,free] at z; cases z
  ·exact hb q
 generalize PySem.W.hideAll s1.heap (ea::bH X.stack)=B at aM lQ DH gO;rw [O.dB] at lQ hA;obtain ⟨oe,he,hc,xY,vs,a0,hd,h1,h0⟩:=id hn;refine aC ((Kp.leaving X.env (.ref ea)).any hn.hd (wpAny_leaving_firstW (Q:=fun _ s''=>∃ h2,s''={ s1 with heap:=h2 }/\Heap.LeftW B (X.env::X.outer) ea oe.cls a0 s1.heap h2) hA lQ O.frame he aM DH hd h1 h0 fun h2 x=>⟨h2,rfl,x⟩)) fun _ s'' ⟨⟨h2,e,k1,⟨_,_,k2⟩,k3,k4⟩,hd2⟩=>?_;subst e;rw [hc] at k3;exact I.Cb (s':={ s1 with heap:=h2 }) O os bare un ay free new gO ⟨k1,DH,k2,k3⟩ k4 hd2
structure Df (X:Cx) (R:St->XK):Prop where
 made:∀ (π:List (Addr×Obj)) (σ:St) (H H':Hp) (s s1:Shared) (ea C:Addr) (od:Option Addr),Inv X π σ H s->s1.os=s.os->AllBare s1.gens->Un (bH X.stack) [] H H' s.heap s1.heap->cj X.prog X.w H' s1.heap->H' ea=none->s.heap.get? ea=none ->
  mH ea (.ref C) od s1.heap->R σ (.ref C) od H'->X.xe (.ref ea) s1
end
def vC {P:Program} {w:World} {K:ν} {mg:Str->Option Value} {base:Heap} {N:List Str} {qual:Str} {scope:Scope} {f:Addr} {cd:Value} {A:Around} {outer:List Env} {s₀:Shared} {H₀:Hp} {E:XK} :
  Df (en (bI P w) P w K mg base N qual scope f cd A outer s₀ H₀ E) (fun _=>E) where
 made:=fun π σ H H' s s1 ea C od I os bare un ay free new hn hE=>aC (I.Tc ⟨rfl,rfl,rfl⟩ I.ok.frames os bare un ay free new hn) fun _ s'' z=>⟨ea,C,od,H',rfl,z,hE⟩
def BZ (C:Addr) (fld:Str) (R:St->XK) (t:TA):TS:=fun _ σ H=>t σ H fun vs H1=>∃ v,vs=[v]/\∀ d,H1 d=none->R σ (.ref C) (some d) (upd H1 d (.xd [(fld,v)]))
def PX {X:Cx} {R:St->XK} {x fld:Str} {C f:Addr} {fd:FuncData} {k:Nat} {ps:List Str} {e:Expr} {es:List Expr} {t:TA} {np bt pos:Pos} (hx:Df X R) (hex:X.ex=[]) (hc:X.calm=true) (hm:X.mg x=some (.ref C)) (Z:gK X.K C f fld) (cy:PySem.W.typeIn X.K (.ref C)=some (.type "type"))
  (F:aA X.prog X.w X.K X.mg X.base aN k f fd ps (mm C fld)) (hr:bf (k+1) X.A) (hb:Binds X.K fd ps []) (ha:PA X (e::es) t)
  (hg:Gl X x:=by rfl) (hs:(e::es).all noStar=true:=by rfl) (bF:(x == ("__debug__" : Str))=false:=by decide):PS X (.Raise (some (.Call (.Name x np) (e::es) [] bt)) none pos) (BZ C fld R t):=by
 have hs':=hs;rw [KM,zn] at hs';intro π s σ H D I h;rw [arm_exec_Raise];refine lm (_Y ?_);show wpAny _ _ (raiseStmt X.env (some (do let v <- eval (.Call (.Name x np) (e::es) [] bt) X.env; standAt pos; pure v)) none) _ _ s;refine YO Z.be cy (I.ok.hd hc) (lm (IN (FB (jW I hg hm ?_ bF)) (fun v s3 h3=>lm (_Y (pi h3))) fun _ _ z=>z));refine SC (h₀:=X.base) I.ok.mod.iH Z.kp (aC (ha bt π s σ H _ I h) fun us s2 ⟨vs,H2,I2,r,v,ev,hR⟩=>⟨I2.bR,?_⟩) (fM hs'.1) (iE hs'.2);subst ev;obtain ⟨u,rfl,ru⟩:=vals1 r;obtain ⟨h2,g2,d2,t2,yt⟩:=s2;refine Zj Z I2.bR (by show 1<=sizeLine; decide) fun h3 ex nv=>?_;have f9:∀ b,(∃ o,h2.get? b=some o)->b≠ex:=fun b ⟨o,e'⟩ z=>by
  have:=nv.new;rw [z,this] at e'; cases e'
 have mZ:H2 ex=none:=by
  cases q:H2 ex with
  | none=>rfl
  | some o=>exact absurd rfl (f9 ex (I2.ay ex o q).there)
 have I3:Inv X π σ H2 ⟨h3,g2,d2,t2,yt⟩:=I2.kept (t':=t2) nv.keeps;have I4:Inv X π σ (upd H2 ex (dU ex C none)) ⟨h3,g2,d2,t2,yt⟩:=by
  refine I3.xF mZ ?_ ?_ ?_ ?_ (G8 (WZ nv))
  ·cases q:X.s₀.heap.get? ex with
   | none=>rfl
   | some o =>
    exact absurd rfl (f9 ex (I2.base.there ex o q (by rw [hex]; simp)))
  ·obtain ⟨m,⟨o,_,_,ho,_⟩,_⟩:=I2.loc;exact sB (f9 _ ⟨o,ho⟩)
  ·intro y c e';obtain ⟨w',o,ho,_⟩:=I2.cell y c e';exact f9 _ ⟨o,ho⟩
  ·intro p hp;exact f9 _ ⟨_,(I2.pin p hp).1⟩
 have hl:([Value.ref ex,u]++([]:List Value)).length=ps.length:=by
  have:=F.len [.ref ex,v] (upd H2 ex (dU ex C none)) (fun _ _=>True) E0 ⟨au,fun _ _=>True.intro⟩;exact this
 refine T0 (XV (F.run (X.A.under (.builtin "type.__call__" ⟨[.ref C,u],[]⟩)) X.stack ⟨h3,g2,d2,t2,yt⟩ (upd H2 ex (dU ex C none)) ⟨[.ref ex,u],[]⟩ [.ref ex,u] [.ref ex,v]
  (fun r H5=>r=.aw/\∃ d,upd H2 ex (dU ex C none) d=none/\H5=upd (upd (upd H2 ex (dU ex C none)) ex (dU ex C (some d))) d (.xd [(fld,v)])) E0 (hr.make C [u] []) (I4.qH.make C [u] []) (hb _ [.ref ex,u] I4.bR hl) (.cons rfl (.cons ru .nil))
  ⟨au,fun d hd=>⟨rfl,d,hd,rfl⟩⟩) fun r s5 hq=>?_)
 cases r with
 | error e'=>exact False.elim hq
 | ok fl =>
  cases fl with
  | next=>exact False.elim hq
  | brk=>exact False.elim hq
  | cont=>exact False.elim hq
  | ret u5 =>
   obtain ⟨v5,H5,os5,bare5,mY,Er,rv5,rfl,d,rF,rfl⟩:=hq;have lT:d≠ex:=fun z=>by rw [z,au] at rF; cases rF
   have hd2:H2 d=none:=by rw [aj lT] at rF; exact rF
   have e5:upd (upd (upd H2 ex (dU ex C none)) ex (dU ex C (some d))) d (.xd [(fld,v)]) ex=some (dU ex C (some d)):=by rw [aj (sB lT),au]
   have e6:∀ b,b≠ex->upd (upd (upd H2 ex (dU ex C none)) ex (dU ex C (some d))) d (.xd [(fld,v)]) b=upd H2 d (.xd [(fld,v)]) b:=fun b hb=>by
    by_cases q:b=d
    ·rw [q,au,au]
    ·rw [aj q,aj hb,aj hb,aj q]
   have e7:upd H2 d (.xd [(fld,v)]) ex=none:=by rw [aj (sB lT)]; exact mZ
   have e4:∀ b,b≠ex->upd H2 ex (dU ex C none) b=H2 b:=fun b hb=>aj hb;generalize upd (upd (upd H2 ex (dU ex C none)) ex (dU ex C (some d))) d (.xd [(fld,v)])=H5 at mY Er e5 e6;obtain ⟨hN,_,_⟩:=(show bG X.prog X.w H5 s5.heap ex (dU ex C (some d)) from Er ex _ e5);have rE:∀ b o,H2 b=some o->b≠ex:=fun b o q=>gv q mZ;have Nx:Un (bH X.stack) [] H2 (upd H2 d (.xd [(fld,v)])) h2 s5.heap:=by
    refine ⟨fun b o q n hb hx=>?_,fun b o q n hb hx=>?_,fun b o q n hx=>?_,fun b o q hx=>?_,fun b xs q=>?_,fun b o v' q=>?_,fun b ps' q=>?_⟩
    ·exact mY.keep b o (nv.keeps b o q) (by rw [e4 b (f9 b ⟨o,q⟩)]; exact n) hb hx
    ·exact mY.slot b o (nv.keeps b o q) (by rw [e4 b (f9 b ⟨o,q⟩)]; exact n) hb hx
    ·rw [<- e6 b (f9 b ⟨o,q⟩)];exact mY.free b o (nv.keeps b o q) (by rw [e4 b (f9 b ⟨o,q⟩)]; exact n) hx
    ·exact mY.there b o (nv.keeps b o q) hx
    ·rw [<- e6 b (rE b _ q)];exact mY.gb b xs (by rw [e4 b (rE b _ q)]; exact q)
    ·rw [<- e6 b (rE b _ q)];exact mY.fR b o v' (by rw [e4 b (rE b _ q)]; exact q)
    ·rw [<- e6 b (rE b _ q)];exact mY.gm b ps' (by rw [e4 b (rE b _ q)]; exact q)
   have hokF:cj X.prog X.w (upd H2 d (.xd [(fld,v)])) s5.heap:=fun b o q=>by
    have hb:b≠ex:=fun z=>by rw [z,e7] at q; cases q
    have q5:H5 b=some o:=by rw [e6 b hb]; exact q
    have ne5:∀ c o',H5 c=some o'->o'≠dU ex C (some d)->c≠ex:=fun c o' z1 z2 z=>by rw [z,e5] at z1; exact z2 (Go z1).symm
    refine (Er b o q5).gS (fun _ _ _ z=>z) (fun c z=>?_) fun c xs z=>?_
    ·rw [<- e6 c (ne5 c _ z (fun z'=>by cases z'))]; exact z
    ·rw [<- e6 c (ne5 c _ z (fun z'=>by cases z'))]; exact z
   obtain ⟨oe,he,yl,xY,vs',a0,nj,h1,h0⟩:=id hN;refine ⟨rv5,ex,oe,vs',rfl,he,yl,nj,h1,?_,hx.made π σ H2 _ ⟨h2,g2,d2,t2,yt⟩ s5 ex C (some d) I2 os5 bare5 Nx hokF e7 nv.new hN (hR d hd2)⟩;exact I2.ok.mod.iH.keeps fun b o z=>Nx.keep b o (I2.bs b o z).1 (I2.bs b o z).2 (fun hb=>by have:=(I2.stack.mem hb).1; rw [z] at this; cases this) (by simp)
section
variable {prog:Program} {w:World} {A:Around} {E:Value->Shared->Prop} {s:Shared} {K:ν} {x C f d:Addr} {fld:Str}
open Builtin Builtin.ObjectAttr in
def Um {M:Model} {h:Heap} {mA:Str->Option Value} {u:Value} (Z:gK K C f fld) (X:K.In h) (I:dA x (.ref C) (some d) h) (hn:h.Ns1 d mA) (hu:mA fld=some u):PySem.W.Looks M h (find (.ref x) (.ref C) fld) (.value u):=by
 have L1:=GM (M:=M) X Z.na;obtain ⟨bm,N,nm,qn,bs,sn,sub,ab,col,dd,k0,k1,k2,k3,k5,hC,T,MV⟩:=xP X Z.q;have Lc:PySem.W.Looks M h (classData C) _:=(_i (part:=none) hC).andThen .now;obtain ⟨o,hx,hc,jq,vs,eN⟩:=I;obtain ⟨oc,od,D9,dF⟩:=o;dsimp only at hc jq eN;subst hc jq eN;intro A' Q' E' s' k q;unfold find;refine lm (L1 _ _ _ _ k ?_);refine lm (pi (lm (pi ?_)));show wpAny M A' (ownThenClass (.ref x) fld none none) Q' E' s';unfold ownThenClass inOwnDict ownDict;refine lm (lm (lm (_g (k _ _ hx) ?_)));show wpAny M A' (instanceDict x false) _ E' s';unfold instanceDict;refine lm (_g (k _ _ hx) (lm (Lc _ _ _ _ k ?_)));refine pi (a:=some d) ?_;show wpAny M A' (nsGet d fld) _ E' s';refine wpAny_nsGet (hn.ns.keeps k) ?_;rw [hu];exact lm (wpAny_rule (pi q))
def ZG {v:V} {u:Value} (r:RelV v u):handedOut u=pure u:=by
 cases v <;> first
  | (cases r; rfl)
  | (obtain ⟨t,rfl⟩:=r; rfl)
def Qg {b:Bool} {Q:Value->Shared->Prop} {mA:Str->Option Value} {u:Value} (Z:gK K C f fld) (ZK:gi K C) (X:K.In s.heap) (I:dA x (.ref C) (some d) s.heap) (hn:s.heap.Ns1 d mA) (hu:mA fld=some u) (hh:handedOut u=pure u)
  (h:Q u { s with toks:=s.toks+1 }):wpAny (model prog w) A (getAttr (.ref x) fld b) Q E s:=by
 obtain ⟨hp,g,dr,t,os⟩:=s;have L0:=oA (M:=model prog w) I;have L1:=GM (M:=model prog w) X ZK.BQ;have L2:=GM (M:=model prog w) X ZK.HU;have L3:=Um (M:=model prog w) Z X I hn hu;unfold getAttr getAttrBy;refine lm (wpAny_mkText (FS (lm (L0.at (lm (L1.at ?_))))));show wpAny _ _ (getAttrByItsOwn (.ref x) (.str fld t) (.ref C) (.builtin "BaseException.__getattribute__") true b) _ _ _;unfold getAttrByItsOwn;refine lm (L2.at ?_);refine lm (_Z (FS ?_));have ec:callGetattribute (.ref x) (.str fld t) (.builtin "BaseException.__getattribute__") b=boundAndCalled (.builtin "BaseException.__getattribute__") (.ref x) (.str fld t):=by
  unfold callGetattribute;cases b <;> rfl
 rw [ec];unfold boundAndCalled;refine lm (wpAny_of_eq (_j.ga.bind (.ref x)) ?_);refine T0 (_a _j.ga.plain PySem.F.entry_bexc_ga (JW ZK X I ?_));show wpAny _ _ (Builtin.«object.__getattribute__» ⟨[.ref x,.str fld t],[]⟩) _ _ _;unfold Builtin.«object.__getattribute__»;refine lm (pi (lm (pi (lm (L0.at (lm (L3.at ?_)))))));refine pi ?_;show wpAny _ _ (handedOut u) _ _ _;rw [hh];exact pi h
end
def y4 (C:Addr) (fld:Str) (ta:TE):TE:=fun σ H Q=>ta σ H fun x H1=>∃ ea d fs v,x=.ref ea/\H1 ea=some (mv ea C (some d))/\H1 d=some (.xd fs)/\fs.lookup fld=some v/\Q v H1
def Ql {X:Cx} {C f:Addr} {fld:Str} {e:Expr} {ta:TE} {pos:Pos} (Z:gK X.K C f fld) (ZK:gi X.K C) (he:PE X e ta) (hb:attributeBase e fld X.env (eval e X.env)=eval e X.env):PE X (.Attribute e fld pos) (y4 C fld ta):=by
 intro π s σ H Q I h;refine G3 hb (aC (he π s σ H _ I h) fun u s1 ⟨x,H1,I1,rx,ea,d,fs,v,ex,h1,h2,hl,q⟩=>?_);subst ex;obtain rfl:u=Value.ref ea:=rx;obtain ⟨p,_,_⟩:=(show bG X.prog X.w H1 s1.heap ea (mv ea C (some d)) from I1.ay ea _ h1);obtain ⟨mA,eB,hrel⟩:=(show bG X.prog X.w H1 s1.heap d (.xd fs) from I1.ay d _ h2);have hr:=hrel fld;rw [hl] at hr;cases hm:mA fld with
 | none=>rw [hm] at hr; exact hr.elim
 | some u' =>
  rw [hm] at hr;exact Qg Z ZK I1.bR p eB hm (ZG hr) ⟨v,H1,I1.tok _,hr,q⟩
inductive FI (C:Addr) (f:Str) (x:V) (H:Hp) (Q:V->Prop):Prop
 | mk:∀ a dx fs v,x=.ref a->H a=some (.ins C dx fs)->fs.lookup f=some v->Q v->FI C f x H Q
inductive SI (C:Addr) (f:Str) (x y:V) (H:Hp) (R:Hp->Prop):Prop
 | mk:∀ a dx fs,x=.ref a->H a=some (.ins C dx fs)->fs.length < 1000->R (upd H a (.ins C dx (ax f y fs)))->SI C f x y H R
inductive AI (C:Addr) (f:Str) (x:V) (H:Hp) (Q:Addr->V->Prop):Prop
 | mk:∀ a dx fs v,x=.ref a->H a=some (.ins C dx fs)->fs.lookup f=some v->Q a v->AI C f x H Q
inductive BI (C:Addr) (f:Str) (a:Addr) (z:V) (H:Hp) (R:Hp->Prop):Prop
 | mk:∀ dx fs,H a=some (.ins C dx fs)->fs.length < 1000->R (upd H a (.ins C dx (ax f z fs)))->BI C f a z H R
def wJ (C:Addr) (f:Str) (ta:TE):TE:=fun σ H Q=>ta σ H fun x H1=>FI C f x H1 fun v=>Q v H1
def tZ (C:Addr) (f:Str) (ta tv:TE):TS:=fun D σ H=>tv σ H fun y H1=>ta σ H1 fun x H2=>SI C f x y H2 fun H3=>D.nx σ H3
def Bx (C:Addr) (f:Str) (ta tv:TE) (rd:R2):TS:=fun D σ H=>ta σ H fun x H1=>AI C f x H1 fun a v=>tv σ H1 fun y H2=>rd v y H2 fun z H3=>BI C f a z H3 fun H4=>D.nx σ H4
def Bw (C:Addr) (m:Str) (sp:Sp) (bg:List V) (R:St->XK) (ta:TE) (t:TA):TE:=fun σ H Q=>ta σ H fun x H1=>MI C m x H1 (t σ H1 fun vs H2=>sp (x::(vs++bg)) H2 Q (R σ))
section
variable {X:Cx} {k:Nat} {f C:Addr} {fd:FuncData} {ps:List Str} {sp:Sp} {bg:List V} {ds:List Value} {R:St->XK} {x m:Str} {p pos apos:Pos} {e o:Expr} {es:List Expr} {ta:TE} {t:TA}
def VL {pl:Sem Bool} (he:PE X o ta) (c:df X.K C) (hm:Meth X.K C m f) (F:aA X.prog X.w X.K X.mg X.base (bI X.prog X.w) k f fd ps sp) (hr:bf k X.A) (hb:Binds X.K fd ps ds) (hd:Vals bg ds) (hx:gE X R) (ha:PA X (e::es) t) (hs:(e::es).all noStar=true:=by rfl)
  (ht:eval (.Call (.Attribute o m apos) (e::es) [] pos) X.env=(do
   let ov <- eval o X.env
   standAt apos.atName
   let (f,first) <- holding [ov] (getMethod ov m pl)
   callWith pos f first (backTo pos (starEach (e::es) X.env)) (backToKw pos (keywordEach [] X.env))):=by rfl):PE X (.Call (.Attribute o m apos) (e::es) [] pos) (Bw C m sp bg R ta t):=by
 have hs':=hs;rw [KM,zn] at hs';intro π s σ H Q I h;refine _S (pl:=pl) (aC (he π s σ H _ I h) fun u s1 ⟨x,H1,I1,rx,a,dx,fs,ex,ea,l,q⟩=>?_) ht;subst ex;obtain rfl:u=Value.ref a:=rx;refine yR I1 ea c hm l (SC (first:=[.ref a]) (h₀:=X.base) I.ok.mod.iH hm.kp (aC (ha pos π s1 σ H1 _ I1 q) fun us s2 ⟨vs,H2,I2,r,q2⟩=>⟨I2.bR,?_⟩) (fM hs'.1) (iE hs'.2));exact Dl (us:=.ref a::us) (vs:=.ref a::vs) F hr hb hd hx I2 (.cons rfl r) q2
end
section
variable {X:Cx} {C:Addr} {f:Str} {e o value:Expr} {ta tv:TE} {pos pos' rN:Pos}
def QR (c:df X.K C) (n:bC X.K C f) (he:PE X e ta) (hb:attributeBase e f X.env (eval e X.env)=eval e X.env):PE X (.Attribute e f pos) (wJ C f ta):=by
 intro π s σ H Q I h;refine G3 hb (aC (he π s σ H _ I h) fun u s1 ⟨x,H1,I1,rx,a,dx,fs,v,ex,ea,l,q⟩=>?_);subst ex;obtain rfl:u=Value.ref a:=rx;exact HM I1 ea c n l fun u' s2 I2 ru=>⟨v,H1,I2,ru,q⟩
def SO (c:df X.K C) (n:bC X.K C f) (ha:PE X o ta) (hv:PE X value tv) (hs:swapsWith value (some (.Attribute o f pos')) pos.line X.env=pure false):PS X (.Assign [.Attribute o f pos'] value pos) (tZ C f ta tv):=by
 intro π s σ H D I h;refine plainObj_wpAny_Assign_Attribute (aC (hv π s σ H _ I h) fun u s1 ⟨y,H1,I1,ry,q⟩=>aC (ha π s1 σ H1 _ I1 q) fun ov s2 ⟨x,H2,I2,rx,a,dx,fs,ex,ea,l,q2⟩=>?_) hs;subst ex;obtain rfl:ov=Value.ref a:=rx;exact LG I2 ea c n l ry fun s3 I3=>⟨σ,_,I3,q2⟩
def Sw {op:Operator} {rd:R2} (c:df X.K C) (n:bC X.K C f) (ha:PE X o ta) (hv:PE X value tv) (EH:Cw X op rd):PS X (.AugAssign (.Attribute o f rN) op value pos) (Bx C f ta tv rd):=by
 intro π s σ H D I h;refine wpAny_AugAssign_AttributeAny (aC (ha π s σ H _ I h) fun ov s1 ⟨x,H1,I1,rx,a,dx,fs,v,ex,ea,l,q⟩=>?_);subst ex;obtain rfl:ov=Value.ref a:=rx;refine HM I1 ea c n l fun u s2 I2 ru=>aC (hv π s2 σ H1 _ I2 q) fun w3 s3 ⟨y,H2,I3,ry,q3⟩=>aC (EH π s3 σ H2 v y u w3 _ I3 ru ry q3) fun w4 s4 ⟨z,H3,I4,rz,dx',fs',ea',l',q4⟩=>?_;exact LG I4 ea' c n l' rz fun s5 I5=>⟨σ,_,I5,q4⟩
end
def GC {X:Cx} {op:CmpOp} {a b:Expr} {t:TE} {pos:Pos} (h:PC X op a b t) (hm:behindInMarks op b=false:=by first | exact xv _ (by decide) (by decide) | rfl):PT X (.Compare a [op] [b] pos) (mU t):=by
 intro π s σ H Q I hw;refine wpAny_isTrue_Compare1 (aC (h π s σ H _ I hw) fun v s1 h1=>aC h1 fun u s2 h2=>aC h2 fun c s3 ⟨x,H1,I1,r1,q1⟩=>?_) hm;obtain ⟨k,rfl,q⟩:=BS q1;cases r1;exact Op ⟨H1,I1,q⟩
namespace Dv
section
variable {X:Cx} {a b o e i value:Expr} {ta tb td ty tv:TE} {es:List Expr} {t:TA} {pos pos' apos bt p rN:Pos} {f C:Addr} {fn m x:Str} {k:Nat} {fd:FuncData} {ps:List Str} {sp:Sp} {bg:List V} {ds:List Value} {R:St->XK} {CX:dX} {E:XK} {tA:TT} {body:List Stmt} {tB:TS}
def fld (c:df X.K C) (n:bC X.K C fn) (he:QE X e ta) (hb:attributeBase e fn X.env (eval e X.env)=eval e X.env:=by rfl):QE X (.Attribute e fn pos) (wJ C fn ta):=⟨QR c n he.h hb⟩
def bA (c:df X.K C) (n:bC X.K C fn) (ha:QE X o ta) (hv:QE X value tv) (hs:swapsWith value (some (.Attribute o fn pos')) pos.line X.env=pure false:=by rfl):QS X (.Assign [.Attribute o fn pos'] value pos) (tZ C fn ta tv):=⟨SO c n ha.h hv.h hs⟩
def mJ {op:Operator} {rd:R2} (c:df X.K C) (n:bC X.K C fn) (EH:Cw X op rd) (ha:QE X o ta) (hv:QE X value tv):QS X (.AugAssign (.Attribute o fn rN) op value pos) (Bx C fn ta tv rd):=⟨Sw c n ha.h hv.h EH⟩
def KL (Z:gK X.K C f fn) (ZK:gi X.K C) (he:QE X e ta) (hb:attributeBase e fn X.env (eval e X.env)=eval e X.env:=by rfl):QE X (.Attribute e fn pos) (y4 C fn ta):=⟨Ql Z ZK he.h hb⟩
def JK (Z:gK X.K C f fn) (ha:QE X o ta) (hv:QE X value tv) (hs:swapsWith value (some (.Attribute o fn pos')) pos.line X.env=pure false:=by rfl):QS X (.Assign [.Attribute o fn pos'] value pos) (Bp C fn ta tv):=⟨ab9 Z ha.h hv.h hs⟩
def bw {pl:Sem Bool} (c:df X.K C) (hm:Meth X.K C m f) (F:aA X.prog X.w X.K X.mg X.base CX k f fd ps sp) (hr:bf k X.A) (hb:Binds X.K fd ps ds) (hd:Vals bg ds) (hx:Passes CX X E) (ho:QE X o ta) (ha:QA X (e::es) t) (hs:(e::es).all noStar=true:=by rfl)
  (ht:eval (.Call (.Attribute o m apos) (e::es) [] pos) X.env=(do
   let ov <- eval o X.env
   standAt apos.atName
   let (f,first) <- holding [ov] (getMethod ov m pl)
   callWith pos f first (backTo pos (starEach (e::es) X.env)) (backToKw pos (keywordEach [] X.env))):=by rfl):QE X (.Call (.Attribute o m apos) (e::es) [] pos) (qU C m sp bg E ta t):=by
 have hs':=hs;rw [KM,zn] at hs';exact ⟨abP ho.h c hm F hr hb hd hx ha.h (fM hs'.1) (iE hs'.2) ht⟩
def my {pl:Sem Bool} (c:df X.K C) (hm:Meth X.K C m f) (F:aA X.prog X.w X.K X.mg X.base CX k f fd ps sp) (hr:bf k X.A) (hb:Binds X.K fd ps ds) (hd:Vals bg ds) (hx:Passes CX X E) (ho:QE X o ta)
  (ht:eval (.Call (.Attribute o m apos) [] [] pos) X.env=(do
   let ov <- eval o X.env
   standAt apos.atName
   let (f,first) <- holding [ov] (getMethod ov m pl)
   callWith pos f first (backTo pos (starEach [] X.env)) (backToKw pos (keywordEach [] X.env))):=by rfl):QE X (.Call (.Attribute o m apos) [] [] pos) (qU C m sp bg E ta jE):=⟨abU ho.h c hm F hr hb hd hx ht⟩
def eE {pl:Sem Bool} (c:df X.K C) (hm:Meth X.K C m f) (F:aA X.prog X.w X.K X.mg X.base (bI X.prog X.w) k f fd ps sp) (hr:bf k X.A) (hb:Binds X.K fd ps ds) (hd:Vals bg ds) (hx:gE X R) (ho:QE X o ta) (ha:QA X (e::es) t) (hs:(e::es).all noStar=true:=by rfl)
  (ht:eval (.Call (.Attribute o m apos) (e::es) [] pos) X.env=(do
   let ov <- eval o X.env
   standAt apos.atName
   let (f,first) <- holding [ov] (getMethod ov m pl)
   callWith pos f first (backTo pos (starEach (e::es) X.env)) (backToKw pos (keywordEach [] X.env))):=by rfl):QE X (.Call (.Attribute o m apos) (e::es) [] pos) (Bw C m sp bg R ta t):=⟨VL ho.h c hm F hr hb hd hx ha.h hs ht⟩
def make (M:Mk X.K C f) (F:aA X.prog X.w X.K X.mg X.base CX k f fd ps sp) (hr:bf (k+1) X.A) (hm:X.mg x=some (.ref C)) (hb:Binds X.K fd ps ds) (hd:Vals bg ds) (hx:Passes CX X E) (ha:QA X (e::es) t) (hg:Gl X x:=by rfl) (hs:(e::es).all noStar=true:=by rfl) (bF:(x == ("__debug__" : Str))=false:=by decide) :
  QE X (.Call (.Name x p) (e::es) [] pos) (tE C sp bg E t):=by
 have hs':=hs;rw [KM,zn] at hs';exact ⟨YD M F hr hg hm hb hd hx ha.h bF (fM hs'.1) (iE hs'.2)⟩
def XR (M:Mk X.K C f) (F:aA X.prog X.w X.K X.mg X.base CX k f fd ps sp) (hr:bf (k+1) X.A) (hm:X.mg x=some (.ref C)) (hb:Binds X.K fd ps ds) (hd:Vals bg ds) (hx:Passes CX X E) (hg:Gl X x:=by rfl) (bF:(x == ("__debug__" : Str))=false:=by decide) :
  QE X (.Call (.Name x p) [] [] pos) (tE C sp bg E jE):=⟨Ye M F hr hg hm hb hd hx bF⟩
def xk (hx:Df X R) (hex:X.ex=[]) (hc:X.calm=true) (hm:X.mg x=some (.ref C)) (Z:gK X.K C f fn) (cy:PySem.W.typeIn X.K (.ref C)=some (.type "type")) (F:aA X.prog X.w X.K X.mg X.base aN k f fd ps (mm C fn)) (hr:bf (k+1) X.A) (hb:Binds X.K fd ps []) (ha:QA X (e::es) t)
  (hg:Gl X x:=by rfl) (hs:(e::es).all noStar=true:=by rfl) (bF:(x == ("__debug__" : Str))=false:=by decide):QS X (.Raise (some (.Call (.Name x p) (e::es) [] bt)) none pos) (BZ C fn R t):=⟨PX hx hex hc hm Z cy F hr hb ha.h hg hs bF⟩
def fH (hu:X.A.units+1 < cLine) (ho:QE X o td) (hi:QE X i ty) (hs:zH i:=by intro _ _; rfl):QE X (.Subscript o i pos) (Cq td ty):=⟨Ur hu ho.h hi.h hs⟩
def BC (hu:X.A.units+1 < cLine) (hi:QE X i ty) (ho:QE X o td) (hm:behindInMarks .In o=false:=by rfl):QT X (.Compare i [.In] [o] pos) (mU (Bh ty td)):=⟨GC (Ry hu hi.h ho.h) hm⟩
def RP (hu:X.A.units+1 < cLine) (hi:QE X i ty) (ho:QE X o td) (hm:behindInMarks .NotIn o=false:=by rfl):QT X (.Compare i [.NotIn] [o] pos) (mU (BJ ty td)):=⟨GC (UY hu hi.h ho.h) hm⟩
def sE (hu:X.A.units+1 < cLine) (ho:QE X o td) (hi:QE X i ty) (hv:QE X value tv) (hs:swapsWith value (some (.Subscript o i pos')) pos.line X.env=pure false:=by rfl):QS X (.Assign [.Subscript o i pos'] value pos) (AX td ty tv):=⟨Zn hu ho.h hi.h hv.h hs⟩
def Q8:QE X (.Dict [] [] pos) Ao:=⟨Tb⟩
def YU (hu:X.A.units+1 < cLine) (ho:QE X o td) (he:QE X e ty) (m1:M1 X o "get" apos e bt:=by exact ⟨rfl,rfl,rfl,rfl⟩):QE X (.Call (.Attribute o "get" apos) [e] [] bt) (B5 td ty):=⟨abZ hu ho.h he.h m1⟩
def uF (hp:PassesOwn (model X.prog X.w) X.A X.env X.xe) (hc:QT X a tA) (hb:QB X body tB):QS X (.While a body [] pos) (JA tA tB):=⟨Oz hp hc.h hb.h⟩
def G2 (hc:QT X o tA) (ha:QE X a ta) (hb:QE X b tb):QE X (.IfExp o a b pos) (z8 tA ta tb):=⟨Zh hc.h ha.h hb.h⟩
end
end Dv
def Ht {P:Program} {w:World} {K:ν} {mg:Str->Option Value} {base:Heap} {N:List Str} {qual:Str} {scope:Scope} {f:Addr} {cd:Value} {A:Around} {outer:List Env} {s₀:Shared} {H₀:Hp} {E:XK} {CX:dX} :
  PassesOwn (model P w) (en CX P w K mg base N qual scope f cd A outer s₀ H₀ E).A (en CX P w K mg base N qual scope f cd A outer s₀ H₀ E).env (en CX P w K mg base N qual scope f cd A outer s₀ H₀ E).xe:=PassesOwn.leaving
structure VH (X:Cx) (π:List (Addr×Obj)) (σ:St) (H:Hp) (ea C:Addr) (od:Option Addr) (s:Shared):Prop where
 fl:∃ B a0,Heap.FlyingW B (X.env::X.outer) ea (.ref C) a0 s.heap/\∀ h4:Heap,B.StaysIn h4->s.heap.UpToSlots h4->Inv X π σ H { s with heap:=h4 }
 hd:dA ea (.ref C) od s.heap
 free:H ea=none
 n0:X.s₀.heap.get? ea=none
 nL:ea≠X.env.locals
 nC:∀ x c,X.env.cells.lookup x=some c->c≠ea
 nP:∀ p∈X.pn++π,p.1≠ea
abbrev vD:=Ends->St->Addr->Option Addr->Hp->Prop
def PH (X:Cx) (hs:List ExceptHandler) (t:vD):Prop:=∀ (π:List (Addr×Obj)) (s:Shared) (σ:St) (H:Hp) (D:Ends) (ea C:Addr) (od:Option Addr),VH X π σ H ea C od s->t D σ C od H->wpAny (model X.prog X.w) X.A (handleBy (.ref ea) X.env hs) (SP X π D) X.xe s
section
variable {X:Cx} {K:ν} {Cc:Addr} {n x:Str} {px:List Stmt} {b₀:Stmt} {np hpos pos:Pos} {th:TS} {tr:vD} {rest:List ExceptHandler}
end
structure QH (X:Cx) (hs:List ExceptHandler) (t:vD):Prop where
 h:PH X hs t
namespace Dv
section
variable {X:Cx} {K:ν} {Cc:Addr} {n x:Str} {px:List Stmt} {b₀:Stmt} {np hpos pos:Pos} {th:TS} {tr:vD} {rest:List ExceptHandler}
end
end Dv
def fb (a b:Str):Bool:=!ltCps b.cps.toList a.cps.toList
def gG (ts:List Str):List Str:=ts.mergeSort fb
def wo {a b:Str}:fb a b=true ↔ ¬ b.cps.toList < a.cps.toList:=by
 unfold fb; rw [ltCps_eq]; simp
def KW (a b c:Str) (h1:fb a b=true) (h2:fb b c=true):fb a c=true:=by
 rw [wo] at *;exact _2.mpr (List.le_trans (_2.mp h1) (_2.mp h2))
def Wq (a b:Str):(fb a b || fb b a)=true:=by
 cases h:fb a b with
 | true=>rfl
 | false =>
  have:¬ fb a b=true:=by rw [h]; simp
  rw [wo,Classical.not_not] at this;simp only [Bool.false_or,wo];exact _2.mpr (List.le_of_lt this)
def Oa {a b:Str} (h1:fb a b=true) (h2:fb b a=true):a=b:=by
 rw [wo] at *;have:=List.le_antisymm (_2.mp h1) (_2.mp h2);obtain ⟨x⟩:=a; obtain ⟨y⟩:=b;exact Ps Str.mk (Array.ext' this)
def Gx (ts:List Str):(gG ts).Perm ts:=List.mergeSort_perm ts fb
def acd (ts:List Str):(gG ts).Pairwise (fun a b=>fb a b=true):=List.pairwise_mergeSort KW Wq ts
def Gp (ts:List Str):(gG ts).length=ts.length:=(Gx ts).length_eq
def IV:∀ (p:Str) (l:List Str),risingS p l=true->(p::l).Pairwise (fun a b=>fb a b=true)
 | p,[],_=>List.pairwise_singleton _ _
 | p,x::r,h=>by
  have h':fb p x=true/\risingS x r=true:=by simpa [risingS,fb] using h
  have ih:=IV x r h'.2;refine List.pairwise_cons.mpr ⟨fun y hy=>?_,ih⟩;rcases mo.mp hy with e | hy
  ·exact e ▸ h'.1
  ·exact KW p x y h'.1 (List.rel_of_pairwise_cons ih hy)
def Jx:∀ (l:List Str),sortedS l=true->l.Pairwise (fun a b=>fb a b=true)
 | [],_=>.nil
 | x::r,h=>IV x r h
def Hj {us ts:List Str} (hp:us.Perm ts) (hs:us.Pairwise (fun a b=>fb a b=true)):us=gG ts :=
 List.Perm.eq_of_pairwise (fun a b _ _ h1 h2=>Oa h1 h2) hs (acd ts) (hp.trans (Gx ts).symm)
def Je:∀ {ts:List Str} {us:List Value},Vals (ts.map V.str) us->StrsAre us ts
 | [],_,.nil=>.nil
 | x::r,_,.cons h t=>by obtain ⟨t',rfl⟩:=h; exact .cons x t' (Je t)
def Ce:∀ {us:List Value} {ts:List Str},StrsAre us ts->Vals (ts.map V.str) us
 | _,_,.nil=>.nil
 | _,_,.cons y t h=>.cons ⟨t,rfl⟩ (Ce h)
section
variable {X:Cx}
def KI (K:ν):List V->Hp->VK->Prop:=fun xs H Q=>∃ p ts,xs=[.ref p]/\aD K H p (ts.map V.str)/\ts.length < 64/\∀ l,H l=none->Q (.ref l) (upd H l (.lst ((gG ts).map V.str)))
def UW:cT X (.builtin "sorted") (KI X.K):=by
 intro π s σ H xs us Q I r h;obtain ⟨p,ts,rfl,hq,D3,q⟩:=h;obtain ⟨u,rfl,rx⟩:=vals1 r;cases rx;obtain ⟨aq,r',pl,hz⟩:=I.list hq;have hlen:=r'.length;refine sorted_strs pl.isList (Je r') (by rw [<- hlen]; simpa using D3) fun out ss' a1 a2 a3=>?_;obtain ⟨e,he⟩:=sortedAll_at s.heap aq out;have e1:ss'=gG ts:=Hj a2 (Jx _ a3);subst e1;refine ⟨.ref (s.heap.objs.size+1),_,I.laid (t':=s.toks) (fun _ _=>sortedAll_old) (_1 _) (show bG X.prog X.w _ _ _ (.lst ((gG ts).map V.str)) from ⟨?_,out.toList,e,Ce a1,?_⟩),rfl,q _ (I.ay.fresh (_1 _))⟩
 ·rw [pp,Gp]; simpa using hz
 ·simpa [seqObj] using he
def KS:List V->Hp->VK->Prop:=fun xs H Q=>∃ p kvs,∃ ts:List Str,xs=[.ref p]/\H p=some (.dK kvs)/\kvs.map (·.1)=ts.map Sum.inr/\ts.length < 64/\∀ l,H l=none->Q (.ref l) (upd H l (.lst ((gG ts).map V.str)))
def Ve {x:Str} {v:Value} (h:lq (.inr x) v=true):∃ t,v=Value.str x t:=Value.isStrOf_shape h
def aar (hc:X.calm=true):cT X (.builtin "sorted") KS:=by
 intro π s σ H xs us Q I r h;obtain ⟨p,kvs,ts,rfl,hq,hk,D3,q⟩:=h;obtain ⟨u,rfl,rx⟩:=vals1 r;cases rx;obtain ⟨hz,hS,vs,rv,m⟩:kvs.length<=sizeLine/\(p == sysModules)=false/\∃ vs,KV kvs vs/\s.heap.DictOf (dM X.prog X.w) p vs:=I.ay p _ hq;obtain ⟨ep,Fn⟩:=m.dictAt;have ko:kvs.length=ts.length:=by simpa using Ps List.length hk
 have Nd:vs.length=ts.length:=by rw [<- ko]; simpa using (Ps List.length rv.keys).symm
 refine Calls.call_function_entry kind_sorted plain_sorted entry_sorted (args_sorted1 _) ?_;unfold Builtin.«sorted»;refine lm (m:=checkCount "sorted" 1 1 _) (pi ?_);refine lm (PySem.W.kdu_collect (A:=X.A.in1) (PySem.W.kdl_dict (knd:=dM X.prog X.w) (kvs:=vs) (ep:=ep) hS) (I.ok.hd hc) Fn (by rw [Nd,<- ko]; exact hz) fun h' tk acc hk' gP=>?_);have hl:acc.toList.length=ts.length:=by rw [Re,<- Nd]; exact gP.1
 have hS':StrsAre acc.toList ts:=by
  have key:∀ (l:List Value) (us:List Str),l.length=us.length->(∀ (j:Nat) (v:Value) (x:Str),l[j]?=some v->us[j]?=some x->∃ t,v=Value.str x t)->StrsAre l us:=by
   intro l
   induction l with
   | nil=>intro us e _; cases us with | nil=>exact .nil | cons=>cases e
   | cons v l ih =>
    intro us e hh;cases us with
    | nil=>cases e
    | cons x us =>
     obtain ⟨t,rfl⟩:=hh 0 v x rfl rfl;exact .cons x t (ih us (by simpa using e) fun j v x h1 h2=>hh (j+1) v x h1 h2)
  refine key _ _ hl fun j v x h1 h2=>?_;obtain ⟨k,y,hx,oS⟩:=gP.2 j v (by rw [<- Sc]; exact h1);have e1:(vs.map (·.1))[j]?=some k:=by rw [Da,hx]; rfl
  rw [<- rv.keys,hk,Da,h2] at e1;cases e1;exact Ve oS
 refine lm (wpAny_newList ?_ (by rw [hl,<- ko]; exact hz));have lU:(h'.push (seqObj "list" acc.toList.toArray 0)).get? h'.objs.size=some (seqObj "list" acc.toList.toArray 0):=ut _ rfl;refine lm (FS (_X slot_list_sort ⟨_,lU,rfl⟩ entry_list_sort (list_sort_treeK strKind_oneLt lU hS'.keysOf (fun v₁ v₂ rest e=>keyKind_strs (by rw [<- e]; exact hS')) (by rw [hl]; exact D3) fun st' a1 a2=>⟨_,rfl,?_⟩) (args_list_sort _)));refine pi ⟨_,rfl,?_⟩;obtain ⟨ss',b1,b2,b3⟩:=sorted_out_str hS' a1 a2;have e1:ss'=gG ts:=Hj b2 (Jx _ b3);subst e1;obtain ⟨e,he⟩:=sortedHeap_at (out:=(arrOf st').map (·.2)) lU;have I1:Inv X π σ H { s with heap:=h',toks:=tk }:=I.kept (t':=tk) hk';refine ⟨.ref h'.objs.size,_,I1.laid (t':=tk) (fun b o z=>?_) (sK _) (show bG X.prog X.w _ _ _ (.lst ((gG ts).map V.str)) from ⟨?_,_,e,Ce b1,?_⟩),rfl,q _ (I1.ay.fresh (sK _))⟩
 ·have hb:b < h'.objs.size:=ul z;rw [sortedHeap_old (wS hb) (by have:=_h h' (seqObj "list" acc.toList.toArray 0); rw [this]; exact Nat.lt_succ_of_lt hb)];exact lv _ z
 ·rw [pp,Gp,<- ko]; exact hz
 ·rw [_3]; exact he
end
def mB (P:Program) (w:World) (K:ν) (mg:Str->Option Value) (base:Heap) (N:List Str) (qual:Str) (scope:Scope) (f:Addr) (cd:Value) (cl:List (Str×Addr)) (A:Around) (outer:List Env) (s:Shared) (H:Hp) (E:XK):Cx where
 prog:=P
 w:=w
 K:=K
 mg:=mg
 base:=base
 A:=A.deeper (PySem.W.envX qual scope s.heap.objs.size f cd cl)
 N:=N
 s₀:=s
 H₀:=H
 env:=PySem.W.envX qual scope s.heap.objs.size f cd cl
 outer:=outer
 stack:=PySem.W.envX qual scope s.heap.objs.size f cd cl::outer
 ex:=[]
 calm:=true
 fn:=fun _=>false
 pn:=[]
 xe:=fun e s'=>wpAny (model P w) (A.deeper (PySem.W.envX qual scope s.heap.objs.size f cd cl)) (leaving (PySem.W.envX qual scope s.heap.objs.size f cd cl) e) (fun _ s''=>bI P w outer H s E e s'') (fun e' s''=>bI P w outer H s E e' s'') s'
def rn (c:Addr) (q:Str):HO:=.ext fun h=>h.CodeRec (.ref c) q
structure qR (N:List Str) (scope:Scope) (cl:List (Str×Addr)):Prop where
 kind:scope.kind=.function
 co:scope.isCoroutine=false
 gen:scope.isGenerator=false
 su:∀ x∈scope.names,x.2≠.cell
 free:∀ x∈N,scope.names.lookup x=some .free
 has:∀ x,scope.names.lookup x=some .free->∃ c,cl.lookup x=some c
 inj:∀ x y c,cl.lookup x=some c->cl.lookup y=some c->x=y
def mT (P:Program) (w:World) (K:ν) (mg:Str->Option Value) (base:Heap) (k:Nat) (s1:Shared) (B:Addr->Prop) (f:Addr) (cA:Hp->VK->XK->Prop):Prop :=
 ∀ (A:Around) (outer:List Env) (s:Shared) (H:Hp) (Q:VK) (E:XK),bf k A->kL P w K mg base A outer s H ->
  (∀ b o,B b->s1.heap.get? b=some o->s.heap.get? b=some o/\H b=none)->cA H Q E ->
  codeAny (model P w) A (.call (.ref f) ⟨[],[]⟩) (CR (bI P w) outer P w H s Q E) s
def XU {P:Program} {w:World} {K:ν} {mg:Str->Option Value} {base:Heap} {k:Nat} {s1:Shared} {B:Addr->Prop} {f:Addr} {cA:Hp->VK->XK->Prop} {N:List Str} {vs:List V}
  {name qual:Str} {params:Arguments} {body:Expr} {scope:Scope} {cl:List (Str×Addr)} {pm ao ct:Value} {o:Obj} (S:qR N scope cl)
  (ho:s1.heap.get? f=some o) (yy:o.data=.func (PySem.W.kla_fn name qual params body scope cl pm ao ct)) (bQ:∀ H Q E,cA H Q E->∃ c,ao=.ref c/\H c=some (rn c qual)) (gA:B f)
  (hB:∀ x c,cl.lookup x=some c->B c) (hlen:vs.length=N.length)
  (ib:∀ x c,cl.lookup x=some c->∃ v,s1.heap.IsCell c v)
  (hcells:∀ (i:Nat) (x:Str) (v:V),N[i]?=some x->vs[i]?=some v->∃ c u,cl.lookup x=some c/\RelV v u/\s1.heap.IsCell c (some u))
  (o8:bindArgs (PySem.W.kla_fn name qual params body scope cl pm ao ct) ⟨[],[]⟩=pure [])
  (js:∀ (A:Around) (outer:List Env) (s:Shared) (H:Hp) (Q:VK) (E:XK),bf k (A.deeper (PySem.W.envX qual scope s.heap.objs.size f ao cl))->cA H Q E ->
   ∃ t,PE (mB P w K mg base N qual scope f ao cl A outer s H E) body t/\t (vs.map some) H Q) :
  mT P w K mg base (k+1) s1 B f cA:=by
 intro A outer s H Q E hr e0 hk hw;obtain ⟨c,rfl,Ec⟩:=bQ H Q E hw;have yk:s.heap.CodeRec (.ref c) qual:=(e0.ay c _ Ec).1;have lim:s.heap.NoLimit:=e0.mod.nolimit.keeps fun b o e=>(e0.bs b o e).1;refine PySem.W.kla_callFunE (fd:=PySem.W.kla_fn name qual params body scope cl pm (.ref c) ct) hr.depth (hk f o gA ho).1 yy S.co S.gen rfl yk ?_;rw [o8];refine pi (wpAny_newFunctionEnv S.su (fun _ z=>nomatch z) (fun h₁ eB m5=>⟨lim.fresh _ m5,?_⟩) S.kind);show codeAny _ _ (.expr body (PySem.W.envX qual scope s.heap.objs.size f (.ref c) cl)) _ _;have E3:∀ b o,s.heap.get? b=some o->h₁.get? b=some o:=fun b o e=>m5.extBut b o (wS (ul e)) (lv _ e);obtain ⟨t,ht,hq2⟩:=js A outer s H Q E (hr.deeper _) hw;have lO:∀ b:Addr,b ∉ (mB P w K mg base N qual scope f (.ref c) cl A outer s H E).ex:=fun b z=>absurd (show b∈([]:List Addr) from z) (by simp);have cellK:∀ x c',cl.lookup x=some c'->∀ v,s1.heap.IsCell c' v->h₁.IsCell c' v/\H c'=none:=fun x c' e v ⟨o',e1,e2⟩ =>
  ⟨⟨o',E3 _ _ (hk c' o' (hB x c' e) e1).1,e2⟩,(hk c' o' (hB x c' e) e1).2⟩
 have I:Inv (mB P w K mg base N qual scope f (.ref c) cl A outer s H E) [] (vs.map some) H { s with heap:=h₁,toks:=s.toks+([]:List (Str×Value)).length }:=by
  refine ⟨⟨e0.mod,S.kind,rfl,rfl,sK _,S.inj,fun y hy=>?_,fun y c' hf=>absurd hf (by simp [mB]),fun _=>hr.hd,Around.frames_deeper e0.frames,.inr ⟨rfl,rfl⟩,fun b z=>absurd z (lO b),e0.bs,e0.gU,fun b _ _=>lO b,fun b z=>absurd z (lO b),e0.fC,e0.iU⟩,
   rfl,e0.bare,Un.kept E3,⟨_,eB,fun i y v h1 h2 h3=>?_⟩,fun y c' h=>?_,e0.ay.fresh (sK _),fun y c' h=>?_,fun p hp=>absurd (show p∈([]:List (Addr×Obj)) from hp) (by simp),e0.ay.kept E3,?_⟩
  ·have hy:scope.names.lookup y=some .cell\/scope.names.lookup y=some .free:=hy;rcases hy with hy | hy
   ·exact absurd rfl (S.su _ (Fk hy))
   ·exact S.has y hy
  ·have h1':N[i]?=some y:=h1;have ha:vs[i]?=some v:=by
    rw [Da] at h2;cases e:vs[i]? with
    | none=>rw [e] at h2; cases h2
    | some a=>rw [e] at h2; cases h2; rfl
   obtain ⟨c',u,e1,rv,e2⟩:=hcells i y v h1' ha;exact ⟨u,rv,.inr ⟨.inr (S.free y (Pi h1')),c',e1,(cellK y c' e1 _ e2).1⟩⟩
  ·obtain ⟨v,e⟩:=ib y c' h;exact ⟨v,(cellK y c' h v e).1⟩
  ·obtain ⟨v,e⟩:=ib y c' h;exact (cellK y c' h v e).2
  ·show (vs.map some).length=N.length;rw [pp,hlen]
 refine PySem.W.kla_codeExpr (IN (ht [] _ (vs.map some) H _ I hq2) (fun u s' hs=>?_) fun e s' hs=>hs);obtain ⟨v,H',J,rv,q⟩:=hs;exact ⟨v,H',J.os,J.bare,J.base,J.ay,rv,q⟩
def OO {P:Program} {w:World} {K:ν} {mg:Str->Option Value} {base:Heap} {N:List Str} {qual:Str} {scope:Scope} {f:Addr} {cd:Value} {cl:List (Str×Addr)} {A:Around} {outer:List Env} {s₀:Shared} {H₀:Hp} {E:XK} :
  gE (mB P w K mg base N qual scope f cd cl A outer s₀ H₀ E) (fun _=>E) where
 pass:=fun π σ H s e s' I hc=>by
  obtain ⟨ea,C,od,H',rfl,F,hE⟩:=hc;exact aC (I.La ⟨rfl,rfl,rfl⟩ I.ok.frames F) fun _ s'' z=>⟨ea,C,od,H',rfl,z,hE⟩
def wa (outer:List Env) (H:Hp) (s:Shared) (B:Addr->Prop):Prop:=∀ b,B b->(∃ o,s.heap.get? b=some o)/\H b=none/\b ∉ bH outer
def Be (s:Shared) (f:Addr):Prop:=∃ cls dict fd sl,s.heap.get? f=some ⟨cls,dict,.func fd,sl⟩
def BA (i:Nat) (f:Addr) (cA:Hp->VK->XK->Prop) (R:St->XK):TE:=fun σ H Q=>σ[i]?=some (some (.ref f))/\cA H Q (R σ)
def Qt {X:Cx} {i k:Nat} {x:Str} {p pos:Pos} {B:Addr->Prop} {f:Addr} {cA:Hp->VK->XK->Prop} {R:St->XK} (hN:X.N[i]?=some x) (hv:mC X.env.scope x)
  (D:mT X.prog X.w X.K X.mg X.base k X.s₀ B f cA) (hB:wa X.outer X.H₀ X.s₀ B) (hf:Be X.s₀ f) (gA:B f) (hex:X.ex=[]) (hr:bf k X.A) (hx:gE X R)
  (hd:(x == ("__debug__" : Str))=false:=by decide) (bQ:(x == ("__classdict__" : Str))=false:=by decide):PE X (.Call (.Name x p) [] [] pos) (BA i f cA R):=by
 intro π s σ H Q I h;obtain ⟨hσ,hw⟩:=h;refine FB (aC (BO hN hv hd bQ π s σ H (fun v H1=>v=.ref f/\cA H1 Q (R σ)) I ⟨_,hσ,rfl,hw⟩) fun u s1 ⟨v,H1,I1,r,e,E9⟩=>?_);subst e;cases (show u=Value.ref f from r);have kp:∀ b o,B b->X.s₀.heap.get? b=some o->s1.heap.get? b=some o/\H1 b=none:=fun b o hb e =>
  ⟨I1.base.keep b o e (hB b hb).2.1 (hB b hb).2.2 (by rw [hex]; simp),I1.base.free b o e (hB b hb).2.1 (by rw [hex]; simp)⟩
 obtain ⟨cls,dict,fd,sl,vb⟩:=hf;refine PySem.W.callWith_of (P:=fun h=>h.get? f=some ⟨cls,dict,.func fd,sl⟩) rfl (fun h e=>⟨.frame,.inl rfl,(_i (part:=none) e).andThen .now⟩) (PyProof.Rows.evalArgs_nil3 ⟨(kp f _ gA vb).1,?_⟩);refine T0 (XV (D X.A X.stack s1 H1 Q (R σ) hr I1.qH kp E9) fun r s' hq=>?_);cases r with
 | error e=>exact hx.pass π σ H1 s1 e s' I1 hq
 | ok fl =>
  cases fl with
  | ret u=>exact I1.after hq
  | next=>exact False.elim hq
  | brk=>exact False.elim hq
  | cont=>exact False.elim hq
abbrev vO:=List Env->Shared->Sp
structure uK (P:Program) (w:World) (K:ν) (mg:Str->Option Value) (base:Heap) (CX:dX) (k:Nat) (f:Addr) (fd:FuncData) (ps:List Str) (sp:vO):Prop where
 len:∀ outer s vs H Q E,sp outer s vs H Q E->vs.length=ps.length
 run:∀ (A:Around) (outer:List Env) (s:Shared) (H:Hp) (args:Args) (us:List Value) (vs:List V) (Q:VK) (E:XK),bf k A->kL P w K mg base A outer s H->BindsTo s fd args (ps.zip us)->Vals vs us->sp outer s vs H Q E ->
  codeAny (model P w) A (.call (.ref f) args) (CR CX outer P w H s Q E) s
def Wz {CX:dX} {P:Program} {w:World} {K:ν} {mg:Str->Option Value} {base:Heap} {k:Nat} {f:Addr} {name qual:Str} {params:Arguments} {body:List Stmt} {scope:Scope} {dV kV doc pm ao ct oc:Value} {an od:Option Addr}
  {dF:Array (Option Value)} {N ps:List Str} {sp:vO} (lk:K.lookup f=some ⟨oc,od,.func (PySem.W.fnOf name qual params body scope dV kV doc pm an ao ct),dF⟩) (bQ:PySem.W.codeIn K ao qual=true) (S:aF N ps scope)
  (len:∀ outer s vs H Q E,sp outer s vs H Q E->vs.length=ps.length)
  (js:∀ (A:Around) (outer:List Env) (s:Shared) (H:Hp) (vs:List V) (Q:VK) (E:XK),bf k (A.deeper (envOfC qual scope s.heap.objs.size f ao))->sp outer s vs H Q E ->
   ∃ t,dH (en CX P w K mg base N qual scope f ao A outer s H E) body t/\t { nx:=fun _ H'=>Q .aw H',rt:=Q } (start N vs) H) :
  uK P w K mg base CX (k+1) f (PySem.W.fnOf name qual params body scope dV kV doc pm an ao ct) ps sp:=by
 refine ⟨len,fun A outer s H args us vs Q E hr e0 hb r ef=>?_⟩;have hl:=len _ _ _ _ _ _ ef;have KX:K.In s.heap:=e0.mod.iH.keeps fun b o e=>(e0.bs b o e).1;have lim:s.heap.NoLimit:=e0.mod.nolimit.keeps fun b o e=>(e0.bs b o e).1;have El:∀ y∈ps.zip us,scope.names.lookup y.1=some .local\/(scope.names.lookup y.1=some .cell/\((cellsFrom (s.heap.objs.size+1) scope.names []).lookup y.1).isSome=true):=fun ⟨n,v⟩ hy=>by
  rcases S.par n (_6 hy).1 with q | q
  ·exact .inl q
  ·exact .inr ⟨q,_N _ _ _ (.inl q)⟩
 refine codeAny_call_function hr.depth (KX _ _ lk) rfl S.co S.gen rfl (PySem.W.codeRec_of KX bQ) (hb _ _ _ _ ?_);refine wpAny_newFunctionEnv_cells S.kind El fun env he s1 x=>?_;subst he;refine ⟨lim.keeps x.toInCall.keep,codeAny_func ?_⟩;obtain ⟨t,ht,hq⟩:=js A outer s H vs Q E (hr.deeper _) ef;have I:Inv (en CX P w K mg base N qual scope f ao A outer s H E) [] (start N vs) H s1:=Hf S hr.hd e0 hl r x;refine IN (ht [] s1 (start N vs) H _ I hq) (fun fl s' hs=>?_) fun e s' hs=>hs;have fin:∀ {σ':St} {H':Hp} {v:V} {u:Value},Inv (en CX P w K mg base N qual scope f ao A outer s H E) [] σ' H' s'->RelV v u->Q v H'->CE outer P w H s Q u s' :=
  fun {σ' H' v u} J rv q=>⟨v,H',J.os,J.bare,J.base,J.ay,rv,q⟩
 cases fl with
 | ret u =>
  obtain ⟨v,σ',H',J,rv,q⟩:=hs;exact fin J rv q
 | next =>
  obtain ⟨σ',H',J,q⟩:=hs;exact fin (v:=V.aw) (u:=Value.none) J rfl q
 | brk =>
  obtain ⟨_,_,_,q⟩:=hs;exact False.elim q
 | cont =>
  obtain ⟨_,_,_,q⟩:=hs;exact False.elim q
abbrev Ent:=Int×Int×Addr
def eW:List Ent->List Value
 | []=>[]
 | e::r=>rawInt e.1::rawInt e.2.1::.ref e.2.2::eW r
def GG:∀ (a b:List Ent),eW (a++b)=eW a++eW b
 | [],b=>rfl
 | e::r,b=>by show _::_::_::eW (r++b)=_; rw [GG r b]; rfl
def y2:∀ es:List Ent,TriplesOk (eW es)
 | []=>trivial
 | e::r=>y2 r
def Hi (pos:Pos):∀ es:List Ent,codeAmong pos (eW es)=(es.find? fun e=>e.1 == (pos.line:Int) && e.2.1 == (pos.col:Int)).map fun e=>Value.ref e.2.2
 | []=>rfl
 | e::r=>by
  show (if e.1 == (pos.line:Int) && e.2.1 == (pos.col:Int) then some (Value.ref e.2.2) else codeAmong pos (eW r))=_;rw [Wp];cases h:(e.1 == (pos.line:Int) && e.2.1 == (pos.col:Int)) with
  | true=>rfl
  | false=>exact Hi pos r
def kZ (P:Addr) (es:List Ent):HO:=.ext fun h=>h.get? P=some (PySem.W.tabObj (eW es).toArray)
structure fc (H:Hp) (P:Addr) (q:Str) (es:List Ent):Prop where
 tab:H P=some (kZ P es)
 code:∀ e∈es,H e.2.2=some (rn e.2.2 q)
structure wC (X:Cx) (P:Addr) (params:Arguments) (scope:Scope) (cR:List (Str×Addr)) (q:Str):Prop where
 dflt:defaultsOf params X.env=([],[])
 iA:closureFor scope X.env=pure cR
 code:∃ c,X.env.code=.ref c/\PySem.W.CodeHd X.base c P
 blt:X.base.BuiltinsAt X.mg P
 qual:X.env.qual ++ "<lambda>" = q
structure pC (P:Addr) (q:Str) (c:Addr) (H H1:Hp):Prop where
 rest:∀ b,b≠P->b≠c->H1 b=H b
 code:H1 c=some (rn c q)
 old:H c=none\/H1=H
 tab:∃ es,fc H1 P q es
def pS {a b n:Nat} (h:a < n) (h':n<=b):b≠a:=by omega
def TB {X:Cx} {π:List (Addr×Obj)} {σ:St} {H:Hp} {s:Shared} {P:Addr} {params:Arguments} {body:Expr} {scope:Scope} {cR:List (Str×Addr)} {q:Str} {fK:Pos} {es:List Ent} {Q:Value->Shared->Prop}
  (I:Inv X π σ H s) (L:wC X P params scope cR q) (T:fc H P q es)
  (h:∀ f c ct pm s1 H1,Inv X π σ H1 s1->pC P q c H H1->H1 f=none->X.s₀.heap.objs.size<=f->f≠X.env.locals->s1.heap.get? f=some (PySem.W.kla_obj "<lambda>" q params body scope cR pm c ct) ->
   (∀ b o,H b=none->s.heap.get? b=some o->s1.heap.get? b=some o)->Q (.ref f) s1) :
  wpAny (model X.prog X.w) X.A (eval (.Lambda params body scope fK) X.env) Q X.xe s:=by
 obtain ⟨hdef,ib,⟨c,MN,C⟩,hb,hq⟩:=L;subst hq;refine PySem.W.kla_eval hdef ?_;have hP:s.heap.get? P=some (PySem.W.tabObj (eW es).toArray):=(I.ay P _ T.tab).1;have hgP:mainGlobals≠P:=fun e=>by
  obtain ⟨o,_,_,g,_⟩:=I.mod.glob;have:=(I.bs _ _ g).2;rw [e,T.tab] at this; cases this
 have Ni:s.heap.BuiltinsAt X.mg P:=by
  obtain ⟨bm,o,b1,b2,b3,b4,b5,b6⟩:=hb;exact ⟨bm,o,b1,b2,b3,b4,I.bk _ _ b5,b6⟩
 have EL:=I.lt;have dY:∀ {b:Addr},H b=none->b≠P:=fun {b} n e=>by rw [e,T.tab] at n; cases n
 cases hf:codeAmong fK (eW es).toArray.toList with
 | none =>
  refine PySem.W.kla_makeFunction (mg:=X.mg) ib I.ok.glob (I.mod.glob.keeps I.bk) MN (C.keeps I.bk) hP (y2 es) hf hgP Ni fun c' ct h' tk hx iN bK yk lS=>?_;have htb':h'.get? P=some (PySem.W.tabObj (eW (es++[((fK.line:Int),(fK.col:Int),c')])).toArray):=by
   rw [lS,GG]; simp [eW]
  have hPs:P < s.heap.objs.size:=ul hP;have Md:c'≠P:=pS hPs iN;have I1:Inv X π σ (upd H P (kZ P (es++[((fK.line:Int),(fK.col:Int),c')]))) { s with heap:=h',toks:=tk } :=
   I.write (x:=P) (e:=P) (t':=tk) (by rw [T.tab]; trivial) (.inl rfl) (fun b u hb e=>hx b u hb e) ⟨_,htb'⟩ ⟨htb',⟨_,htb'⟩,fun h1 h2 z k=>k _ z⟩
  have Nz:H c'=none:=I.ay.fresh iN;have hcn1:(upd H P (kZ P (es++[((fK.line:Int),(fK.col:Int),c')]))) c'=none:=by rw [aj Md]; exact Nz
  have I2:=I1.xF (a:=c') (o:=rn c' (X.env.qual ++ "<lambda>")) hcn1 (WP (u8 I.sz iN)) (pS EL iN) (fun x c₁ e z=>by
    obtain ⟨v,o,ho,_⟩:=I.cell x c₁ e;exact pS (ul ho) iN z.symm) (fun p hp z=>by
    exact pS (ul (I.pin p hp).1) iN z.symm) ⟨yk,(by obtain ⟨c₂,o,_,_,e,g,_⟩:=yk; cases e; exact ⟨o,g⟩),fun h1 h2 z k=>by
     obtain ⟨c₂,o,vs,t,e,g,r⟩:=z;cases e;exact ⟨c',o,vs,t,rfl,k o g,r⟩⟩
  have I3:=I2.kept (t':=tk) (h':=h'.push (PySem.W.kla_obj "<lambda>" (X.env.qual ++ "<lambda>") params body scope cR ((X.mg "__name__").getD .none) c' ct)) (fun b u e=>lv _ e);have oR:(upd (upd H P (kZ P (es++[((fK.line:Int),(fK.col:Int),c')]))) c' (rn c' (X.env.qual ++ "<lambda>"))) h'.objs.size=none:=I2.ay.fresh (sK _);have hsz:s.heap.objs.size<=h'.objs.size:=u8 iN (Ja5 bK);refine h h'.objs.size c' ct _ _ _ I3 ⟨fun b n1 n2=>by rw [aj n2,aj n1],au,.inl Nz,es++[((fK.line:Int),(fK.col:Int),c')],⟨by rw [aj (sB Md),au],fun e he=>?_⟩⟩ oR (u8 I.sz hsz) (pS EL hsz) (ut _ rfl) fun b o n e=>lv _ (hx b o (dY n) e);rcases Uf.mp he with he | he
  ·have:=T.code e he;by_cases hc:e.2.2=c'
   ·rw [hc,au]
   ·have hp:e.2.2≠P:=fun z=>by
     have hr:s.heap.CodeRec (.ref P) (X.env.qual ++ "<lambda>"):=by
      have hh:=(I.ay _ _ this).1;rw [z] at hh; exact hh
     obtain ⟨c₂,o,vs,t,e1,g,d,r⟩:=hr;cases e1;rw [hP] at g; cases g;have d':(eW es).toArray=vs:=by injection d
     subst d';cases es with
     | nil=>cases he
     | cons e₁ r₁=>simp [eW,rawInt] at r
    rw [aj hc,aj hp]; exact this
  ·rw [FM.mp he]; exact au
 | some cv =>
  have hf':=hf;rw [show (eW es).toArray.toList=eW es from rfl,Hi] at hf';obtain ⟨e,he,hev⟩:=PP.mp hf';subst hev;refine PySem.W.kla_makeFunctionHit (mg:=X.mg) ib I.ok.glob (I.mod.glob.keeps I.bk) MN (C.keeps I.bk) hP (y2 es) hf Ni fun ct h' tk hk hsz=>?_;have I1:=I.kept (t':=tk) hk;have I2:=I1.kept (t':=tk) (h':=h'.push (PySem.W.kla_obj "<lambda>" (X.env.qual ++ "<lambda>") params body scope cR ((X.mg "__name__").getD .none) e.2.2 ct)) (fun b u e=>lv _ e);exact h h'.objs.size e.2.2 ct _ _ _ I2 ⟨fun _ _ _=>rfl,T.code e (_D he),.inr rfl,es,T⟩ (I1.ay.fresh (sK _)) (u8 I.sz hsz) (pS EL hsz) (ut _ rfl) fun b o n e=>lv _ (hk b o e)
abbrev fg:=Hp->VK->XK->Prop
def y6 (P:Program) (w:World) (K:ν) (mg:Str->Option Value) (base:Heap) (k:Nat) (lV:fg->fg):vO:=fun outer s vs H Q E =>
 ∃ f B cA,vs=[.ref f]/\mT P w K mg base k s B f cA/\wa outer H s B/\Be s f/\B f/\lV cA H Q E
def Hw (c:Addr) (q:Str) (W:fg):fg:=fun H Q E=>H c=some (rn c q)/\W H Q E
def nU (ix:List Nat) (σ:St) (vs:List V):Prop:=vs.length=ix.length/\∀ (i j:Nat) (v:V),ix[i]?=some j->vs[i]?=some v->σ[j]?=some (some v)
def Bc (P:Addr) (q:Str) (ix:List Nat) (W:List V->fg) (lV:fg->fg) (R:St->XK):TE:=fun σ H Q =>
 ∃ es vs,fc H P q es/\nU ix σ vs/\∀ c H1,pC P q c H H1->lV (Hw c q (W vs)) H1 Q (R σ)
structure sy (X:Cx) (N':List Str) (ix:List Nat) (cR:List (Str×Addr)):Prop where
 len:ix.length=N'.length
 at':∀ (i j:Nat),ix[i]?=some j->∃ x,N'[i]?=some x/\X.N[j]?=some x/\X.env.scope.names.lookup x=some .cell
 iA:∀ x c,cR.lookup x=some c->X.env.cells.lookup x=some c
 Jw:∀ x∈N',cR.lookup x=X.env.cells.lookup x
 own:∀ x c,cR.lookup x=some c->X.fn x=true
def Ys {X:Cx} {P:Addr} {q:Str} {ix:List Nat} {W:List V->fg} {lV:fg->fg} {R:St->XK} {params:Arguments} {body:Expr} {scope:Scope} {cR:List (Str×Addr)} {N':List Str} {fK p pos:Pos} {x y:Str} {g:Addr} {fd:FuncData} {k k':Nat}
  (L:wC X P params scope cR q) (S:qR N' scope cR) (C:sy X N' ix cR)
  (F:uK X.prog X.w X.K X.mg X.base (bI X.prog X.w) k' g fd [y] (y6 X.prog X.w X.K X.mg X.base (k+1) lV)) (hr:bf k' X.A) (hg:Gl X x) (hm:X.mg x=some (.ref g)) (hk:PySem.W.keepIn X.K (.ref g)=true) (hb:Binds X.K fd [y] []) (hx:gE X R)
  (o8:∀ pm cd ct,bindArgs (PySem.W.kla_fn "<lambda>" q params body scope cR pm cd ct) ⟨[],[]⟩=pure [])
  (js:∀ (f:Addr) (ao:Value) (vs:List V) (A:Around) (outer:List Env) (s:Shared) (H:Hp) (Q:VK) (E:XK),bf k (A.deeper (PySem.W.envX q scope s.heap.objs.size f ao cR))->W vs H Q E ->
   ∃ t,PE (mB X.prog X.w X.K X.mg X.base N' q scope f ao cR A outer s H E) body t/\t (vs.map some) H Q)
  (bF:(x == ("__debug__" : Str))=false:=by decide):PE X (.Call (.Name x p) [.Lambda params body scope fK] [] pos) (Bc P q ix W lV R):=by
 intro π s σ H Q I h;obtain ⟨es,vs,T,hc,ef⟩:=h;refine FB (jW I hg hm ?_ bF);refine SC (h₀:=X.base) I.ok.mod.iH hk ?_;show wpAny _ _ (spliced ((false,eval (.Lambda params body scope fK) X.env)::backTo pos (starEach [] X.env))) _ _ s;refine TW (TB I L T fun f c ct pm s1 H1 I1 St oR lL aY vb kp=>?_);refine W1 ⟨I1.bR,?_⟩;have Mm:∀ b,X.s₀.heap.objs.size<=b->b≠X.env.locals->b ∉ bH X.stack:=fun b hb hl z=>by
  rcases mo.mp (I1.sU b z) with e | z
  ·exact hl e
  ·obtain ⟨_,o,ho,_⟩:=I1.ok.fC.mem z;exact absurd (wn (ul ho) hb) (Ix _)
 have D:mT X.prog X.w X.K X.mg X.base (k+1) s1 (fun b=>b=f\/∃ z,cR.lookup z=some b) f (Hw c q (W vs)):=by
  refine XU (N:=N') (vs:=vs) S vb rfl (fun H Q E z=>⟨c,rfl,z.1⟩) (.inl rfl) (fun z c' e=>.inr ⟨z,e⟩) (by rw [hc.1,C.len]) (fun z c' e=>I1.cell z c' (C.iA z c' e)) (fun i z v h1 h2=>?_) (o8 _ _ _) (fun A outer s' H' Q' E' r z=>js f (.ref c) vs A outer s' H' Q' E' r z.2);have hi:i < ix.length:=by
   have:=(sw.mp h1).1;rw [C.len]; exact this
  obtain ⟨z',e1,e2,e3⟩:=C.at' i _ (ss hi);rw [h1] at e1; cases e1;have e4:=hc.2 i _ v (ss hi) h2;obtain ⟨m,hn,hl⟩:=I1.loc;obtain ⟨u,r,l⟩:=hl _ z v e2 e4 (.inr (.inl e3));rcases l with ⟨hk',_⟩ | ⟨_,c',e5,e6⟩
  ·have:X.env.scope.names.lookup z=some .local:=hk';rw [e3] at this; cases this
  ·exact ⟨c',u,by rw [C.Jw z (Pi h1)]; exact e5,r,e6⟩
 have hH:wa X.stack H1 s1 (fun b=>b=f\/∃ z,cR.lookup z=some b):=fun b hb=>by
  rcases hb with rfl | ⟨z,e⟩
  ·exact ⟨⟨_,vb⟩,oR,Mm _ lL aY⟩
  ·have e':=C.iA z b e;obtain ⟨v,o,ho,_⟩:=I1.cell z b e';exact ⟨⟨o,ho⟩,I1.fB z b e',Mm b (I1.ok.lE z b (C.own z b e) e') (I1.jF z b e')⟩
 have hl:([.ref f]:List Value).length=[y].length:=rfl;refine T0 (XV (F.run X.A X.stack s1 H1 ⟨[.ref f],[]⟩ [.ref f] [.ref f] Q (R σ) hr I1.qH (hb s1 [.ref f] I1.bR hl) (.cons rfl .nil) ⟨f,_,_,rfl,D,hH,⟨_,_,_,_,vb⟩,.inl rfl,ef c H1 St⟩) fun r s' hq=>?_);cases r with
 | error e=>exact hx.pass π σ H1 s1 e s' I1 hq
 | ok fl =>
  cases fl with
  | ret u=>exact I1.after hq
  | next=>exact False.elim hq
  | brk=>exact False.elim hq
  | cont=>exact False.elim hq
abbrev nB:=List (Addr×Addr)
def vH (tabs:nB) (H:Hp):Prop:=∀ q∈tabs,∃ es,H q.2=some (kZ q.2 es)
structure oN (tabs:nB) (H:Hp):Prop where
 all:∀ b,H b=none\/(∃ o xs,H b=some (.eV o (.lst xs)))\/∃ q∈tabs,b=q.2
 tab:∀ q∈tabs,H q.2=some (kZ q.2 [])
def oN.ok {tabs:nB} {H:Hp} (h:oN tabs H) {c P:Addr} (q:Str) (hm:(c,P)∈tabs):fc H P q []:=⟨h.tab _ hm,fun _ z=>nomatch z⟩
def Qq {P:Program} {w:World} {K:ν} {mg mb:Str->Option Value} {CX:dX} {k:Nat} {fa a:Addr} {fd:FuncData} {x:Str} {sp:Sp} {s₁:Shared} {vs:List Value} {ns:List Int} {tabs:nB}
  (KX:K.In s₁.heap) (eB:s₁.heap.Ns mainGlobals mg) (hb:s₁.heap.Ns builtinsNs mb) (hbb:∀ x:Str,x ≠ "__name__" -> mb x=bootBuiltins x) (hlim:s₁.heap.NoLimit) (hg:s₁.gens=#[])
  (hT:PySem.W.TabsAt tabs s₁.heap) (o9:PySem.W.noTabs K=true) (hbm:∃ bm ob,mg "__builtins__" = some (.ref bm)/\bm≠builtinsNs/\s₁.heap.get? bm=some ob/\ob.cls=.type "module" /\ ob.dict=some builtinsNs/\ob.data=.plain)
  (ha:s₁.heap.get? a=some { cls:=.type "list",data:=.seq vs.toArray }) (hi:IntsAre vs ns) (hl:ns.length<=sizeLine) (hr:bf k callerA)
  (F:∀ base:Heap,K.In base->base.Ns mainGlobals mg->(∀ q∈tabs,PySem.W.CodeHd base q.1 q.2/\base.BuiltinsAt mg q.2)->aA P w K mg base CX k fa fd [x] sp) (o8:∀ (s:Shared) (u:Value),BindsTo s fd ⟨[u],[]⟩ [(x,u)])
  (ef:∀ H:Hp,oN tabs H->aD K H a (ns.map V.int)->sp [.ref a] H (fun v H'=>v=.bl true/\vH tabs H') fun _ _ _=>False)
  (D8:∀ H e s',CX [] H s₁ (fun _ _ _=>False) e s'->False) :
  codeAny (model P w) callerA (.call (.ref fa) ⟨[.ref a],[]⟩) (fun r s'=>r=.ok (.ret (.bool true))/\OldK s₁.heap s'.heap/\s'.os=s₁.os/\AllBare s'.gens) s₁:=by
 have rv:=KZ hi;have lenV:=hi.length;have tabAt:∀ b,(∃ q∈tabs,b=q.2)->s₁.heap.get? b=some (PySem.W.tabObj #[]):=fun b ⟨q,hq,e⟩=>e ▸ (hT q hq).2;have NV:¬ ∃ q∈tabs,a=q.2:=fun z=>by
  have:=tabAt a z;rw [ha] at this; cases this
 have core:∀ H:Hp,oN tabs H->aD K H a (ns.map V.int)->cj P w H s₁.heap->(∀ b,H b≠none->b=a\/∃ q∈tabs,b=q.2)->(H a≠none->K.lookup a=none) ->
   codeAny (model P w) callerA (.call (.ref fa) ⟨[.ref a],[]⟩) (fun r s'=>r=.ok (.ret (.bool true))/\OldK s₁.heap s'.heap/\s'.os=s₁.os/\AllBare s'.gens) s₁:=by
  intro H hO hS ay hA hK;have yC:∀ {b:Addr} {o:Obj},s₁.heap.get? b=some o->H b=none->(iX s₁.heap H).get? b=some o:=fun e n=>Va e n;have DD:∀ {b:Addr} {o:Obj},s₁.heap.get? b=some o->b≠a->(∀ ps,o.data≠.fields ps\/o.cls≠.none)->H b=none:=fun {b o} e na d=>by
   cases q:H b with
   | none=>rfl
   | some u =>
    rcases hA b (by rw [q]; simp) with e' | e'
    ·exact absurd e' na
    ·have e2:=tabAt b e';rw [e] at e2; cases e2;rcases d #[] with d | d
     ·exact absurd rfl d
     ·exact absurd rfl d
  have lO:∀ {b:Addr} {o:Obj} {es:Array DictEntry} {ep:Nat},s₁.heap.get? b=some o->o.data=.dict es ep->H b=none:=fun {b o es ep} e d=>by
   refine DD e (fun z=>?_) fun ps=>.inl (by rw [d]; simp);subst z;rw [ha] at e; cases e;have d':Data.seq vs.toArray _=Data.dict es ep:=d;cases d'
  have yh:∀ {b:Addr} {m:Str->Option Value},s₁.heap.Ns b m->(iX s₁.heap H).Ns b m:=fun {b m} ⟨o,es,ep,e,d,r⟩=>⟨o,es,ep,yC e (lO e d),d,r⟩;have Mq:K.In (iX s₁.heap H):=fun b o e=>yC (KX b o e) (by
   cases q:H b with
   | none=>rfl
   | some u =>
    rcases hA b (by rw [q]; simp) with e' | e'
    ·subst e';rw [hK (by rw [q]; simp)] at e; cases e
    ·have e2:=tabAt b e';rw [KX b o e] at e2; cases e2;have h2:=At.mp o9 (b,_) (PySem.W.mem_of_lookupK e);exact absurd (show false=true from h2) wf)
  have hM:Mod K mg (iX s₁.heap H):=⟨Mq,yh eB,⟨mb,yh hb,hbb⟩,let ⟨mc,h1,h2⟩:=hlim; ⟨mc,yh h1,h2⟩⟩;have e0:kL P w K mg (iX s₁.heap H) callerA [] s₁ H:=⟨rfl,hM,fun b o e=>Xi e,Nat.le_of_eq (Vy _ _),trivial,fun b hb=>absurd (show b∈([]:List Addr) from hb) (by simp),ay,.of_eq hg⟩;have hcodes:∀ q∈tabs,PySem.W.CodeHd (iX s₁.heap H) q.1 q.2/\(iX s₁.heap H).BuiltinsAt mg q.2:=fun q hq=>by
   obtain ⟨o,vs',file,tf,flags,tg,inF,text,tt,e1,r1,r⟩:=(hT q hq).1;obtain ⟨bm,ob,b1,b2,b3,b4,b5,b6⟩:=hbm;refine ⟨⟨o,vs',file,tf,flags,tg,inF,text,tt,yC e1 (DD e1 (fun z=>?_) fun ps=>.inr (by rw [r1]; simp)),r1,r⟩,bm,ob,b1,b2,fun z=>?_,fun z=>?_,yC b3 (DD b3 (fun z=>?_) fun ps=>.inr (by rw [b4]; simp)),b4,b5,b6⟩
   ·subst z; rw [ha] at e1; cases e1; simp at r1
   ·obtain ⟨o',es,ep,e,d,_⟩:=eB;rw [z,e] at b3; cases b3; rw [d] at b6; cases b6
   ·rw [z,(hT q hq).2] at b3; cases b3; cases b6
   ·subst z; rw [ha] at b3; cases b3; cases b6
  refine XV ((F _ Mq (yh eB) hcodes).run callerA [] s₁ H ⟨[.ref a],[]⟩ [.ref a] [.ref a] _ _ hr e0 (o8 s₁ (.ref a)) (.cons rfl .nil) (ef H hO hS)) fun r s' h=>?_;cases r with
  | error e=>exact (D8 H e s' h).elim
  | ok fl =>
   cases fl with
   | next=>exact False.elim h
   | brk=>exact False.elim h
   | cont=>exact False.elim h
   | ret u =>
    obtain ⟨v,H',os,bare,un,hok',r',q',qt⟩:=h;subst q';obtain rfl:u=Value.bool true:=r';refine ⟨rfl,⟨fun b o e=>?_,fun b o e=>un.there b o e (by simp)⟩,os,bare⟩;cases q:H b with
    | none=>exact .inl (un.keep b o e q (by intro z; exact absurd (show b∈([]:List Addr) from z) (by simp)) (by simp))
    | some u =>
     rcases hO.all b with z | ⟨ob,xs,z⟩ | ⟨qq,xX,z⟩
     ·rw [q] at z; cases z
     ·have z2:=un.fR b ob _ z;obtain ⟨e1,_⟩:=ay b _ z;obtain ⟨e2,_⟩:=hok' b _ z2;rw [e] at e1; cases e1;exact .inl e2
     ·subst z;obtain ⟨es,he⟩:=qt qq xX;have e3:s'.heap.get? qq.2=some (PySem.W.tabObj (eW es).toArray):=(hok' _ _ he).1;have e4:=(hT qq xX).2;rw [e] at e4; cases e4;exact .inr (.inl ⟨((hT qq xX).1.tab (hT qq xX).2).isCodeTable,rfl,#[],(eW es).toArray,rfl,by rw [e3]; simp⟩)
 have N7:∀ b,(∃ q∈tabs,b=q.2)->∀ H:Hp,bG P w H s₁.heap b (kZ b []):=fun b z H=>⟨tabAt b z,⟨_,tabAt b z⟩,fun h1 h2 y k=>k _ y⟩
 classical
 cases hk:K.lookup a with
 | some o =>
  have e:=KX a o hk;rw [ha] at e;cases e;refine core (fun b=>if (∃ q∈tabs,b=q.2) then some (kZ b []) else none) ⟨fun b=>?_,fun q hq=>AC ⟨q,hq,rfl⟩⟩ (.inr ⟨_,vs.toArray,_,hk,rfl,rfl,rfl,by rw [tz,lenV]; exact hl,by simpa using rv⟩) (fun b u z=>?_) (fun b z=>?_) fun z=>absurd (xL NV) z
  ·by_cases h:∃ q∈tabs,b=q.2
   ·exact .inr (.inr h)
   ·exact .inl (xL h)
  ·by_cases h:∃ q∈tabs,b=q.2
   ·have z':=(AC h).symm.trans z;cases z';exact N7 b h _
   ·have z':=(xL h).symm.trans z;cases z'
  ·by_cases h:∃ q∈tabs,b=q.2
   ·exact .inr h
   ·exact absurd (xL h) z
 | none =>
  refine core (fun b=>if b=a then some (.eV { cls:=.type "list",data:=.seq vs.toArray } (.lst (ns.map V.int))) else if (∃ q∈tabs,b=q.2) then some (kZ b []) else none) ⟨fun b=>?_,fun q hq=>?_⟩ (.inl (.inr ⟨{ cls:=.type "list",data:=.seq vs.toArray },AC rfl⟩)) (fun b u z=>?_) (fun b z=>?_) fun _=>hk
  ·by_cases hb:b=a
   ·exact .inr (.inl ⟨_,_,AC hb⟩)
   ·by_cases h:∃ q∈tabs,b=q.2
    ·exact .inr (.inr h)
    ·exact .inl ((xL hb).trans (xL h))
  ·have dY:q.2≠a:=fun z=>NV ⟨q,hq,z.symm⟩;exact (xL dY).trans (AC ⟨q,hq,rfl⟩)
  ·by_cases hb:b=a
   ·have z':=(AC hb).symm.trans z;cases z';subst hb;exact ⟨ha,by rw [pp]; exact hl,vs,_,rv,ha⟩
   ·have z':=(xL hb).symm.trans z;by_cases h:∃ q∈tabs,b=q.2
    ·have z2:=(AC h).symm.trans z';cases z2;exact N7 b h _
    ·have z2:=(xL h).symm.trans z';cases z2
  ·by_cases hb:b=a
   ·exact .inl hb
   ·by_cases h:∃ q∈tabs,b=q.2
    ·exact .inr h
    ·exact absurd ((xL hb).trans (xL h)) z
def ab2 {l:PySem.W.OpenLaw} {n k:Nat} {q:Program} {loose:List Str} {XP:(Str->Option Value)->Heap->Prop} {YP:World->Heap->Prop} {d:DefRec} {K:Params->ν} {CX:World->dX} {sp:World->Sp} {x:Str} {tabs:nB}
  (hn:l.most=some n) (iO:n<=sizeLine) (vt:d.params.defaults=[]) (hr:bf k callerA)
  (hY:∀ (w:World) (h:Heap),YP w h->(K w.params).In h)
  (o9:∀ w:World,PySem.W.noTabs (K w.params)=true) (lS:∀ (w:World),∀ t∈tabs,∃ y e,(recsOf q).find? (fun e=>e.name == y)=some e/\PySem.W.tabIn (K w.params) y=some t)
  (F:∀ (w:World) (mg:Str->Option Value) (fa:Addr) (h:Heap),(K w.params).In h->h.Ns mainGlobals mg->mg d.name=some (.ref fa) ->
   ∃ fd:FuncData,(∀ (s:Shared) (u:Value),BindsTo s fd ⟨[u],[]⟩ [(x,u)]) /\
    ∀ base:Heap,(K w.params).In base->base.Ns mainGlobals mg->(∀ t∈tabs,PySem.W.CodeHd base t.1 t.2/\base.BuiltinsAt mg t.2)->aA l.prog w (K w.params) mg base (CX w) k fa fd [x] (sp w))
  (ef:∀ (w:World) (H:Hp) (a:Addr) (ns:List Int),ns.length<=n->oN tabs H->aD (K w.params) H a (ns.map V.int)->sp w [.ref a] H (fun v H'=>v=.bl true/\vH tabs H') fun _ _ _=>False)
  (D8:∀ (w:World) (H:Hp) (s:Shared) (e:Value) (s':Shared),CX w [] H s (fun _ _ _=>False) e s'->False) :
  PySem.W.WalkO q loose XP YP l.row.toRowW d [] (fun f vs=>PySem.call f vs):=by
 refine Att.Pf hn vt fun w s₀ s₁ mg mb fa o pm cd doc a vs ns G Y ho hd bQ hmg u3 hints hlen hg=>?_;have KX:=hY w _ Y;obtain ⟨fd,hb,hF⟩:=F w mg fa _ KX G.T.g hmg;exact Qq KX G.T.g G.T.b G.T.builtins G.T.nolimit hg (fun t ht=>by
  obtain ⟨y,e,h1,h2⟩:=lS w t ht;exact PySem.W.tab_of G.T KX h1 h2) (o9 w) G.T.bmain u3 hints (u8 hlen iO) hr hF hb (fun H hO hS=>ef w H a ns hlen hO hS) fun H e s'=>D8 w H s₁ e s'
section
variable {prog:Program} {w:World} {A:Around} {R:Result->Shared->Prop} {I:Addr} {fp wr:List Addr} {P:Nat->Value->Prop} {St:Nat->Heap->Prop}
def Ss (a d:Value):argsOk "min" ⟨[a],[("default",d)]⟩:=by unfold argsOk; kernel_rfl
def ZQ (W:Walks prog w A.in1 I fp wr 0 P St) {S:Addr} {s:Shared} {c:Nat} {d:Value} (aM:St 0 s.heap)
  (hS:s.heap.get? S=some { cls:=.type "list",dict:=none,data:=.seq #[] c,slots:=#[] })
  (hR:∀ h' tk,(∀ b o,b ∉ wr->s.heap.get? b=some o->h'.get? b=some o)->R (.ok (.ret d)) { s with heap:=h',toks:=tk }) :
  codeAny (model prog w) A (.builtin "min.loop" ⟨[.ref I,.none,.ref S],[("default",d)]⟩) R s:=by
 refine _s F.entry_min_loop ?_;rw [_b _C _];show wpAny _ A.in1 (seqItems? (.ref S) >>= _) _ _ s;refine lm (Jag hS rfl ?_);show wpAny _ A.in1 (tryCatch (pyNext (.ref I)) _ >>= _) _ _ s;refine lm (Jah (W.done s _ _ aM fun h' tk hk'=>?_));exact lm (wpAny_rule (pi (hR h' tk hk')))
def acb (W:Walks prog w A.in1 I fp wr 1 P St) {S:Addr} {s:Shared} {c:Nat} {d:Value} (rJ:S ∉ fp) (aM:St 0 s.heap)
  (hS:s.heap.get? S=some { cls:=.type "list",dict:=none,data:=.seq #[] c,slots:=#[] })
  (hR:∀ v h' tk,P 0 v->(∀ b o,b ∉ wr->b≠S->s.heap.get? b=some o->h'.get? b=some o)->R (.ok (.ret v)) { s with heap:=h',toks:=tk }) :
  codeAny (model prog w) A (.builtin "min.loop" ⟨[.ref I,.none,.ref S],[("default",d)]⟩) R s:=by
 have N3:S ∉ wr:=fun h=>rJ (W.sub _ h);have EN:(toString "min" ++ toString ".loop" : String) = "min.loop" := by decide
 refine _s F.entry_min_loop ?_;rw [_b _C _];show wpAny _ A.in1 (seqItems? (.ref S) >>= _) _ _ s;refine lm (Jag hS rfl ?_);show wpAny _ A.in1 (tryCatch (pyNext (.ref I)) _ >>= _) _ _ s;refine lm (Jah (W.item 0 s _ _ (by decide) aM fun v h' tk hP hst' hk'=>?_));have hS':=hk' S _ N3 hS;show wpAny _ A.in1 (updateSeq S (fun _=>#[v,v]) >>= _) _ _ _;refine lm ?_;refine wpAny_updateSeq hS' rfl ?_;rw [EN];refine pi ⟨_0 _C _,?_⟩;have key:∀ (s2:Shared) (c2:Nat),St 1 s2.heap->s2.heap.get? S=some { cls:=.type "list",dict:=none,data:=.seq #[v,v] c2,slots:=#[] }->(∀ h'' tk'',(∀ b o,b ∉ wr->b≠S->s2.heap.get? b=some o->h''.get? b=some o)->R (.ok (.ret v)) { s2 with heap:=h'',toks:=tk'' }) ->
   codeAny (model prog w) A (.builtin "min.loop" ⟨[.ref I,.none,.ref S],[("default",d)]⟩) R s2:=fun s2 c2 kx hS2 hR2=>by
  refine _s F.entry_min_loop ?_;rw [_b _C _];show wpAny _ A.in1 (seqItems? (.ref S) >>= _) _ _ s2;refine lm (Jag hS2 rfl ?_);show wpAny _ A.in1 (tryCatch (pyNext (.ref I)) _ >>= _) _ _ s2;refine lm (Jah (W.done s2 _ _ kx fun h3 tk3 xZ=>?_));have hS3:=xZ S _ N3 hS2;show wpAny _ A.in1 (updateSeq S (fun _=>#[]) >>= _) _ _ _;refine lm ?_;refine wpAny_updateSeq hS3 rfl (lm (wpAny_letGo (pi ?_)));exact hR2 _ tk3 fun b o hbw hbS e=>(GT _ _ (sB hbS)).trans (xZ b o hbw e)
 refine key _ _ (W.frame _ _ _ hst' fun b gA o e=>(GT _ _ (fun h:S=b=>rJ (by rw [h]; exact gA))).trans e) (Rs _ hS' rfl) fun h'' tk'' hk''=>?_;exact hR v h'' tk'' hP fun b o hbw hbS e=>hk'' b o hbw hbS ((GT _ _ (sB hbS)).trans (hk' b o hbw e))
def YN {E:Value->Shared->Prop} {s:Shared} {x d:Value} {Q:Value->Shared->Prop}
  (h:wpAny (model prog w) A.in1 (pyIter x) (fun it s₂=>∃ I fp wr n P St,it=.ref I/\Walks prog w A.in1 I fp wr n P St/\St 0 s₂.heap/\(∀ b∈fp,b < s₂.heap.objs.size)/\n<=1 /\
   ∀ v h' tk,(n=0/\v=d\/n=1/\P 0 v)->(∀ b o,b ∉ wr->s₂.heap.get? b=some o->h'.get? b=some o)->Q v { s₂ with heap:=h',toks:=tk }) E s) :
  wpAny (model prog w) A (call (.builtin "min") [x] [("default",d)]) Q E s:=by
 have EN:(toString "min" ++ toString ".loop" : String) = "min.loop" := by decide
 refine T0 (_a F.plain_min F.entry_min ?_);have Na:wpAny (model prog w) A.in1 (Builtin.«min» ⟨[x],[("default",d)]⟩) (fun fin s'=>match fin with
   | .done f=>(match (Except.ok f:Result) with | .ok (.ret v)=>Q v s' | .ok _=>False | .error e=>E e s')
   | .again c'=>c'.quiet=true/\codeAny (model prog w) A c' (fun r s'=>match r with | .ok (.ret v)=>Q v s' | .ok _=>False | .error e=>E e s') s') E s:=by
  show wpAny _ A.in1 (Builtin.Builtins.bindParams "min" ["key","default"] 0 ⟨[],[("default",d)]⟩ >>= _) _ _ s;refine lm (wpAny_of_eq (show Builtin.Builtins.bindParams "min" ["key","default"] 0 ⟨[],[("default",d)]⟩=pure [none,some d] from rfl) ?_);refine lm (pi ?_);refine lm (IN h (fun it s₂ h₂=>?_) fun _ _ e=>e);obtain ⟨I,fp,wr,n,P,St,rfl,W,aM,Fl,hn,hQ⟩:=h₂;refine lm (_x ?_);have rJ:s₂.heap.objs.size ∉ fp:=fun hm=>Ix _ (Fl _ hm);rw [EN];refine pi ⟨_0 _C _,?_⟩;have kx:=W.frame _ _ _ aM (fun b _ o e=>lv { cls:=.type "list",data:=.seq ([]:List Value).toArray } e)
  match n,hn,W,hQ with
  | 0,_,W,hQ =>
   refine ZQ W kx (ut _ rfl) fun h' tk hk=>?_;exact hQ d h' tk (.inl ⟨rfl,rfl⟩) fun b o hbw e=>hk b o hbw (lv _ e)
  | 1,_,W,hQ =>
   refine acb W rJ kx (ut _ rfl) fun v h' tk hP hk=>?_;exact hQ v h' tk (.inr ⟨rfl,hP⟩) fun b o hbw e=>hk b o hbw (wS (ul e)) (lv _ e)
 have ha:=Ss x d;simp only [checkBuiltinCall,F.kind_min];cases hsig:Manifest.signature? "min" with
 | none=>exact pi Na
 | some sig =>
  have ha':Bind.checkArgs "min" sig ⟨[x],[("default",d)]⟩=pure ():=by simpa only [argsOk,hsig] using ha
  simp only [ha'];exact pi Na
end
def jx (h:Heap) (d:Addr) (es:Array DictEntry) (ep:Nat):Prop:=∃ o,h.get? d=some o/\o.ExactDict/\o.data=.dict es ep
def jx.at' {h h':Heap} {d:Addr} {es:Array DictEntry} {ep:Nat} (x:jx h d es ep) (k:∀ o,h.get? d=some o->h'.get? d=some o):jx h' d es ep:=let ⟨o,e,r⟩:=x; ⟨o,k o e,r⟩
section
variable {prog:Program} {w:World} {A:Around} {E:Value->Shared->Prop} {s:Shared} {es:Array DictEntry}
def jx.typeIs {d:Addr} {ep:Nat} (x:jx s.heap d es ep):s.TypeIs (.ref d) "dict" := let ⟨o,e,c,_⟩:=x; ⟨o,e,c.1⟩
def HE {d:Addr} {ep:Nat} {Q:Value->Shared->Prop} (hd:(d == sysModules)=false) (hm:jx s.heap d es ep)
  (hQ:Q (.ref s.heap.objs.size) { s with heap:=s.heap.push { cls:=.type "dict_keyiterator",data:=.fields #[.ref d,.int 0 0,.int es.size 0,.int ep 0] } }) :
  wpAny (model prog w) A (pyIter (.ref d)) Q E s:=by
 obtain ⟨o,ho,hc,eN⟩:=id hm;have hT:=hm.typeIs;refine wpAny_pyIter_slot hT F.slot_dict_iter (_X F.slot_dict_iter hT F.entry_dict_iter ?_ (F.args_dict_iter_1 _));unfold Builtin.«dict.__iter__» Builtin.Dict.dictSlotNone;refine lm (lm (wpAny_notOrdered_dict hT ?_));show wpAny _ _ (pure (Value.ref d)) _ _ s;refine pi ?_;show wpAny _ _ (Builtin.Dict.showsAll d >>= _) _ _ s;unfold Builtin.Dict.showsAll;rw [xL (by rw [hd]; exact wf)];refine lm (pi (lm (wpAny_dictEntries ho eN (lm (wpAny_dictEpoch ho eN ?_)))));refine lm (_x (pi ⟨_,rfl,"dict_keyiterator",_,⟨_,ut _ rfl,rfl⟩,_t.lookup,?_⟩))
 simpa [rawInt] using hQ
def Gz {it d:Addr} {i ep:Nat} {Q:Option Value->Shared->Prop} (hit:s.heap.IsKeyIter it d i es.size ep) (hm:jx s.heap d es ep)
  (h1:∀ bK:i < es.size,∀ h',h'.IsKeyIter it d (i+1) es.size ep->Heap.SameBut it s.heap h'->Q (some es[i].key) { s with heap:=h' })
  (h2:es.size<=i->A.handled=none/\∀ h',Heap.ExtBut it s.heap h'->Q none { s with heap:=h' }) :
  wpAny (model prog w) A (pyNext (.ref it)) Q E s:=by
 obtain ⟨o,ho,hc,hd⟩:=id hit;obtain ⟨od,yy,bQ,xY⟩:=id hm;unfold pyNext;refine lm (_Z (wpAny_callSpecial?_slot (name:=Str.ofString "__next__") hit.typeIs _t
  (_X _t hit.typeIs F.entry_dict_keyiterator_next ?_ (F.args_dict_keyiterator_next_1 _))))
 refine lm (pi (lm (lm ?_)));refine lm (_l hit.typeIs (pi ?_));refine lm (wpAny_fieldsOf ho hd ?_);simp only [show Builtin.Dict_items.ownsTuple "dict_keyiterator" = false by decide,IO,ZB];show wpAny _ _ (if (Value.ref d == Value.none)=true then _ else _) _ _ s;rw [xL (show ¬ ((Value.ref d == Value.none)=true) from wf)];refine lm (pi (lm (wpAny_dictEntries yy xY ?_)));rw [xL (by simp)];refine lm (pi (lm (wpAny_dictEpoch yy xY ?_)));rw [xL (by simp)];refine pi ?_;rcases Nat.lt_or_ge i es.size with bK | iN
 ·simp only [show ¬ ((i:Int) < 0) from by omega,ZB,Int.toNat_natCast,Array.getElem?_eq_getElem bK];refine lm (lm (_l hit.typeIs (pi ?_)));refine lm (wpAny_isOneOf_keyiter hit.typeIs ?_);show wpAny _ _ (setField (.ref it) 1 (rawInt ((i:Int)+1)) >>= _) _ _ s;refine lm (wpAny_setField ho hd (by simp) ?_);have hit':(s.heap.update it (Obj.mapFields (·.setIfInBounds 1 (rawInt ((i:Int)+1))))).IsKeyIter it d (i+1) es.size ep :=
   ⟨_,Rs _ ho (Obj.isFreed_of_fields (Jae hd _)),(Obj.cls_mapFields ..).trans hc,by rw [Jae hd]; simp [rawInt]⟩
  refine lm (FS (lm (wpAny_isOneOf_keyiter (s:={ s with heap:=s.heap.update it (Obj.mapFields (·.setIfInBounds 1 (rawInt ((i:Int)+1)))) }) hit'.typeIs ?_)));show wpAny _ _ (pure es[i].key) _ _ _;exact pi (pi ⟨_,rfl,pi (h1 bK _ hit' (Heap.SameBut.update ..))⟩)
 ·obtain ⟨hh,hQ⟩:=h2 iN;simp only [show ¬ ((i:Int) < 0) from by omega,ZB,Int.toNat_natCast,Array.getElem?_eq_none iN];refine lm (lm (_l hit.typeIs (pi ?_)));show wpAny _ _ (setField (.ref it) 0 .none >>= _) _ _ s;refine lm (wpAny_setField ho hd (by simp) ?_);show wpAny _ _ (newExc (.type "StopIteration") [] >>= _) _ _ _;refine lm ?_;simp only [newExc,newTuple];refine lm (_x ?_ (by size_fits));refine lm (m:=firstArgMember _ _) (wpAny_of_eq (a:=Value.none) (by first | rfl | (simp only [firstArgMember]; rfl)) ?_);refine _x ?_ (by size_fits);simp only [raiseNew];refine lm (wpAny_handled ?_);rw [show A.in1.handled=none from hh];refine lm (pi (wpAny_throw ?_));refine lm (wpAny_isInstance (T := "StopIteration") (b:=true) ⟨_,ut _ rfl,rfl⟩ isSubtype_stop ?_);exact pi (hQ _ (((Heap.SameBut.update ..).extBut.push _).push _))
def K8 (hh:A.handled=none) (I d:Addr) (dY:d≠I) (es:Array DictEntry) (ep:Nat) :
  Walks prog w A I [I,d] [I] es.size (fun i v=>∃ e,es[i]?=some e/\v=e.key) (fun i h=>h.IsKeyIter I d i es.size ep/\jx h d es ep) where
 sub:=fun b hb=>by simp at hb; simp [hb]
 frame:=fun _ _ _ st hk=>⟨st.1.at fun o e=>hk I (by simp) o e,st.2.at' fun o e=>hk d (by simp) o e⟩
 item:=fun i s Q E hi st hQ=>Gz st.1 st.2 (fun bK h' hit' hs'=>hQ _ h' s.toks ⟨es[i],by simp [bK],rfl⟩ ⟨hit',st.2.at' fun o e=>hs'.extBut d o dY e⟩ fun b o hb e=>hs'.extBut b o (fun h=>hb (by simp [h])) e) fun iN=>absurd hi (Nat.not_lt.mpr iN)
 done:=fun s Q E st hQ=>Gz st.1 st.2 (fun bK=>absurd bK (Ix _)) fun _=>⟨hh,fun h' he'=>hQ h' s.toks fun b o hb e=>he' b o (fun h=>hb (by simp [h])) e⟩
 self:=fun _ _ _ _ st hQ=>wpAny_pyIter_keyiter st.1 hQ
end
section
variable {X:Cx}
def BR (te:TE):TE:=fun σ H Q=>te σ H fun x H1=>∃ a kvs,x=.ref a/\H1 a=some (.dT kvs)/\((kvs=[]/\Q .aw H1)\/∃ k v,kvs=[(k,v)]/\∀ p,H1 p=some (.tup (k.map kV))->Q (.ref p) H1)
def ab8 {e:Expr} {te:TE} {p p2 p3 pos:Pos} {j:Nat} (hc:X.calm=true) (hg:Gl X "min") (hm:X.mg "min" = none) (he:PE X e te) (hs:starEach [e] X.env=[(false,eval e X.env)]:=by rfl) :
  PE X (.Call (.Name "min" p) [e] [⟨some "default",.Constant .none j p2,p3⟩] pos) (BR te):=by
 intro π s σ H Q I h;refine FB (oz (u:=.builtin "min") I hg hm (by kernel_rfl) ?_);refine callWith_kw ?_ (by rw [hs]; rfl) (by rw [hs]; rfl);rw [hs];show wpAny _ _ (spliced ((false,eval e X.env)::backTo pos [])) _ _ s;refine TW (aC (he π s σ H _ I h) fun u s1 ⟨x,H1,I1,rx,a,kvs,ex,hd,q⟩=>W1 ?_);subst ex;cases (show u=Value.ref a from rx);refine kws_cons (Constant_none (kws_nil ?_));show wpAny _ _ (call (.builtin "min") [.ref a] [("default",.none)]) _ _ s1;obtain ⟨hz,hS,xs,hp,o,es,ep,ho,hex,eN,oZ,LU⟩:=id (I1.ay a _ hd);refine YN (HE hS ⟨o,ho,hex,eN⟩ ?_);have bK:a < s1.heap.objs.size:=ul ho;have hW:=K8 (prog:=X.prog) (w:=X.w) (A:=X.A.in1) (I1.ok.hd hc) s1.heap.objs.size a (wS bK) es ep;have yH:(s1.heap.push { cls:=.type "dict_keyiterator",data:=.fields #[.ref a,.int 0 0,.int es.size 0,.int ep 0] }).IsKeyIter s1.heap.objs.size a 0 es.size ep/\jx (s1.heap.push { cls:=.type "dict_keyiterator",data:=.fields #[.ref a,.int 0 0,.int es.size 0,.int ep 0] }) a es ep :=
  ⟨⟨_,ut _ rfl,rfl,rfl⟩,⟨o,lv _ ho,hex,eN⟩⟩
 have Fl:∀ b∈[s1.heap.objs.size,a],b < (s1.heap.push { cls:=.type "dict_keyiterator",data:=.fields #[.ref a,.int 0 0,.int es.size 0,.int ep 0] }).objs.size:=fun b hb=>by
  rw [_h];rcases mo.mp hb with e | hb
  ·rw [e]; exact On _
  ·rw [FM.mp hb]; exact Nat.lt_succ_of_lt bK
 have kp:∀ h':Heap,(∀ b o,b ∉ [s1.heap.objs.size]->(s1.heap.push { cls:=.type "dict_keyiterator",data:=.fields #[.ref a,.int 0 0,.int es.size 0,.int ep 0] }).get? b=some o->h'.get? b=some o)->∀ b o,s1.heap.get? b=some o->h'.get? b=some o:=fun h' k b o e =>
  k b o (fun z=>by have z':=FM.mp z; have:=ul e; rw [z'] at this; exact Ix _ this) (lv _ e)
 have hsz:es.size=xs.length:=by rw [<- Re,oZ,pp]
 refine ⟨_,_,_,_,_,_,rfl,hW,yH,Fl,?_,fun v h' tk hv hk=>?_⟩
 ·rcases q with ⟨rfl,_⟩ | ⟨k,v,rfl,_⟩
  ·cases hp; rw [hsz]; exact Cl _
  ·cases hp with | cons _ t=>cases t; rw [hsz]; exact sK _
 ·have I2:Inv X π σ H1 { s1 with heap:=h',toks:=tk }:=I1.kept (t':=tk) (kp h' hk);rcases q with ⟨rfl,q⟩ | ⟨k,v',rfl,q⟩
  ·cases hp;rcases hv with ⟨_,rfl⟩ | ⟨h1,_⟩
   ·exact ⟨.aw,H1,I2,rfl,q⟩
   ·rw [hsz] at h1; cases h1
  ·cases hp with
   | @cons _ y _ _ hh t =>
    cases t;rcases hv with ⟨h1,_⟩ | ⟨_,e,he,rfl⟩
    ·rw [hsz] at h1; cases h1
    ·rw [<- Sc,oZ] at he;cases he;exact ⟨.ref y.2.1,H1,I2,rfl,q _ hh.2.1⟩
end
def bV {f:Str} {v:V} {fs:List (Str×V)} {m:Nat} (h:fs.length<=m):(ax f v fs).length<=m+1:=u8 (zb f v fs) (Nat.succ_le_succ h)
def dN (fs gs:List (Str×V)):Prop:=∀ f,fs.lookup f=gs.lookup f
def dN.refl (fs:List (Str×V)):dN fs fs:=fun _=>rfl
def dN.put {fs gs:List (Str×V)} (h:dN fs gs) (f:Str) (v:V):dN (ax f v fs) (ax f v gs):=fun g=>by rw [eX,eX,h g]
section
variable {X:Cx}
def VA {π:List (Addr×Obj)} {σ:St} {H:Hp} {s:Shared} {Q:VK} {p:Addr} (hc:X.calm=true) (I:Inv X π σ H s) (hd:H p=some (.dT [])) (q:∀ l,H l=none->Q (.ref l) (upd H l (.lst []))) :
  wpAny (model X.prog X.w) X.A (call (.builtin "sorted") [.ref p]) (EP X π σ Q) X.xe s:=by
 obtain ⟨hz,hS,xs,hp,o,es,ep,ho,hex,eN,oZ,LU⟩:=id (I.ay p _ hd);cases hp;have he:es=#[]:=by
  have:es.toList=[]:=oZ;exact Array.toList_eq_nil_iff.mp this
 subst he;have Fn:s.heap.DictAt (dM X.prog X.w) p [] ep:=⟨o,#[],ho,hex,eN,fun e z=>absurd z (by simp),.nil,.nil⟩;refine Calls.call_function_entry kind_sorted plain_sorted entry_sorted (args_sorted1 _) ?_;unfold Builtin.«sorted»;refine lm (m:=checkCount "sorted" 1 1 _) (pi ?_);refine lm (PySem.W.kdu_collect (A:=X.A.in1) (PySem.W.kdl_dict (knd:=dM X.prog X.w) (kvs:=[]) (ep:=ep) hS) (I.ok.hd hc) Fn (Cl _) fun h' tk acc hk' gP=>?_);have ha:acc=#[]:=Array.eq_empty_of_size_eq_zero gP.1;subst ha;refine lm (wpAny_newList ?_ (Cl _));have lU:(h'.push (seqObj "list" ([]:List Value).toArray 0)).get? h'.objs.size=some (seqObj "list" ([]:List Value).toArray 0):=ut _ rfl;refine lm (FS (_X slot_list_sort ⟨_,lU,rfl⟩ entry_list_sort (list_sort_treeK strKind_oneLt (vs:=[]) lU (StrsAre.nil).keysOf (fun v₁ v₂ rest e=>nomatch e) (by decide) fun st' a1 a2=>⟨_,rfl,?_⟩) (args_list_sort _)));refine pi ⟨_,rfl,?_⟩;obtain ⟨e,he⟩:=sortedHeap_at (out:=(arrOf st').map (·.2)) lU;have aM:arrOf st'=#[]:=Array.eq_empty_of_size_eq_zero (a1.size_eq.trans (pairsOf_size []));rw [aM,Array.map_empty] at he;have I1:Inv X π σ H { s with heap:=h',toks:=tk }:=I.kept (t':=tk) hk';rw [aM,Array.map_empty];refine ⟨.ref h'.objs.size,_,I1.laid (t':=tk) (fun b o z=>?_) (sK _) (show bG X.prog X.w _ _ _ (.lst []) from ⟨Cl _,[],e,.nil,he⟩),rfl,q _ (I1.ay.fresh (sK _))⟩;have hb:b < h'.objs.size:=ul z;rw [sortedHeap_old (wS hb) (by have:=_h h' (seqObj "list" ([]:List Value).toArray 0); rw [this]; exact Nat.lt_succ_of_lt hb)];exact lv _ z
def O4 (K:ν):List V->Hp->VK->Prop:=fun xs H Q=>KI K xs H Q\/KS xs H Q\/∃ p,xs=[.ref p]/\H p=some (.dT [])/\∀ l,H l=none->Q (.ref l) (upd H l (.lst []))
def YE {K:ν} (h:X.K=K) (hc:X.calm=true):cT X (.builtin "sorted") (O4 K):=by
 subst h;intro π s σ H xs us Q I r h;rcases h with h | h | ⟨p,rfl,hd,q⟩
 ·exact UW π s σ H xs us Q I r h
 ·exact aar hc π s σ H xs us Q I r h
 ·obtain ⟨u,rfl,rx⟩:=vals1 r;cases rx;exact VA hc I hd q
def Vr:bootBuiltins "sorted" = some (.builtin "sorted"):=by kernel_rfl
def Dv.minD {e:Expr} {te:TE} {p p2 p3 pos:Pos} {j:Nat} (hc:X.calm=true) (hm:X.mg "min" = none) (he:QE X e te) (hg:Gl X "min" := by rfl) (hs:starEach [e] X.env=[(false,eval e X.env)]:=by rfl) :
  QE X (.Call (.Name "min" p) [e] [⟨some "default",.Constant .none j p2,p3⟩] pos) (BR te):=⟨ab8 hc hg hm he.h hs⟩
end
structure uA (K:ν) (x qual:Str) (st:Stmt) (f:Addr) (fd:FuncData) (ds:List Value):Prop where
 ex:∃ (oc:Value) (od:Option Addr) (dt:Addr) (kV doc pm:Value) (an:Option Addr) (ao ct:Value) (dF:Array (Option Value)) (o:Obj) (n:Nat),
  fd=PySem.W.fnOf x qual (fm st) (bb st) (aB st) (.ref dt) kV doc pm an ao ct/\K.lookup f=some ⟨oc,od,.func fd,dF⟩/\PySem.W.codeIn K ao qual=true/\K.lookup dt=some o/\o.data=.seq ds.toArray n
 kp:PySem.W.keepIn K (.ref f)=true
section
variable {P:Program} {w:World} {K:ν} {mg:Str->Option Value} {base:Heap} {CX:dX} {x qual:Str} {st:Stmt} {f:Addr} {fd:FuncData} {N ps:List Str} {k:Nat} {ds:List Value}
def uA.dJ {sp:Sp} (F:uA K x qual st f fd ds) (S:aF N ps (aB st)) (len:∀ vs H Q E,sp vs H Q E->vs.length=ps.length)
  (hb:∀ (ao:Value) (A:Around) (outer:List Env) (s:Shared) (H:Hp) (vs:List V) (Q:VK) (E:XK),bf k (A.deeper (envOfC qual (aB st) s.heap.objs.size f ao))->sp vs H Q E ->
   ∃ t,dH (en CX P w K mg base N qual (aB st) f ao A outer s H E) (bb st) t/\t { nx:=fun _ H'=>Q .aw H',rt:=Q } (start N vs) H):aA P w K mg base CX (k+1) f fd ps sp:=by
 obtain ⟨oc,od,dt,kV,doc,pm,an,ao,ct,dF,o,n,rfl,lk,bQ,_⟩:=F.ex;exact wz lk bQ S len fun A outer s H vs Q E hr ef=>hb ao A outer s H vs Q E hr ef
def Tt {oc:Value} {od an:Option Addr} {dF:Array (Option Value)} {kV doc pm ao ct:Value} {dt:Addr} {o:Obj} {n:Nat} (l:K.lookup f=some ⟨oc,od,.func (PySem.W.fnOf x qual (fm st) (bb st) (aB st) (.ref dt) kV doc pm an ao ct),dF⟩)
  (c:PySem.W.codeIn K ao qual=true) (k:PySem.W.keepIn K (.ref f)=true) (ld:K.lookup dt=some o) (hd:o.data=.seq ds.toArray n):uA K x qual st f (PySem.W.fnOf x qual (fm st) (bb st) (aB st) (.ref dt) kV doc pm an ao ct) ds :=
 ⟨⟨oc,od,dt,kV,doc,pm,an,ao,ct,dF,o,n,rfl,l,c,ld,hd⟩,k⟩
def gn.Vv {sp:vO} (F:gn K x qual st f fd) (S:aF N ps (aB st)) (len:∀ outer s vs H Q E,sp outer s vs H Q E->vs.length=ps.length)
  (hb:∀ (ao:Value) (A:Around) (outer:List Env) (s:Shared) (H:Hp) (vs:List V) (Q:VK) (E:XK),bf k (A.deeper (envOfC qual (aB st) s.heap.objs.size f ao))->sp outer s vs H Q E ->
   ∃ t,dH (en CX P w K mg base N qual (aB st) f ao A outer s H E) (bb st) t/\t { nx:=fun _ H'=>Q .aw H',rt:=Q } (start N vs) H):uK P w K mg base CX (k+1) f fd ps sp:=by
 obtain ⟨oc,od,kV,doc,pm,an,ao,ct,dF,rfl,lk,bQ⟩:=F.ex;exact Wz lk bQ S len fun A outer s H vs Q E hr ef=>hb ao A outer s H vs Q E hr ef
end
section
variable {X:Cx}
def Dv.cP (i:Nat) {k:Nat} {x:Str} {p pos:Pos} {B:Addr->Prop} {f:Addr} {cA:Hp->VK->XK->Prop} {R:St->XK} (D:mT X.prog X.w X.K X.mg X.base k X.s₀ B f cA) (hB:wa X.outer X.H₀ X.s₀ B) (hf:Be X.s₀ f) (gA:B f) (hr:bf k X.A) (hx:gE X R)
  (hex:X.ex=[]:=by rfl) (hN:X.N[i]?=some x:=by rfl) (hv:mC X.env.scope x:=by first | exact Or.inl rfl | exact Or.inr (Or.inl rfl) | exact Or.inr (Or.inr rfl))
  (hd:(x == ("__debug__" : Str))=false:=by decide) (bQ:(x == ("__classdict__" : Str))=false:=by decide):QE X (.Call (.Name x p) [] [] pos) (BA i f cA R):=⟨Qt hN hv D hB hf gA hex hr hx hd bQ⟩
end
def gW {X:Cx}:gE X (fun _=>E0) where
 pass:=fun π σ H s e s' I hc=>by
  obtain ⟨ea,C,od,H',rfl,F,hE⟩:=hc;exact hE.elim
section
variable {X:Cx}
def Dv.Y5 {P:Addr} {q:Str} {ix:List Nat} {W:List V->fg} {lV:fg->fg} {R:St->XK} {params:Arguments} {body:Expr} {scope:Scope} {cR:List (Str×Addr)} {N':List Str} {fK p pos:Pos} {x y:Str} {g:Addr} {fd:FuncData} {k k':Nat}
  (F:uK X.prog X.w X.K X.mg X.base (bI X.prog X.w) k' g fd [y] (y6 X.prog X.w X.K X.mg X.base (k+1) lV)) (hr:bf k' X.A) (hm:X.mg x=some (.ref g)) (hk:PySem.W.keepIn X.K (.ref g)=true) (hb:Binds X.K fd [y] []) (hx:gE X R)
  (js:∀ (f:Addr) (ao:Value) (vs:List V) (A:Around) (outer:List Env) (s:Shared) (H:Hp) (Q:VK) (E:XK),bf k (A.deeper (PySem.W.envX q scope s.heap.objs.size f ao cR))->W vs H Q E ->
   ∃ t,PE (mB X.prog X.w X.K X.mg X.base N' q scope f ao cR A outer s H E) body t/\t (vs.map some) H Q)
  (L:wC X P params scope cR q) (S:qR N' scope cR) (C:sy X N' ix cR)
  (o8:∀ pm cd ct,bindArgs (PySem.W.kla_fn "<lambda>" q params body scope cR pm cd ct) ⟨[],[]⟩=pure []:=by exact fun _ _ _=>rfl) (hg:Gl X x:=by rfl)
  (bF:(x == ("__debug__" : Str))=false:=by decide):QE X (.Call (.Name x p) [.Lambda params body scope fK] [] pos) (Bc P q ix W lV R):=⟨Ys L S C F hr hg hm hk hb hx o8 js bF⟩
end
def fw {α:Type} (p:α->Prop):List α->Prop
 | []=>True
 | a::r=>p a/\fw p r
def fw.mem {α:Type} {p:α->Prop}:∀ {l:List α},fw p l->∀ a∈l,p a
 | _::_,h,a,ha=>by
  rcases mo.mp ha with rfl | ha
  ·exact h.1
  ·exact fw.mem h.2 a ha
def Wb:∀ {cl:List (Str×Addr)},(cl.map (·.2)).Nodup->∀ x y c,cl.lookup x=some c->cl.lookup y=some c->x=y:=by
 intro cl nd x y c h1 h2;have m1:=Fk h1;have m2:=Fk h2
 induction cl with
 | nil=>cases m1
 | cons e r ih =>
  have nd':=Do.mp (show (e.2::r.map (·.2)).Nodup from nd);rcases mo.mp m1 with e1 | e1 <;> rcases mo.mp m2 with e2 | e2
  ·rw [<- e1] at e2; exact (Ps Prod.fst e2).symm
  ·exact absurd (EQ.mpr ⟨_,e2,by rw [<- e1]⟩) nd'.1
  ·exact absurd (EQ.mpr ⟨_,e1,by rw [<- e2]⟩) nd'.1
  ·have go:∀ {l:List (Str×Addr)},(l.map (·.2)).Nodup->(x,c)∈l->(y,c)∈l->x=y:=by
    intro l
    induction l with
    | nil=>intro _ a; cases a
    | cons e r ih =>
     intro nd a b;have nd':=Do.mp (show (e.2::r.map (·.2)).Nodup from nd);rcases mo.mp a with e1 | e1 <;> rcases mo.mp b with e2 | e2
     ·rw [<- e1] at e2; exact (Ps Prod.fst e2).symm
     ·exact absurd (EQ.mpr ⟨_,e2,by rw [<- e1]⟩) nd'.1
     ·exact absurd (EQ.mpr ⟨_,e1,by rw [<- e2]⟩) nd'.1
     ·exact ih nd'.2 e1 e2
   exact go nd'.2 e1 e2
def qR.of {N:List Str} {scope:Scope} {cl:List (Str×Addr)} (kind:scope.kind=.function) (co:scope.isCoroutine=false) (gen:scope.isGenerator=false) (su:scope.names.all (fun x=>x.2 != .cell)=true)
  (free:N.all (fun x=>scope.names.lookup x == some .free)=true) (has:fw (fun e:Str×NameKind=>e.2=.free->∃ c,cl.lookup e.1=some c) scope.names) (nd:(cl.map (·.2)).Nodup):qR N scope cl where
 kind:=kind
 co:=co
 gen:=gen
 su:=fun x hx=>by simpa using At.mp su x hx
 free:=fun x hx=>by simpa using At.mp free x hx
 has:=fun x hx=>fw.mem has _ (Fk hx) rfl
 inj:=Wb nd
def sy.of {X:Cx} {N':List Str} {ix:List Nat} {cR:List (Str×Addr)} (len:ix.length=N'.length) (own:X.fn=fun _=>true)
  (at':fw (fun e:Nat×Str=>X.N[e.1]?=some e.2/\X.env.scope.names.lookup e.2=some .cell/\cR.lookup e.2=X.env.cells.lookup e.2) (ix.zip N'))
  (iA:fw (fun e:Str×Addr=>X.env.cells.lookup e.1=some e.2) cR):sy X N' ix cR where
 len:=len
 at':=fun i j h=>by
  have hi:=(sw.mp h).1;have hi':i < N'.length:=len ▸ hi;have hm:(j,N'[i])∈ix.zip N':=by
   refine _V.mpr ⟨i,?_⟩;rw [_E];exact ⟨h,ss hi'⟩
  have z:=fw.mem at' _ hm;exact ⟨N'[i],ss hi',z.1,z.2.1⟩
 iA:=fun x c h=>fw.mem iA _ (Fk h)
 Jw:=fun x hx=>by
  obtain ⟨i,hi,rfl⟩:=Ja3 hx;have hi':i < ix.length:=len ▸ hi;have hm:(ix[i],N'[i])∈ix.zip N':=by
   refine _V.mpr ⟨i,?_⟩;rw [_E];exact ⟨ss hi',ss hi⟩
  exact (fw.mem at' _ hm).2.2
 own:=fun _ _ _=>by rw [own]
def gn.okC {P:Program} {w:World} {K:ν} {mg:Str->Option Value} {base:Heap} {CX:dX} {x qual:Str} {st:Stmt} {f:Addr} {fd:FuncData} {N ps:List Str} {k:Nat} {sp:Sp} (F:gn K x qual st f fd) (S:aF N ps (aB st)) (len:∀ vs H Q E,sp vs H Q E->vs.length=ps.length)
  (hb:∀ (ao:Value) (A:Around) (outer:List Env) (s:Shared) (H:Hp) (vs:List V) (Q:VK) (E:XK),fd.code=ao->bf k (A.deeper (envOfC qual (aB st) s.heap.objs.size f ao))->sp vs H Q E ->
   ∃ t,dH (en CX P w K mg base N qual (aB st) f ao A outer s H E) (bb st) t/\t { nx:=fun _ H'=>Q .aw H',rt:=Q } (start N vs) H):aA P w K mg base CX (k+1) f fd ps sp:=by
 obtain ⟨oc,od,kV,doc,pm,an,ao,ct,dF,rfl,lk,bQ⟩:=F.ex;exact wz lk bQ S len fun A outer s H vs Q E hr ef=>hb ao A outer s H vs Q E rfl hr ef
section
variable {X:Cx}
def vX {π:List (Addr×Obj)} {σ:St} {H:Hp} {s:Shared} {A:Around} {a b:Addr} {xs ys:List V} (I:Inv X π σ H s) (ha:aD X.K H a xs) (hb:aD X.K H b ys) (h0:xs=[]\/ys=[]) (hu:A.units < cLine) :
  SeqAt.RcAt A s (.ref a) (.ref b) (decide (xs=ys))/\SeqAt.RcNeAt A s (.ref a) (.ref b) (!decide (xs=ys)):=by
 obtain ⟨i1,r1,p1,_⟩:=I.list ha;obtain ⟨i2,r2,p2,_⟩:=I.list hb;have n1:i1.toArray.size=xs.length:=by rw [tz,<- r1.length]
 have n2:i2.toArray.size=ys.length:=by rw [tz,<- r2.length]
 by_cases h:xs.length=ys.length
 ·have e1:xs=[]:=by
   rcases h0 with e | e
   ·exact e
   ·rw [e] at h; exact _k.mp h
  have e2:ys=[]:=by rw [e1] at h; exact _k.mp h.symm
  subst e1 e2;have hsz:i1.toArray.size=i2.toArray.size:=by rw [n1,n2]
  have hz:i1.toArray.size=0:=n1;have k1:=SeqAt.RcAt.lists (A:=A) (s:=s) (e:=fun _=>true) p1.isList p2.isList hsz hu (fun j g1 g2=>absurd g1 (by rw [hz]; exact Nat.not_lt_zero _));have k2:=Jad (A:=A) (s:=s) (e:=fun _=>true) p1.isList p2.isList hsz hu (fun j g1 g2=>absurd g1 (by rw [hz]; exact Nat.not_lt_zero _));rw [hz] at k1 k2;exact ⟨k1,k2⟩
 ·have hsz:(i1.toArray.size != i2.toArray.size)=true:=by rw [n1,n2]; simpa using h
  have e:decide (xs=ys)=false:=pc fun z=>h (by rw [z]);rw [e];exact ⟨SeqAt.RcAt.lists_lengths p1.isList p2.isList hsz hu,SeqAt.RcNeAt.lists_lengths p1.isList p2.isList hsz hu⟩
def qZ (K:ν) (neg:Bool):R2:=fun x y H Q=>match x,y with
 | .ref a,.ref b=>∃ xs ys:List V,aD K H a xs/\aD K H b ys/\((ys=[]/\Q (.bl (neg ^^ xs.isEmpty)) H)\/(xs=[]/\Q (.bl (neg ^^ ys.isEmpty)) H))
 | _,_=>False
def JJ {xs ys:List V} (h:ys=[]):decide (xs=ys)=xs.isEmpty:=by subst h; cases xs <;> simp
def Gv {xs ys:List V} (h:xs=[]):decide (xs=ys)=ys.isEmpty:=by subst h; cases ys <;> simp
def acu {K:ν} (hK:X.K=K) (hu:X.A.units < cLine):bc X (compareOp .Eq) (qZ K false):=by
 subst hK;intro π s σ H x y v u Q I rx ry h;unfold qZ at h;split at h
 ·obtain ⟨xs,ys,ha,hb,q⟩:=h;cases rx; cases ry;simp only [Bool.false_bne] at q;rcases q with ⟨e,q⟩ | ⟨e,q⟩
  ·exact (vX I ha hb (.inr e) hu).1 _ _ _ _ ⟨.bl _,H,I,rfl,by rw [JJ e]; exact q⟩
  ·exact (vX I ha hb (.inl e) hu).1 _ _ _ _ ⟨.bl _,H,I,rfl,by rw [Gv e]; exact q⟩
 ·exact h.elim
def P4 {K:ν} (hK:X.K=K) (hu:X.A.units < cLine):bc X (compareOp .NotEq) (qZ K true):=by
 subst hK;intro π s σ H x y v u Q I rx ry h;unfold qZ at h;split at h
 ·obtain ⟨xs,ys,ha,hb,q⟩:=h;cases rx; cases ry;simp only [Bool.true_bne] at q;rcases q with ⟨e,q⟩ | ⟨e,q⟩
  ·exact (vX I ha hb (.inr e) hu).2 _ _ _ _ ⟨.bl _,H,I,rfl,by rw [JJ e]; exact q⟩
  ·exact (vX I ha hb (.inl e) hu).2 _ _ _ _ ⟨.bl _,H,I,rfl,by rw [Gv e]; exact q⟩
 ·exact h.elim
def zi:V->List V->Hp->VK->Prop:=fun x vs H Q=>match x,vs with
 | .ref l,[]=>∃ xs y,H l=some (.lst (xs++[y]))/\Q y (upd H l (.lst xs))
 | _,_=>False
def Gm:ei X "list.pop" zi:=ei.imp (r:=Gk) Q3 fun x vs H Q h=>by
 unfold zi at h;split at h
 ·obtain ⟨xs,y,hl,q⟩:=h;refine ⟨_,xs++[y],y,rfl,rfl,hl,?_,?_⟩
  ·simp
  ·rw [List.dropLast_concat]; exact q
 ·exact h.elim
def Pg:V->List V->Hp->VK->Prop:=fun x vs H Q=>match x,vs with
 | .ref l,[]=>∃ xs,H l=some (.lst xs)/\Q .aw (upd H l (.lst []))
 | _,_=>False
def UJ:List V->Hp->VK->Prop:=fun xs H Q=>∃ p kvs,xs=[.ref p]/\H p=some (.dT kvs)/\∀ l (ks:List Addr),ks.length=kvs.length->(∀ (i:Nat) (a:Addr) (k:List Key) (v:V),ks[i]?=some a->kvs[i]?=some (k,v)->H a=some (.tup (k.map kV)))->H l=none ->
 Q (.ref l) (upd H l (.lst (ks.map V.ref)))
end
def U7 {prog:Program} {w:World} {d:Addr} {es:Array DictEntry} {ep:Nat} (lo:(d == sysModules)=false):PySem.W.KdlSrc prog w "dict" d d es.size (fun i v=>∃ e,es[i]?=some e/\v=e.key) (fun h=>jx h d es ep) where
 type:=fun _ hm=>hm.typeIs
 there:=fun _ hm=>let ⟨_,e,_⟩:=hm; ⟨ul e,ul e⟩
 keep:=fun _ _ hm hk=>hm.at' fun o e=>hk d (.inl rfl) o e
 notList:=by decide
 notTuple:=by decide
 hint:=fun _ _ _ _ hm hq=>PySem.W.kdl_hint_dict hm.typeIs hq
 iter:=fun _ _ hh hm=>⟨_,_,(fun _ _ hq=>HE lo hm hq),K8 hh _ d (let ⟨_,e,_⟩:=hm; wS (ul e)) es ep,⟨⟨_,ut _ rfl,rfl,rfl⟩,hm.at' fun o e=>lv _ e⟩⟩
def G1 {α β:Type} {F:α->β->Prop}:∀ {l₁:List α} {l₂:List β},Paired F l₁ l₂->∀ {i:Nat} {a:α} {b:β},l₁[i]?=some a->l₂[i]?=some b->F a b
 | _,_,.cons h _,0,_,_,e1,e2=>by cases e1; cases e2; exact h
 | _,_,.cons _ t,i+1,_,_,e1,e2=>G1 t e1 e2
section
variable {X:Cx}
def z9:∀ {vs:List V} {us:List Value},vs.length=us.length->(∀ (i:Nat) (v:V) (u:Value),vs[i]?=some v->us[i]?=some u->RelV v u)->Vals vs us
 | [],[],_,_=>.nil
 | v::vs,u::us,e,h=>.cons (h 0 v u rfl rfl) (z9 (by simpa using e) fun i v u h1 h2=>h (i+1) v u h1 h2)
def Uh (hc:X.calm=true):cT X (.type "list") UJ:=by
 intro π s σ H xs us Q I r h;obtain ⟨p,kvs,rfl,hd,q⟩:=h;obtain ⟨u,rfl,rx⟩:=vals1 r;cases rx;obtain ⟨hz,hS,ys,hp,o,es,ep,ho,hex,eN,oZ,LU⟩:=id (I.ay p _ hd);have hsz:es.size=ys.length:=by rw [<- Re,oZ,pp]
 have lM:kvs.length=ys.length:=hp.length;refine PySem.W.kdl_call (U7 (prog:=X.prog) (w:=X.w) (ep:=ep) (es:=es) hS) (I.ok.hd hc) ⟨o,ho,hex,eN⟩ (by rw [hsz,<- lM]; exact hz) fun h' tk acc c hk hD gP=>?_;have hal:acc.toList.length=ys.length:=by rw [Re,gP.1,hsz]
 have hv:Vals ((ys.map (·.2.1)).map V.ref) acc.toList:=by
  refine z9 (by simp [hal]) fun i v u h1 h2=>?_;obtain ⟨e,he,rfl⟩:=gP.2 i u (by rw [<- Sc]; exact h2);rw [<- Sc,oZ,Da] at he;rw [Tm,Da] at h1;cases hy:ys[i]? with
  | none=>rw [hy] at h1; cases h1
  | some y =>
   rw [hy] at h1 he;cases h1; cases he;exact rfl
 refine ⟨.ref s.heap.objs.size,_,I.laid (t':=tk) hk (sK _) (show bG X.prog X.w _ _ _ (.lst ((ys.map (·.2.1)).map V.ref)) from ⟨?_,_,c,hv,?_⟩),rfl,q _ (ys.map (·.2.1)) ?_ (fun i a k v h1 h2=>?_) (I.ay.fresh (sK _))⟩
 ·simp only [pp]; rw [<- lM]; exact hz
 ·rw [_3]; exact hD
 ·rw [pp,lM]
 ·rw [Da] at h1;cases hy:ys[i]? with
  | none=>rw [hy] at h1; cases h1
  | some y =>
   rw [hy] at h1;cases h1;have z:=G1 hp h2 hy;exact z.2.1
end
def To:typeLookup (.type "list_reverseiterator") "__len__" = pure none:=by rw [typeLookup_type,builtinLookup_eq_fast]; kernel_rfl
def Y7:typeLookup (.type "list_reverseiterator") "__length_hint__" = pure (some (.builtin "list_reverseiterator.__length_hint__")):=by rw [typeLookup_type,builtinLookup_eq_fast]; kernel_rfl
section
variable {prog:Program} {w:World} {A:Around} {E:Value->Shared->Prop} {s:Shared} {I:Addr}
def Su {Q:Bool->Shared->Prop} (hT:s.TypeIs (.ref I) "list_reverseiterator") (h:Q false s):wpAny (model prog w) A (Builtin.List.listLengthHint (.ref I)) Q E s:=by
 unfold Builtin.List.listLengthHint;refine lm (wpAny_specialOf hT To ?_);show wpAny _ A (specialOf (Value.ref I) (Str.ofString "__length_hint__") >>= _) _ _ _;refine lm (wpAny_specialOf hT Y7 ?_);generalize hid:("list_reverseiterator.__length_hint__" : String)=id0
 wp_delta
 rw [show splitId id0=some ("list_reverseiterator","__length_hint__") from by subst hid; decide +kernel];subst hid;refine lm (wpAny_isInstance (T := "list_reverseiterator") (b:=true) hT (by rw [isSubtype_type]; kernel_rfl) ?_);refine _8 (fun ff=>absurd ff (by decide)) (fun _=>?_);refine _8 (fun _=>?_) (fun ff=>absurd (by decide +kernel) ff);refine _8 (fun ff=>absurd ff (by decide +kernel)) (fun _=>?_);exact pi h
def Up {R:Result->Shared->Prop} {l S:Addr} {items:Array Value} {res:Value} {c₀:Nat} (hh:A.handled=none) (hit:s.heap.IsRevIter I l ((items.size:Int) - 1)) (hl:s.heap.IsList l items) (dY:l≠I) (NL:S≠I) (hSl:S≠l) (hn:items.size<=sizeLine)
  (hS:s.heap.get? S=some { cls:=.type "list",data:=.seq #[] c₀ })
  (hR:∀ h' tk acc' c',(∀ b o,b≠S->b≠I->s.heap.get? b=some o->h'.get? b=some o)->h'.get? S=some { cls:=.type "list",dict:=none,data:=.seq acc' c',slots:=#[] }->ItemsOf (fun i v=>items[items.size - 1 - i]?=some v) acc' items.size->R (.ok (.ret res)) { s with heap:=h',toks:=tk }) :
  wpAny (model prog w) A.in1 (Builtin.List.listExtendWith (.ref S) (.ref I) res)
   (fun fin s'=>match fin with | .done f=>R (.ok f) s' | .again c'=>c'.quiet=true/\codeAny (model prog w) A c' R s') (fun e s'=>R (.error e) s') s:=by
 have W:=Walks.listRev (prog:=prog) (w:=w) (A:=A.in1) hh I l dY items;have rJ:S ∉ [I,l]:=by simp only [mo,nn,xz,_v]; exact ⟨NL,hSl⟩
 have yH:0<=items.size/\s.heap.IsRevIter I l ((items.size:Int) - 1 - ((0:Nat):Int))/\s.heap.IsList l items:=⟨Cl _,by simpa using hit,hl⟩;unfold Builtin.List.listExtendWith;refine lm (wpAny_typeOf hit.typeIs ?_);have h1:Builtin.List.listSameRef (.ref S) (.ref I)=false:=by simp [Builtin.List.listSameRef,NL]
 simp only [h1,show (Value.type "list_reverseiterator" == Value.type "list")=false by decide,show (Value.type "list_reverseiterator" == Value.type "tuple")=false by decide,Jai,IO,ZB];refine lm (W.self 0 _ _ _ yH ?_);refine lm (FS (Su hit.typeIs ?_));refine _8 (fun h=>absurd h (by decide)) (fun _=>pi ⟨_0 PySem.F.plain_extend_loop _,?_⟩);refine codeAny_extend_loopS W.toS hn S rJ res items.size 0 _ #[] c₀ rfl (Cl _) yH hS (ItemsOf.nil _) fun s' acc' c' hm hS' gP=>?_;rw [Moved.eq_with hm];refine hR s'.heap s'.toks acc' c' (fun b o hb hb' e=>hm.heap b o (fun hmem=>?_) e) hS' gP;rcases mo.mp hmem with e' | hmem
 ·exact hb e'
 ·exact hb' (FM.mp hmem)
def UD {Q:Value->Shared->Prop} {l:Addr} {items:Array Value} (hh:A.handled=none) (hit:s.heap.IsRevIter I l ((items.size:Int) - 1)) (hl:s.heap.IsList l items) (dY:l≠I) (hn:items.size<=sizeLine)
  (hQ:∀ h' tk acc' c',(∀ b o,b≠I->s.heap.get? b=some o->h'.get? b=some o)->h'.get? s.heap.objs.size=some { cls:=.type "list",dict:=none,data:=.seq acc' c',slots:=#[] }->ItemsOf (fun i v=>items[items.size - 1 - i]?=some v) acc' items.size ->
   Q (.ref s.heap.objs.size) { s with heap:=h',toks:=tk }):wpAny (model prog w) A (call (.type "list") [.ref I]) Q E s:=by
 have hIlt:I < s.heap.objs.size:=let ⟨_,e,_⟩:=hit; ul e
 have hllt:l < s.heap.objs.size:=let ⟨_,e,_⟩:=hl; ul e
 refine callType_codes (Q₁:=fun obj s₁=>obj=.ref s.heap.objs.size/\s₁={ s with heap:=s.heap.push { cls:=.type "list",data:=.seq #[] } }) PySem.F.called_list (PySem.F.typeCall_list_1 _) PySem.F.entry_list_init
  (code_list_new _ ⟨rfl,rfl⟩) fun obj s₁ h₁=>?_
 obtain ⟨rfl,rfl⟩:=h₁;have hS:(s.heap.push { cls:=.type "list",data:=.seq #[] }).get? s.heap.objs.size=some { cls:=.type "list",data:=.seq #[] }:=ut _ rfl;refine ⟨⟨_,hS,rfl⟩,PySem.F.args_list_init_2 _ _,?_⟩;show wpAny _ _ (do let old <- Builtin.List.listItems (.ref s.heap.objs.size); Builtin.List.listUpdate (.ref s.heap.objs.size) (fun _=>#[]); letGo old.toList.reverse; Builtin.List.listExtendWith (.ref s.heap.objs.size) (.ref I) .none) _ _ _;refine lm ?_;unfold Builtin.List.listItems;refine lm (Jag hS rfl (pi ?_));show wpAny _ _ (updateSeq s.heap.objs.size (fun _=>#[]) >>= fun _=>letGo (#[]:Array Value).toList.reverse >>= fun _=>Builtin.List.listExtendWith (.ref s.heap.objs.size) (.ref I) .none) _ _ _;refine lm (wpAny_updateSeq hS rfl ?_);have hS₂:=Rs (Obj.mapSeq (fun _=>(#[]:Array Value))) hS rfl;have Eh:∀ b o,s.heap.get? b=some o->((s.heap.push { cls:=.type "list",data:=.seq #[] }).update s.heap.objs.size (Obj.mapSeq (fun _=>(#[]:Array Value)))).get? b=some o :=
  fun b o e=>(GT _ _ (Ja6 (ul e))).trans (lv _ e)
 refine lm (wpAny_letGo ?_);refine Up (A:=A.in1) hh (hit.at fun o e=>Eh _ o e) (hl.at fun o e=>Eh _ o e) dY (Ja6 hIlt) (Ja6 hllt) hn hS₂ fun h' tk acc' c' hk hS' gP=>?_;exact ⟨rfl,hQ h' tk acc' c' (fun b o hb e=>hk b o (wS (ul e)) hb (Eh b o e)) hS' gP⟩
end
section
variable {X:Cx}
def Af (K:ν) (te:TE):TE:=fun σ H Q=>te σ H fun x H1=>∃ p ys,x=.ref p/\aD K H1 p ys/\∀ l,H1 l=none->Q (.ref l) (upd H1 l (.lst ys.reverse))
def acg {e:Expr} {te:TE} {p q pos qos:Pos} (hc:X.calm=true) (hg:Gl X "list") (hm:X.mg "list" = none) (DY:Gl X "reversed") (D7:X.mg "reversed" = none) (he:PE X e te) (hs:starEach [e] X.env=[(false,eval e X.env)]:=by rfl) :
  PE X (.Call (.Name "list" p) [.Call (.Name "reversed" q) [e] [] qos] [] pos) (Af X.K te):=by
 intro π s σ H Q I h;refine FB (oz (u:=.type "list") I hg hm (by kernel_rfl) ?_);refine SZ ?_;show wpAny _ _ (spliced ((false,eval (.Call (.Name "reversed" q) [e] [] qos) X.env)::backTo pos (starEach [] X.env))) _ _ s;refine TW ?_;refine FB (oz (u:=.type "reversed") I DY D7 (by kernel_rfl) ?_);refine SZ ?_ (by rw [hs]; rfl) (by rfl);rw [hs];show wpAny _ _ (spliced ((false,eval e X.env)::backTo qos [])) _ _ s;refine TW (aC (he π s σ H _ I h) fun u s1 ⟨x,H1,I1,rx,a,ys,ex,hl,q⟩=>W1 ?_);subst ex;cases (show u=Value.ref a from rx);obtain ⟨aq,r',pl,hz⟩:=I1.list hl;have hlen:=r'.length;obtain ⟨oa,hoa,_⟩:=pl.isList;have halt:a < s1.heap.objs.size:=ul hoa;refine call_reversed_list pl.isList ?_;refine W1 ?_;refine UD (I1.ok.hd hc) (l:=a) (items:=aq.toArray) ⟨_,ut _ rfl,rfl,rfl⟩ (pl.isList.at fun o e=>lv _ e) (wS halt) (by rw [tz,<- hlen]; exact hz) fun h' tk acc c hk hD gP=>?_;have kp:∀ b o,s1.heap.get? b=some o->h'.get? b=some o:=fun b o e=>hk b o (wS (ul e)) (lv _ e);have hsz:s1.heap.objs.size<=(s1.heap.push (revObj a ((aq.toArray.size:Int) - 1))).objs.size:=by rw [_h]; exact _1 _
 have hv:Vals ys.reverse acc.toList:=by
  have ha:acc.size=aq.length:=by rw [gP.1,tz]
  refine z9 (by rw [Ja4,hlen,<- ha]; exact Re.symm) fun i v u h1 h2=>?_;have hu:=gP.2 i u (by rw [<- Sc]; exact h2);have hi:i < ys.length:=by have:=(sw.mp h1).1; rwa [Ja4] at this
  rw [List.getElem?_reverse hi] at h1;obtain ⟨w,hw,rw'⟩:=r'.get h1;rw [List.getElem?_toArray,tz,<- hlen,hw] at hu;cases hu;exact rw'
 refine ⟨.ref _,_,I1.laid (t':=tk) kp hsz (show bG X.prog X.w _ _ _ (.lst ys.reverse) from ⟨by rw [Ja4]; exact hz,_,c,hv,by rw [_3]; exact hD⟩),rfl,q _ (I1.ay.fresh hsz)⟩
def Dv.listRev {e:Expr} {te:TE} {p q pos qos:Pos} {K:ν} (hK:X.K=K) (hc:X.calm=true) (hm:X.mg "list" = none) (D7:X.mg "reversed" = none) (he:QE X e te) (hg:Gl X "list" := by rfl) (DY:Gl X "reversed" := by rfl) (hs:starEach [e] X.env=[(false,eval e X.env)]:=by rfl) :
  QE X (.Call (.Name "list" p) [.Call (.Name "reversed" q) [e] [] qos] [] pos) (Af K te):=hK ▸ ⟨acg hc hg hm DY D7 he.h hs⟩
end
def ack {K:ν} {x:Str} {f c P:Addr} {oc occ:Value} {od odc:Option Addr} {fd:FuncData} {sl slc:Array (Option Value)} {vs:Array Value} (n:PySem.W.nsIn K mainGlobals x=some (some (.ref f))) (l:K.lookup f=some ⟨oc,od,.func fd,sl⟩) (hc:fd.code=.ref c)
  (lc:K.lookup c=some ⟨occ,odc,.fields vs,slc⟩) (hv:vs[11]?=some (.ref P)):PySem.W.tabIn K x=some (c,P):=by
 unfold PySem.W.tabIn;simp only [n,l,hc,lc,hv]
def cM (X:Cx) (scope:Scope) (cl:List (Str×Addr)) (N:List Str) (s:Shared) (H:Hp) (ex:List Addr) (C:Addr):Cx :=
 { X with N:=N,s₀:=s,H₀:=H,env:=compEnvC scope cl C X.env,outer:=X.stack,stack:=X.stack,ex:=ex,fn:=fun _=>false,pn:=[],xe:=fun _ _=>False }
structure jG (X:Cx) (scope:Scope) (cl:List (Str×Addr)) (caps:List Str) (ix:List Nat):Prop where
 iA:closureFor scope X.env=pure cl
 sub:∀ x c,cl.lookup x=some c->X.env.cells.lookup x=some c
 has:∀ y,((relabel scope X.env).names.lookup y=some .cell\/(relabel scope X.env).names.lookup y=some .free)->∃ c,cl.lookup y=some c
 len:ix.length=caps.length
 at':∀ (i j:Nat),ix[i]?=some j->∃ x,caps[i]?=some x/\X.N[j]?=some x/\X.env.scope.names.lookup x=some .cell/\(relabel scope X.env).names.lookup x=some .cell/\cl.lookup x=X.env.cells.lookup x
def jG.of {X:Cx} {scope:Scope} {cl:List (Str×Addr)} {caps:List Str} {ix:List Nat} (iA:closureFor scope X.env=pure cl) (sub:fw (fun e:Str×Addr=>X.env.cells.lookup e.1=some e.2) cl)
  (has:fw (fun e:Str×NameKind=>(e.2=.cell\/e.2=.free)->∃ c,cl.lookup e.1=some c) (relabel scope X.env).names) (len:ix.length=caps.length)
  (at':fw (fun e:Nat×Str=>X.N[e.1]?=some e.2/\X.env.scope.names.lookup e.2=some .cell/\(relabel scope X.env).names.lookup e.2=some .cell/\cl.lookup e.2=X.env.cells.lookup e.2) (ix.zip caps)):jG X scope cl caps ix where
 iA:=iA
 sub:=fun x c h=>fw.mem sub _ (Fk h)
 has:=fun y hy=>by
  rcases hy with h | h
  ·exact fw.mem has _ (Fk h) (.inl rfl)
  ·exact fw.mem has _ (Fk h) (.inr rfl)
 len:=len
 at':=fun i j h=>by
  have hi:=(sw.mp h).1;have hi':i < caps.length:=len ▸ hi;have hm:(j,caps[i])∈ix.zip caps:=by
   refine _V.mpr ⟨i,?_⟩;rw [_E];exact ⟨h,ss hi'⟩
  have z:=fw.mem at' _ hm;exact ⟨caps[i],ss hi',z⟩
def oH (n:Nat) (ix:List Nat) (wi:TI) (g:TG) (tt:TT) (te:TE):TE:=fun σ H Q=>∃ vs,nU ix σ vs/\wi σ H fun J H1=>∃ W:Nat->List V->Nat->Hp->Prop,(∃ m,W 0 [] m H1)/\∀ i ys m H,W i ys m H ->
 ys.length<=sizeLine/\((J.stop i H/\∀ l,H l=none->Q (.ref l) (upd H l (.lst ys))) \/
  (J.go i H/\ys.length < sizeLine/\∀ y H',J.mM i H y H'->∀ σ0:St,σ0.length=n->g y (σ0++vs.map some) H' fun σ1 H1=>(∃ σ2:St,σ1=σ2++vs.map some/\σ2.length=n) /\
   tt σ1 H1 fun c H2=>if c=true then te σ1 H2 fun z H3=>∃ m',m' < m/\W (i+1) (ys++[z]) m' H3 else ∃ m',m' < m/\W (i+1) ys m' H2))
section
variable {X:Cx}
def acq {π:List (Addr×Obj)} {σ:St} {H:Hp} {s s4:Shared} {scope:Scope} {cl:List (Str×Addr)} {TN caps:List Str} {ix:List Nat} {vs:List V} {fp:List Addr} {C:Addr} {m:Str->Option Value} (I:Inv X π σ H s) (CC:jG X scope cl caps ix) (hv:nU ix σ vs) (hf:∀ b∈fp,lG X π H b) (bK:∀ b∈fp,b < s.heap.objs.size)
  (hk:scope.kind=.function) (hC:s.heap.objs.size<=C)
  (hos:s4.os=s.os) (hgen:s4.gens=s.gens) (old:∀ b o,s.heap.get? b=some o->s4.heap.get? b=some o) (eB:s4.heap.Ns C m):Inv (cM X scope cl (TN++caps) s H fp C) [] ((TN.map fun _=>none)++vs.map some) H s4:=by
 refine ⟨⟨I.ok.mod,hk,I.ok.glob,I.ok.blt,hC,fun x y c e1 e2=>I.ok.inj x y c (CC.sub x c e1) (CC.sub y c e2),fun y hy=>CC.has y hy,fun _ _ e=>(by cases e),I.ok.hd,I.ok.frames,.inl rfl,fun b hb=>⟨wS (wn (bK b hb) hC),fun x c e=>(hf b hb).2.2.2.2.1 x c (CC.sub x c e)⟩,
  fun b o e=>I.bs b o e,u8 I.ok.gU I.sz,fun b o e hb=>?_,fun b hb hm=>?_,I.stack,I.wW⟩,
  hos,by rw [hgen]; exact I.bare,Un.kept old,⟨m,eB,fun i y v e1 e2 _=>?_⟩,fun x c e=>?_,I.ay.fresh hC,fun x c e=>I.fB x c (CC.sub x c e),fun p hp=>absurd (show p∈([]:List (Addr×Obj)) from hp) (by simp),I.ay.kept old,?_⟩
 ·rcases (hf b hb).2.2.2.1 with z | z
  ·exact I.ok.mf b o e z
  ·exact absurd (wn (wn (ul e) I.ok.gU) z) (Ix _)
 ·rcases mo.mp (I.sU b hm) with z | z
  ·exact (hf b hb).2.1 z
  ·exact (hf b hb).2.2.1 z
 ·have e1':(TN++caps)[i]?=some y:=e1;have e2':((TN.map fun _=>(none:Option V))++vs.map some)[i]?=some (some v):=e2;by_cases hi:i < TN.length
  ·rw [Db (by simpa using hi),Da] at e2';cases h:TN[i]? <;> rw [h] at e2' <;> simp at e2'
  ·rw [AT (by omega)] at e1';rw [AT (by simpa using Nat.not_lt.mp hi),pp,Da] at e2';have ev:vs[i - TN.length]?=some v:=by
    cases h:vs[i - TN.length]? with
    | none=>rw [h] at e2'; cases e2'
    | some a=>rw [h] at e2'; cases e2'; rfl
   have hlt':i - TN.length < ix.length:=by
    rw [<- hv.1]; exact (sw.mp ev).1
   obtain ⟨x,c1,c2,c3,c4,c5⟩:=CC.at' _ _ (ss hlt');rw [e1'] at c1; cases c1;have hσ:=hv.2 _ _ v (ss hlt') ev;obtain ⟨m0,_,hl⟩:=I.loc;obtain ⟨u,ru,lk⟩:=hl _ y v c2 hσ (.inr (.inl c3));rcases lk with ⟨k1,_⟩ | ⟨_,c,k2,o,k3,k4⟩
   ·have:X.env.scope.names.lookup y=some .local:=k1;rw [c3] at this; cases this
   ·exact ⟨u,ru,.inr ⟨.inl c4,c,by show cl.lookup y=some c; rw [c5]; exact k2,o,old _ _ k3,k4⟩⟩
 ·obtain ⟨v,o,e1,e2⟩:=I.cell x c (CC.sub x c e);exact ⟨v,o,old _ _ e1,e2⟩
 ·show ((TN.map fun _=>(none:Option V))++vs.map some).length=(TN++caps).length;rw [wE,wE,pp,pp,hv.1,CC.len]
def IS {elt iter:Expr} {ifs:List Expr} {tg:Expr} {g:TG} {TN caps:List Str} {ix:List Nat} {cl:List (Str×Addr)} {pos:Pos} {scope:Scope} {wi:TI} {tt:TT} {te:TE} (hc:X.calm=true) (hi:PI X tg iter wi)
  (ht:∀ s H ex C,pM (cM X scope cl (TN++caps) s H ex C) ifs tt) (ig:∀ s H ex C,PG (cM X scope cl (TN++caps) s H ex C) tg g) (he:∀ s H ex C,PE (cM X scope cl (TN++caps) s H ex C) elt te) (CC:jG X scope cl caps ix)
  (hk:scope.kind=.function) (hU:∀ y∈scope.names,y.2≠.cell)
  {π:List (Addr×Obj)} {s:Shared} {σ:St} {H:Hp} {Q:VK} {RR:Value->Addr->Result->Shared->Prop} (I:Inv X π σ H s) (h:oH TN.length ix wi g tt te σ H Q)
  (hRR:∀ (a C:Addr) (s6:Shared) (H6:Hp),Inv X π σ H6 s6->(∃ m,s6.heap.Ns C m)->zo X π H6 C->Q (.ref a) H6->RR (.ref a) C (.ok .next) s6) :
  wpAny (model X.prog X.w) X.A (eval iter X.env) (fun v s1=>wpAny (model X.prog X.w) X.A (pyIter v) (fun it s2=>wpAny (model X.prog X.w) X.A (newList []) (fun acc s3 =>
   wpAny (model X.prog X.w) X.A (newFunctionEnv scope X.env.globals cl [] X.env.qual none .none (some X.env)) (fun Nu s4 =>
    codeAny (model X.prog X.w) X.A (.compStart (.ListComp elt [⟨tg,iter,ifs,0⟩] scope pos) 0 it acc { Nu with scope:=relabel scope X.env }) (RR acc Nu.locals) s4) X.xe s3) X.xe s2) X.xe s1) X.xe s:=by
 obtain ⟨vs,jv,h⟩:=h;refine aC (hi π s σ H _ I h) fun v s1 h1=>aC h1 fun DA s2 h2=>?_;obtain ⟨it,fp,tn,J,H2,rfl,I2,T,kx,f2,W,⟨m0,w0⟩,turn⟩:=h2;have bK:∀ b∈fp,b < s2.heap.objs.size:=fun b hb=>let ⟨o,e,_⟩:=T.obj _ _ kx b hb; ul e
 refine _x (wpAny_newFunctionEnv hU (by intro y hy; simp at hy) (fun h1 hns1 hsb1=>?_) hk);dsimp only at hns1 hsb1 ⊢;generalize EV:s2.heap.push { cls:=.type "list",dict:=none,data:=.seq ([]:List Value).toArray }=G at hns1 hsb1 ⊢;have hG:G.objs.size=s2.heap.objs.size+1:=by rw [<- EV,_h]
 have ym:s2.heap.objs.size≠G.objs.size:=by rw [hG]; exact wS (On _)
 have pb:s2.heap.objs.size<=G.objs.size:=by rw [hG]; exact _1 _
 have old:∀ b o,s2.heap.get? b=some o->h1.get? b=some o:=fun b o e=>by
  exact hsb1.extBut b o (wS (wn (ul e) pb)) (lv _ (EV ▸ lv _ e))
 have accO:h1.get? s2.heap.objs.size=some { cls:=.type "list",dict:=none,data:=.seq ([]:List Value).toArray } :=
  hsb1.extBut _ _ ym (lv _ (EV ▸ ut _ rfl))
 -- km state at km block's entry
 have main:∀ s4:Shared,s4={ s2 with heap:=h1,toks:=s2.toks+([]:List (Str×Value)).length } ->
   codeAny (model X.prog X.w) X.A (.compLoop (.ListComp elt [⟨tg,iter,ifs,0⟩] scope pos) 0 (.ref it) (.ref s2.heap.objs.size) (compEnvC scope cl G.objs.size X.env))
    (RR (.ref s2.heap.objs.size) G.objs.size) s4:=by
  rintro s4 rfl;have I4:Inv (cM X scope cl (TN++caps) s2 H2 fp G.objs.size) [] ((TN.map fun _=>none)++vs.map some) H2 { s2 with heap:=h1,toks:=s2.toks+([]:List (Str×Value)).length } :=
   acq I2 CC jv f2 bK hk pb rfl rfl old hns1
  have EY:∀ {H':Hp} {pl:List (Addr×Obj)},(∀ b∈fp,H' b=none)->(∀ p∈pl,p.1 ∉ fp)->∀ b∈fp,lG (cM X scope cl (TN++caps) s2 H2 fp G.objs.size) pl H' b:=fun hn hp b hb =>
   ⟨hn b hb,wS (wn (bK b hb) pb),I4.ok.mQ b hb,.inl hb,fun x c e=>(f2 b hb).2.2.2.2.1 x c (CC.sub x c e),fun p hp' e=>hp p (by simpa [cM] using hp') (e ▸ hb)⟩
  have Ml:s2.heap.objs.size ∉ fp:=fun z=>Ix _ (bK _ z);refine Yn (fun n s'=>∃ (i:Nat) (ys:List V) (aq:List Value) (k:Nat) (σ':St) (H':Hp),(∃ σ0:St,σ'=σ0++vs.map some/\σ0.length=TN.length)/\Inv (cM X scope cl (TN++caps) s2 H2 fp G.objs.size) [] σ' H' s'/\tn i s'.heap/\(∀ b∈fp,H' b=none)/\H' s2.heap.objs.size=none/\Vals ys aq /\
   s'.heap.get? s2.heap.objs.size=some { cls:=.type "list",dict:=none,data:=.seq aq.toArray k }/\W i ys n H') (fun _ _ _=>trivial) ?_ m0
   ⟨0,[],[],0,_,H2,⟨_,rfl,by simp⟩,I4,T.keep _ _ _ kx (fun b _ o e=>old b o e),fun b hb=>(f2 b hb).1,I2.ay.fresh (sK _),.nil,accO,w0⟩
  rintro n s5 ⟨i,ys,aq,k,σ5,H5,⟨σ0,hq5,hσ⟩,I5,rO,yw,yu,rv,ea,w5⟩;subst hq5;have Ip:Inv (cM X scope cl (TN++caps) s2 H2 fp G.objs.size) [(s2.heap.objs.size,{ cls:=.type "list",dict:=none,data:=.seq aq.toArray k })] (σ0++vs.map some) H5 s5:=I5.tL fun p hp=>by
   have e:p=(s2.heap.objs.size,{ cls:=.type "list",dict:=none,data:=.seq aq.toArray k }):=by simpa using hp
   subst e;refine ⟨ea,yu,ym,fun z=>?_,fun v z=>by cases z⟩;exact I2.FX (sK _) (by
    have hz:s2.heap.objs.size∈bH X.stack:=z;rcases mo.mp (I2.sU _ hz) with q | q
    ·exact absurd I2.lt (by rw [<- q]; exact Ix _)
    ·exact q)
  have Ep:∀ p∈[((s2.heap.objs.size,{ cls:=.type "list",dict:=none,data:=.seq aq.toArray k }):Addr×Obj)],p.1 ∉ fp:=fun p hp=>by
   have e:p=(s2.heap.objs.size,{ cls:=.type "list",dict:=none,data:=.seq aq.toArray k }):=by simpa using hp
   subst e; exact Ml
  obtain ⟨hyl,alt⟩:=turn i ys n H5 w5;rcases alt with ⟨stop,qn⟩ | ⟨go,Mp,step⟩
  ·refine aC (T.done (cM X scope cl (TN++caps) s2 H2 fp G.objs.size) rfl rfl rfl hc i _ s5 (σ0++vs.map some) H5 (fun _ _=>False) Ip (EY yw Ep) rO stop) fun r s6 ⟨hr,I6⟩=>?_;subst hr;have ea6:=(I6.pin (s2.heap.objs.size,{ cls:=.type "list",dict:=none,data:=.seq aq.toArray k }) (wT _ (FM.mpr rfl))).1;obtain ⟨m,hn6,_⟩:=I6.loc;have hC6:H5 G.objs.size=none:=I6.free;have lt2:∀ b o,s2.heap.get? b=some o->b≠s2.heap.objs.size:=fun b o e=>wS (ul e);have Iout:Inv X π σ (upd H5 s2.heap.objs.size (.lst ys)) s6:=by
    refine I2.Ho (s':=s6) (ch:=fp) I6.os ⟨fun b o e n hb hx=>?_,fun b o e n hb hx=>?_,fun b o e n hx=>?_,fun b o e hx=>?_,fun b xs e=>?_,fun b o u e=>?_,fun b ps e=>?_⟩ ?_ I6.bare fun b hb=>?_
    ·exact I6.base.keep b o e n hb hx
    ·exact I6.base.slot b o e n hb hx
    ·rw [aj (lt2 b o e)]; exact I6.base.free b o e n hx
    ·exact I6.base.there b o e hx
    ·rw [aj (gv e (I2.ay.fresh (sK _)))]; exact I6.base.gb b xs e
    ·rw [aj (gv e (I2.ay.fresh (sK _)))]; exact I6.base.fR b o u e
    ·obtain ⟨more,e1⟩:=I6.base.gm b ps e;exact ⟨more,by rw [aj (gv e (I2.ay.fresh (sK _)))]; exact e1⟩
    ·intro b u e;by_cases hb:b=s2.heap.objs.size
     ·subst hb;rw [au] at e;cases e;exact ⟨hyl,aq,k,rv,ea6⟩
     ·rw [aj hb] at e;exact (I6.ay b u e).gS (fun c v _ q=>q) (fun c q=>by rw [aj (gv q yu)]; exact q) fun c xs q=>by rw [aj (gv q yu)]; exact q
    ·obtain ⟨g1,g2,g3,g4,g5,g6⟩:=f2 b hb;exact ⟨g4,g2,g5,g6⟩
   refine hRR _ _ s6 _ Iout ⟨m,hn6⟩ ⟨by rw [aj (sB ym)]; exact hC6,?_,?_,fun y c e z=>?_,fun p hp z=>?_⟩ (qn _ yu)
   ·exact Ja6 (wn I2.lt pb)
   ·exact u8 I2.sz pb
   ·obtain ⟨v',q⟩:=I2.cell y c e;exact absurd (wn q.lt pb) (by rw [z]; exact Ix _)
   ·exact absurd (wn (ul (I2.pin p hp).1) pb) (by rw [z]; exact Ix _)
  ·refine aC (T.item (cM X scope cl (TN++caps) s2 H2 fp G.objs.size) rfl rfl rfl hc i _ s5 (σ0++vs.map some) H5 (fun _ _=>False) Ip (EY yw Ep) rO go) fun r s6 ⟨u,hr,h6⟩=>?_;subst hr;refine aC h6 fun _ s7 ⟨y,H7,I7,ry,y7,Ej,fr7⟩=>?_;have I7':=I7.pinned (EY fr7 Ep) (T.obj _ _ Ej);refine aC (ig _ _ _ _ _ s7 (σ0++vs.map some) H7 y u _ I7' ry (step y H7 y7 σ0 hσ)) fun _ s8 ⟨σ8,H8,I8,Np,q8⟩=>?_;refine aC (ht _ _ _ _ _ s8 σ8 H8 _ I8 q8) fun ok s9 ⟨H9,I9,q9⟩=>?_
   -- what is pinned stays
   have MR:∀ {s':Shared} {H':Hp},Inv (cM X scope cl (TN++caps) s2 H2 fp G.objs.size) ([(s2.heap.objs.size,{ cls:=.type "list",dict:=none,data:=.seq aq.toArray k })]++sY fp s7.heap) σ8 H' s' ->
     tn (i+1) s'.heap/\(∀ b∈fp,H' b=none)/\H' s2.heap.objs.size=none/\s'.heap.get? s2.heap.objs.size=some { cls:=.type "list",dict:=none,data:=.seq aq.toArray k }:=fun {s' H'} J'=>by
    refine ⟨T.keep _ _ _ Ej fun b hb o e=>(J'.pin (b,o) (wT _ (wT _ (wR hb e)))).1,fun b hb=>?_,(J'.pin (s2.heap.objs.size,{ cls:=.type "list",dict:=none,data:=.seq aq.toArray k }) (wT _ (Fr _ (FM.mpr rfl)))).2.1,(J'.pin (s2.heap.objs.size,{ cls:=.type "list",dict:=none,data:=.seq aq.toArray k }) (wT _ (Fr _ (FM.mpr rfl)))).1⟩;obtain ⟨o,e,_⟩:=T.obj _ _ Ej b hb;exact (J'.pin (b,o) (wT _ (wT _ (wR hb e)))).2.1
   cases ok with
   | false =>
    obtain ⟨m',hm,w'⟩:=q9;obtain ⟨k1,k2,k3,k4⟩:=MR I9;exact ⟨m',hm,i+1,ys,aq,k,σ8,H9,Np,I9.tL (π':=[]) (fun _ hp=>nomatch hp),k1,k2,k3,rv,k4,w'⟩
   | true =>
    refine aC (he _ _ _ _ _ s9 σ8 H9 _ I9 q9) fun zv ie ⟨z,ky,NS,rz,pR⟩=>?_;obtain ⟨m',hm,w'⟩:=pR;obtain ⟨k1,k2,k3,k4⟩:=MR NS;have hl:=rv.length;refine SL F.slot_list_append ⟨_,k4,rfl⟩ F.entry_list_append (F.args_list_append_2 _ _) (PySem.list_append s2.heap.objs.size aq.toArray k zv (by rw [tz]; omega)) ⟨k4,?_⟩;have q:=PySem.IsL.update k4 (·.push zv);have ip:aq.toArray.push zv=(aq++[zv]).toArray:=by simp
    rw [ip] at q;have I11:Inv (cM X scope cl (TN++caps) s2 H2 fp G.objs.size) [] σ8 ky ie:=NS.tL (π':=[]) (fun _ hp=>nomatch hp);refine ⟨m',hm,i+1,ys++[z],aq++[zv],_,σ8,ky,Np,I11.turned (t':=ie.toks) (it:=s2.heap.objs.size) (fun b o hb e=>(GT ie.heap _ (sB hb)).trans e) k3 ym (.inr (sK _)) (fun x c e z=>by obtain ⟨v',q⟩:=I2.cell x c (CC.sub x c e); exact absurd q.lt (by rw [z]; exact Ix _)) (fun p hp=>absurd (show p∈([]:List (Addr×Obj)) from hp) (by simp)),
     T.keep _ _ _ k1 fun b hb o e=>(GT ie.heap _ (fun z=>Ml (by rw [z]; exact hb))).trans e,k2,k3,rv.append (.cons rz .nil),q,w'⟩
 exact codeAny_compStart_list (main _ rfl) (T.self _ 0 _ _ _ (T.keep _ _ _ kx fun b _ o e=>old b o e) (main _ rfl))
def QY {elt iter:Expr} {ifs:List Expr} {tg:Expr} {g:TG} {TN caps:List Str} {ix:List Nat} {cl:List (Str×Addr)} {pos:Pos} {scope:Scope} {wi:TI} {tt:TT} {te:TE} (hc:X.calm=true) (hi:PI X tg iter wi)
  (ht:∀ s H ex C,pM (cM X scope cl (TN++caps) s H ex C) ifs tt) (ig:∀ s H ex C,PG (cM X scope cl (TN++caps) s H ex C) tg g) (he:∀ s H ex C,PE (cM X scope cl (TN++caps) s H ex C) elt te) (CC:jG X scope cl caps ix)
  (hk:scope.kind=.function:=by rfl) (bT:∀ y∈scope.names,y.2=.local->scope.names.lookup y.1=some .local:=by decide +kernel) (hU:∀ y∈scope.names,y.2≠.cell:=by decide +kernel)
  (hs:∀ x,foldedSetIterable iter X.env x=pure x:=by intro _; rfl):PE X (.ListComp elt [⟨tg,iter,ifs,0⟩] scope pos) (oH TN.length ix wi g tt te):=by
 intro π s σ H Q I h;rw [eval_ListComp];refine wpAny_comprehension_free (use:=none) (cl:=cl) rfl hs CC.iA hk bT ?_;refine IS (RR:=fun acc C=>compPost (model X.prog X.w) X.A X.xe none (EP X π σ Q) acc C) hc hi ht ig he CC hk hU I h ?_;intro a C s6 H6 I6 hm o q;obtain ⟨m,hn⟩:=hm;exact ⟨m,hn,fun h' m5=>⟨.ref a,H6,o.go I6 m5,rfl,q⟩⟩
def YQ {elt iter:Expr} {ifs:List Expr} {tg:Expr} {g:TG} {TN caps:List Str} {ix:List Nat} {cl:List (Str×Addr)} {y:Str} {i:Nat} {py pos spos:Pos} {scope:Scope} {wi:TI} {tt:TT} {te:TE} (hc:X.calm=true) (hN:X.N.Nodup) (vd:X.N[i]?=some y) (rH:X.env.scope.names.lookup y=some .local) (hi:PI X tg iter wi)
  (ht:∀ s H ex C,pM (cM X scope cl (TN++caps) s H ex C) ifs tt) (ig:∀ s H ex C,PG (cM X scope cl (TN++caps) s H ex C) tg g) (he:∀ s H ex C,PE (cM X scope cl (TN++caps) s H ex C) elt te) (CC:jG X scope cl caps ix)
  (ve:swapsWith (.ListComp elt [⟨tg,iter,ifs,0⟩] scope pos) (some (.Name y py)) spos.line X.env=pure true:=by rfl)
  (hk:scope.kind=.function:=by rfl) (bT:∀ y∈scope.names,y.2=.local->scope.names.lookup y.1=some .local:=by decide +kernel) (hU:∀ y∈scope.names,y.2≠.cell:=by decide +kernel)
  (hs:∀ x,foldedSetIterable iter X.env x=pure x:=by intro _; rfl):PS X (.Assign [.Name y py] (.ListComp elt [⟨tg,iter,ifs,0⟩] scope pos) spos) (mL (oH TN.length ix wi g tt te) (fE i)):=by
 intro π s σ H D I h;rw [exec_Assign_Name_used _ _ _ _ ve];refine lm (_Y (lm ?_));refine lm (IN (wpAny_comprehension_free (e:=.ListComp elt [⟨tg,iter,ifs,0⟩] scope pos) (use:=some (assign (.Name y py) X.env)) (cl:=cl) (Q:=fun _ s'=>SP X π D .next s') rfl hs CC.iA hk bT
  (IS (RR:=fun acc C=>compPost (model X.prog X.w) X.A X.xe (some (assign (.Name y py) X.env)) (fun _ s'=>SP X π D .next s') acc C) hc hi ht ig he CC hk hU I h ?_)) (fun _ s' hq=>pi (pi hq)) fun _ _ e=>e)
 intro a C s6 H6 I6 hm o q;obtain ⟨m,hn⟩:=hm;refine (show wpAny (model X.prog X.w) X.A (assign (.Name y py) X.env (.ref a)) _ X.xe s6 from ?_);refine wpAny_assign_Name (F6 I6 hN vd (.inl rH) (v:=.ref a) rfl (fun s' I' m5=>?_) (.inr rH));obtain ⟨b,m5,hb⟩:=m5;have nb:C≠b:=by
  rcases hb with z | z
  ·rw [z]; exact o.nl
  ·exact fun e=>o.nc y b z e.symm
 exact ⟨m,hn.sameBut m5 nb,fun h' hs'=>⟨_,H6,o.go I' hs',q⟩⟩
end
namespace Dv
section
variable {X:Cx}
def Bn {elt iter tg:Expr} {g:TG} {ifs:List Expr} {TN caps:List Str} {ix:List Nat} {cl:List (Str×Addr)} {pos:Pos} {scope:Scope} {wi:TI} {tt:TT} {te:TE} (hc:X.calm=true) (hi:QI X tg iter wi)
  (ht:∀ s H ex C,qX (cM X scope cl (TN++caps) s H ex C) ifs tt) (ig:∀ s H ex C,QG (cM X scope cl (TN++caps) s H ex C) tg g) (he:∀ s H ex C,QE (cM X scope cl (TN++caps) s H ex C) elt te) (CC:jG X scope cl caps ix)
  (hk:scope.kind=.function:=by rfl) (bT:∀ y∈scope.names,y.2=.local->scope.names.lookup y.1=some .local:=by decide +kernel) (hU:∀ y∈scope.names,y.2≠.cell:=by decide +kernel)
  (hs:∀ x,foldedSetIterable iter X.env x=pure x:=by intro _; rfl):QE X (.ListComp elt [⟨tg,iter,ifs,0⟩] scope pos) (oH TN.length ix wi g tt te):=⟨QY hc hi.h (fun s H ex C=>(ht s H ex C).h) (fun s H ex C=>(ig s H ex C).h) (fun s H ex C=>(he s H ex C).h) CC hk bT hU hs⟩
def Bj (i:Nat) {elt iter tg:Expr} {g:TG} {ifs:List Expr} {TN caps:List Str} {ix:List Nat} {cl:List (Str×Addr)} {y:Str} {py pos spos:Pos} {scope:Scope} {wi:TI} {tt:TT} {te:TE} (hc:X.calm=true) (hN:X.N.Nodup) (hi:QI X tg iter wi)
  (ht:∀ s H ex C,qX (cM X scope cl (TN++caps) s H ex C) ifs tt) (ig:∀ s H ex C,QG (cM X scope cl (TN++caps) s H ex C) tg g) (he:∀ s H ex C,QE (cM X scope cl (TN++caps) s H ex C) elt te) (CC:jG X scope cl caps ix) (vd:X.N[i]?=some y:=by rfl) (rH:X.env.scope.names.lookup y=some .local:=by rfl)
  (ve:swapsWith (.ListComp elt [⟨tg,iter,ifs,0⟩] scope pos) (some (.Name y py)) spos.line X.env=pure true:=by rfl)
  (hk:scope.kind=.function:=by rfl) (bT:∀ y∈scope.names,y.2=.local->scope.names.lookup y.1=some .local:=by decide +kernel) (hU:∀ y∈scope.names,y.2≠.cell:=by decide +kernel)
  (hs:∀ x,foldedSetIterable iter X.env x=pure x:=by intro _; rfl):QS X (.Assign [.Name y py] (.ListComp elt [⟨tg,iter,ifs,0⟩] scope pos) spos) (mL (oH TN.length ix wi g tt te) (fE i)):=⟨YQ hc hN vd rH hi.h (fun s H ex C=>(ht s H ex C).h) (fun s H ex C=>(ig s H ex C).h) (fun s H ex C=>(he s H ex C).h) CC ve hk bT hU hs⟩
end
end Dv
section
variable {X:Cx}
end
def xi {σ:St} (h:σ.length=1):∃ a,σ=[a]:=by
 match σ,h with
 | [a],_=>exact ⟨a,rfl⟩
def ka {f:Str} {v u:V}:∀ {fs:List (Str×V)},fs.lookup f=some u->(ax f v fs).length=fs.length
 | (g,x)::r,h=>by
  rw [show ax f v ((g,x)::r)=(if g=f then (g,v)::r else (g,x)::ax f v r) from rfl];by_cases e:g=f
  ·rw [AC e]; rfl
  ·rw [xL e];have hb:(f == g)=false:=Fa.mpr (sB e);have h':r.lookup f=some u:=by simpa [List.lookup,hb] using h
   rw [Gc,ka h']; rfl
def CO (r:V->List V->Hp->VK->Prop) (to:TE):TE:=fun σ H Q=>to σ H fun x H1=>match x with
 | .ref l=>(match H1 l with
  | some (.lst _)=>r (.ref l) [] H1 Q
  | _=>False)
 | _=>False
section
variable {X:Cx} {name:Str} {id:String} {r:V->List V->Hp->VK->Prop} {o:Expr} {to:TE} {apos bt:Pos}
def V1 (slot:Slot "list" name id) (cy:typeOf (.builtin id)=pure (.type "method_descriptor")) (hm:ei X id r) (ho:PE X o to)
  (jn:attributeBase o name X.env (eval o X.env)=eval o X.env:=by rfl) (jw:(apos.endLine == bt.line)=true:=by rfl):PE X (.Call (.Attribute o name apos) [] [] bt) (CO r to):=by
 intro π s σ H Q I h;refine wpAny_Call_method0_late jn jw (aC (ho π s σ H _ I h) fun v s1 ⟨x,H1,I1,r1,q1⟩=>?_);dsimp only at q1;split at q1
 ·rename_i l;split at q1
  ·rename_i zs el;obtain ⟨h1,h2⟩:=Cz (T := "list") I1 r1 (.inl ⟨rfl,zs,aD.of el⟩);exact ⟨"list",id,PySem.F.plainAttrs_list,slot,cy,h1,h2,_o rfl (PySem.evalArgs_none (hm π s1 σ H1 (.ref l) [] v [] Q I1 r1 .nil q1))⟩
  ·exact q1.elim
 ·exact q1.elim
def Dv.Gj (slot:Slot "list" name id) (cy:typeOf (.builtin id)=pure (.type "method_descriptor")) (hm:ei X id r) (ho:QE X o to)
  (jn:attributeBase o name X.env (eval o X.env)=eval o X.env:=by rfl) (jw:(apos.endLine == bt.line)=true:=by rfl):QE X (.Call (.Attribute o name apos) [] [] bt) (CO r to):=⟨V1 slot cy hm ho.h jn jw⟩
end
def ag.gx {H H1:Hp} {l:Addr} {o:HO} (s:ag H H1) (hl:H l=none):ag H (L2.upd H1 l o):=fun b u e=>by
 rw [aj (fun z=>by rw [z,hl] at e; cases e)]; exact s b u e
def mT.m {P:Program} {w:World} {K:ν} {mg:Str->Option Value} {base:Heap} {k:Nat} {s1:Shared} {B:Addr->Prop} {f:Addr} {cA:fg} (D:mT P w K mg base k s1 B f cA) :
  mT P w K mg base k s1 B f (fun H Q E=>∃ (Q0:VK) (E0:XK),cA H Q0 E0/\(∀ v H',Q0 v H'->Q v H')/\∀ C od H',E0 C od H'->E C od H') :=
 fun A outer s H Q E hr e0 hk ⟨Q0,E0,hw,hq,he⟩=>XV (D A outer s H Q0 E0 hr e0 hk hw) fun r s' z=>by
  cases r with
  | error e =>
   obtain ⟨ea,C,od,H',e1,F,z⟩:=z;exact ⟨ea,C,od,H',e1,F,he _ _ _ z⟩
  | ok fl =>
   cases fl with
   | ret u =>
    obtain ⟨v,H',z1,z2,z3,z4,z5,z6⟩:=z;exact ⟨v,H',z1,z2,z3,z4,z5,hq _ _ z6⟩
   | next=>exact z
   | brk=>exact z
   | cont=>exact z
def pC.IP {P:Addr} {q:Str} {c:Addr} {H H1:Hp} (L:pC P q c H H1):∀ b o,b≠P->H b=some o->H1 b=some o:=fun b o hb e=>by
 by_cases hc:b=c
 ·rcases L.old with h | h
  ·rw [hc,h] at e; cases e
  ·rw [h]; exact e
 ·rw [L.rest b hb hc]; exact e
section
variable {X:Cx}
def BX:List V->Hp->VK->Prop:=fun xs H Q=>match xs with
 | [.bl b]=>Q (.int (if b then 1 else 0)) H
 | _=>False
def P8:cT X (.type "int") BX:=by
 intro π s σ H xs us Q I r h;unfold BX at h;split at h
 ·rename_i b;obtain ⟨u,rfl,rx⟩:=vals1 r;cases rx;exact call_int_bool ⟨.int (if b then 1 else 0),H,I.tok _,⟨_,rfl⟩,h⟩
 ·exact h.elim
def acC:bc X (binaryOp .Pow) (pQ Jf fun i j=>i ^ j.toNat):=T3.imp fun _ _ _ _ h=>Aa h
end
def BL (K:ν):R2:=fun x y H Q=>match y with
 | .ref p=>∃ xs,(aD K H p xs\/bE K H p xs)/\dq x=true/\xs.all dq=true/\Q (.bl (!fO x xs)) H
 | _=>False
def Aq {X:Cx} {K:ν} (h:X.K=K):bc X (compareOp .NotIn) (BL K):=h ▸ aaC.imp fun x y H Q z=>by
 unfold BL at z;split at z
 ·obtain ⟨xs,z1,z2,z3,z4⟩:=z;exact ⟨_,xs,rfl,z1,z2,z3,z4⟩
 ·exact z.elim
structure FT (K:ν) (mg:Str->Option Value) (x y:Str) (st:Stmt) (ps:List Str) where
 f:Addr
 d:FuncData
 F:gn K x y st f d
 m:mg x=some (.ref f)
 b:Binds K d ps []
structure MT (K:ν) (C:Addr) (x y:Str) (st:Stmt) (ps:List Str) where
 f:Addr
 d:FuncData
 F:gn K x y st f d
 h:Meth K C x f
 b:Binds K d ps []
def FA (K:ν) (x y:Str) (st:Stmt):Prop:=∃ (f:Addr) (oc:Value) (od:Option Addr) (kV dc pm:Value) (an:Option Addr) (cd ct:Value) (sl:Array (Option Value)),
 PySem.W.nsIn K mainGlobals x=some (some (.ref f))/\K.lookup f=some ⟨oc,od,.func (PySem.W.fnOf x y (fm st) (bb st) (aB st) .none kV dc pm an cd ct),sl⟩/\PySem.W.codeIn K cd y=true/\PySem.W.keepIn K (.ref f)=true
def MA (K:ν) (C:Addr) (x y:Str) (st:Stmt):Prop:=∃ (f:Addr) (oc:Value) (od:Option Addr) (kV dc pm:Value) (an:Option Addr) (cd ct:Value) (sl:Array (Option Value)),
 PySem.W.findIn K (.ref C) x=some (some (.ref f))/\K.lookup f=some ⟨oc,od,.func (PySem.W.fnOf x y (fm st) (bb st) (aB st) .none kV dc pm an cd ct),sl⟩/\PySem.W.codeIn K cd y=true/\PySem.W.keepIn K (.ref f)=true/\PySem.W.isFn K (.ref f)=true
section
variable {K:ν} {mg:Str->Option Value} {h:Heap} {C:Addr} {x y:Str} {st:Stmt} {ps:List Str}
def FA.ft (X:K.In h) (G:h.Ns mainGlobals mg) (ps:List Str) (hb:∀ (kV dc pm:Value) (an:Option Addr) (cd ct:Value) (us:List Value),us.length=ps.length->bindArgs (PySem.W.fnOf x y (fm st) (bb st) (aB st) .none kV dc pm an cd ct) ⟨us,[]⟩=pure (ps.zip us)) (a:FA K x y st):Nonempty (FT K mg x y st ps):=by
 obtain ⟨f,oc,od,kV,dc,pm,an,cd,ct,sl,n,l,c,k⟩:=a;have F:=CB (st:=st) l c k;exact ⟨⟨f,_,F,PySem.W.mg_of X G n,F.binds hb⟩⟩
def MA.ft (ps:List Str) (hb:∀ (kV dc pm:Value) (an:Option Addr) (cd ct:Value) (us:List Value),us.length=ps.length->bindArgs (PySem.W.fnOf x y (fm st) (bb st) (aB st) .none kV dc pm an cd ct) ⟨us,[]⟩=pure (ps.zip us)) (a:MA K C x y st):Nonempty (MT K C x y st ps):=by
 obtain ⟨f,oc,od,kV,dc,pm,an,cd,ct,sl,n,l,c,k,t⟩:=a;have F:=CB (st:=st) l c k;exact ⟨⟨f,_,F,⟨n,t,k⟩,F.binds hb⟩⟩
end
section
variable {K:ν} {mg:Str->Option Value} {h:Heap} {C:Addr} {x y:Str} {st:Stmt} {ps:List Str}
def FA.mk {f:Addr} {oc:Value} {od:Option Addr} {kV dc pm:Value} {an:Option Addr} {cd ct:Value} {sl:Array (Option Value)} (n:PySem.W.nsIn K mainGlobals x=some (some (.ref f))) (l:K.lookup f=some ⟨oc,od,.func (PySem.W.fnOf x y (fm st) (bb st) (aB st) .none kV dc pm an cd ct),sl⟩) (c:PySem.W.codeIn K cd y=true) (k:PySem.W.keepIn K (.ref f)=true):FA K x y st:=⟨_,_,_,_,_,_,_,_,_,_,n,l,c,k⟩
def MA.mk {f:Addr} {oc:Value} {od:Option Addr} {kV dc pm:Value} {an:Option Addr} {cd ct:Value} {sl:Array (Option Value)} (n:PySem.W.findIn K (.ref C) x=some (some (.ref f))) (l:K.lookup f=some ⟨oc,od,.func (PySem.W.fnOf x y (fm st) (bb st) (aB st) .none kV dc pm an cd ct),sl⟩) (c:PySem.W.codeIn K cd y=true) (k:PySem.W.keepIn K (.ref f)=true) (t:PySem.W.isFn K (.ref f)=true):MA K C x y st:=⟨_,_,_,_,_,_,_,_,_,_,n,l,c,k,t⟩
def FA.gt (X:K.In h) (G:h.Ns mainGlobals mg) (hb:∀ (kV dc pm:Value) (an:Option Addr) (cd ct:Value) (us:List Value),us.length=ps.length->bindArgs (PySem.W.fnOf x y (fm st) (bb st) (aB st) .none kV dc pm an cd ct) ⟨us,[]⟩=pure (ps.zip us)) (a:FA K x y st):Nonempty (FT K mg x y st ps):=FA.ft X G ps hb a
def MA.gt (hb:∀ (kV dc pm:Value) (an:Option Addr) (cd ct:Value) (us:List Value),us.length=ps.length->bindArgs (PySem.W.fnOf x y (fm st) (bb st) (aB st) .none kV dc pm an cd ct) ⟨us,[]⟩=pure (ps.zip us)) (a:MA K C x y st):Nonempty (MT K C x y st ps):=MA.ft ps hb a
def Xm {M:MT K C "__init__" y st ps} (a:PySem.W.makesIn K C=true) (b:PySem.W.keepIn K (.ref C)=true):Mk K C M.f:=⟨a,M.h.at_,M.h.fn,b⟩
def qB {dt:Addr} {kV doc pm ao ct:Value} {an:Option Addr} {o:Obj} {n:Nat} {ds:List Value} (j:Nat) (ld:K.lookup dt=some o) (hd:o.data=.seq ds.toArray n)
  (h:∀ (dt:Addr) (kV doc pm:Value) (an:Option Addr) (ao ct:Value) (us:List Value),(us++ds.drop j).length=ps.length ->
   ∃ k,bindArgs (PySem.W.fnOf x y (fm st) (bb st) (aB st) (.ref dt) kV doc pm an ao ct) ⟨us,[]⟩=seqItems? (.ref dt) >>= k/\k (some ds.toArray)=pure (ps.zip (us++ds.drop j))) :
  Binds K (PySem.W.fnOf x y (fm st) (bb st) (aB st) (.ref dt) kV doc pm an ao ct) ps (ds.drop j):=by
 intro s us X hl;obtain ⟨k,h1,h2⟩:=h dt kV doc pm an ao ct us hl;exact BindsTo.of_defaults rfl (X _ _ ld) hd h1 h2
end
section
variable {X:Cx} {tg:Expr}
end
section
variable {X:Cx}
def abQ:List V->Hp->VK->Prop:=fun xs H Q=>match xs with
 | [.int a]=>a.natAbs.log2 < 1920/\Q (.str (Str.ofString (toString a))) H
 | _=>False
end
section
variable {X:Cx}
def ab4:V->List V->Hp->VK->Prop:=fun x vs H Q=>match x,vs with
 | .ref l,[.int 0]=>∃ y xs,H l=some (.lst (y::xs))/\Q y (upd H l (.lst xs))
 | _,_=>False
end
section
variable {X:Cx}
def all_true (n:Nat):(List.range n).all (fun _=>true)=true:=by rw [At]; exact fun _ _=>rfl
def RT (K:ν) (neg:Bool):R2:=fun x y H Q=>match x,y with
 | .ref a,.ref b=>∃ xs ys:List V,(aD K H a xs/\aD K H b ys\/bE K H a xs/\bE K H b ys)/\xs.length=ys.length/\xs.all dq=true/\ys.all dq=true/\(∀ i (h1:i < xs.length) (h2:i < ys.length),fV xs[i] ys[i]=true)/\Q (.bl (!neg)) H
 | _,_=>False
end
def Xk {α:Type} (us ws:List α):List α:=if ws.length=1 then us++ws else []
section
variable {K:ν} {x qual nm:Str} {st:Stmt} {f:Addr} {fd:FuncData} {ps:List Str} {ds:List Value}
def abX {α:Type} {a b c d:α}:Xk [a,b,c] [d]=[a,b,c,d]:=rfl
end
section
variable {X:Cx}
end
def oF (J:It) (n:Nat) (vs:List V) (g:TG) (tt:TT) (te:TE) (Q:VK) (H1:Hp):Prop:=∃ W:Nat->List V->Nat->Hp->Prop,(∃ m,W 0 [] m H1)/\∀ i ys m H,W i ys m H ->
 ys.length<=sizeLine/\((J.stop i H/\∀ l,H l=none->Q (.ref l) (upd H l (.lst ys))) \/
  (J.go i H/\ys.length < sizeLine/\∀ y H',J.mM i H y H'->∀ σ0:St,σ0.length=n->g y (σ0++vs.map some) H' fun σ1 H1=>(∃ σ2:St,σ1=σ2++vs.map some/\σ2.length=n) /\
   tt σ1 H1 fun c H2=>if c=true then te σ1 H2 fun z H3=>∃ m',m' < m/\W (i+1) (ys++[z]) m' H3 else ∃ m',m' < m/\W (i+1) ys m' H2))
def Lz {n:Nat} {ix:List Nat} {wi:TI} {g:TG} {tt:TT} {te:TE} {σ:St} {H:Hp} {Q:VK}:oH n ix wi g tt te σ H Q=∃ vs,nU ix σ vs/\wi σ H fun J H1=>oF J n vs g tt te Q H1:=rfl
def Ym {K:ν} {C:Addr} {y:Str} {st:Stmt} {ps:List Str} {fld:Str} {M:MT K C "__init__" y st ps} (q:vF K C=true) (sa:PySem.W.findIn K (.ref C) "__setattr__" = some (some (.builtin "object.__setattr__"))) (na:PySem.W.findIn K (.ref C) fld=some none) (ob:PySem.W.mroIn K C (.type "object")=some true)
  (be:PySem.W.mroIn K C (.type "BaseException")=some true) (self:PySem.W.mroIn K C (.ref C)=some true) (kp:PySem.W.keepIn K (.ref C)=true):gK K C M.f fld:=⟨q,M.h.at_,eq_of_beq M.h.fn,sa,na,ob,be,self,kp⟩
end L2
open PySem PySem.Spec PyProof.Rows
namespace L2
section
variable {X:Cx}
def xr (n b:Bool):Bool:=match n with | false=>b | true=>!b
def Ak (n b:Bool):(n ^^ b)=xr n b:=by cases n <;> cases b <;> rfl
def tU (neg:Bool):R2:=fun x y H Q=>match x,y with
 | .int i,.int j=>Q (.bl (xr neg (decide (i=j)))) H
 | .str i,.str j=>Q (.bl (xr neg (decide (i=j)))) H
 | .bl i,.bl j=>Q (.bl (xr neg (decide (i=j)))) H
 | _,_=>wD x y=true/\Q (.bl (xr neg (decide (x=y)))) H
def KD (neg:Bool):qJ neg=tU neg:=by
 funext x y H Q; unfold qJ tU; simp only [Ak] <;> rfl
def eZ:bc X (compareOp .Eq) (tU false):=KD false ▸ TL
def iG:bc X (compareOp .NotEq) (tU true):=KD true ▸ RC
def uc (neg:Bool):R2:=fun x y H Q=>match x,y with
 | .ref a,.ref b=>∃ ts us:List Str,H a=some (.lst (ts.map V.str))/\H b=some (.lst (us.map V.str))/\Q (.bl (xr neg (decide (ts=us)))) H
 | _,_=>False
def HN (neg:Bool):pL neg=uc neg:=by
 funext x y H Q; unfold pL uc; simp only [Ak] <;> rfl
def W2 (hu:X.A.units < cLine):bc X (compareOp .Eq) (uc false):=HN false ▸ YS hu
def Iy (hu:X.A.units < cLine):bc X (compareOp .NotEq) (uc true):=HN true ▸ Q9 hu
def tG (K:ν) (neg:Bool):R2:=fun x y H Q=>match x,y with
 | .ref a,.ref b=>∃ xs ys:List V,aD K H a xs/\aD K H b ys/\((ys=[]/\Q (.bl (xr neg xs.isEmpty)) H)\/(xs=[]/\Q (.bl (xr neg ys.isEmpty)) H))
 | _,_=>False
def FH {K:ν} (neg:Bool):qZ K neg=tG K neg:=by
 funext x y H Q; unfold qZ tG; simp only [Ak] <;> rfl
def abg {K:ν} (hK:X.K=K) (hu:X.A.units < cLine):bc X (compareOp .Eq) (tG K false):=FH (K:=K) false ▸ acu hK hu
def Pj {K:ν} (hK:X.K=K) (hu:X.A.units < cLine):bc X (compareOp .NotEq) (tG K true):=FH (K:=K) true ▸ P4 hK hu
end
end L2
namespace L2
open PySem PySem.Spec PyProof.Rows
def QK {J:It} {tt:TT} {te:TE} {Q:VK} {H:Hp}:sT J tt te Q H ↔ oF J 1 [] (fE 0) tt te Q H:=by
 constructor
 ·rintro ⟨W,w0,h⟩;refine ⟨W,w0,fun i ys m H hw=>⟨(h i ys m H hw).1,(h i ys m H hw).2.imp_right fun z=>⟨z.1,z.2.1,fun y H' hy σ0 hσ=>?_⟩⟩⟩;obtain ⟨a,rfl⟩:=xi hσ;exact ⟨⟨[some y],rfl,rfl⟩,z.2.2 y H' hy⟩
 ·rintro ⟨W,w0,h⟩;exact ⟨W,w0,fun i ys m H hw=>⟨(h i ys m H hw).1,(h i ys m H hw).2.imp_right fun z=>⟨z.1,z.2.1,fun y H' hy=>(z.2.2 y H' hy [none] rfl).2⟩⟩⟩
def G4 {wi:TI} {tt:TT} {te:TE} {σ:St} {H:Hp} {Q:VK} (h:vJ wi tt te σ H Q):oH 1 [] wi (fE 0) tt te σ H Q:=by
 rw [GK] at h;rw [Lz];have e:(fun (J:It) H1=>sT J tt te Q H1)=fun J H1=>oF J 1 [] (fE 0) tt te Q H1:=by funext J H1; exact propext QK
 rw [e] at h;exact ⟨[],⟨rfl,by simp⟩,h⟩
section
variable {X:Cx}
def Dv.C8 {elt iter tg:Expr} {ifs:List Expr} {x:Str} {cl:List (Str×Addr)} {pos:Pos} {scope:Scope} {wi:TI} {tt:TT} {te:TE} (hc:X.calm=true) (hi:QI X tg iter wi)
  (ht:∀ s H ex C,qX (cM X scope cl ([x]++[]) s H ex C) ifs tt) (ig:∀ s H ex C,QG (cM X scope cl ([x]++[]) s H ex C) tg (fE 0)) (he:∀ s H ex C,QE (cM X scope cl ([x]++[]) s H ex C) elt te) (CC:jG X scope cl [] [])
  (hk:scope.kind=.function:=by rfl) (bT:∀ y∈scope.names,y.2=.local->scope.names.lookup y.1=some .local:=by decide +kernel) (hU:∀ y∈scope.names,y.2≠.cell:=by decide +kernel)
  (hs:∀ x,foldedSetIterable iter X.env x=pure x:=by intro _; rfl):QE X (.ListComp elt [⟨tg,iter,ifs,0⟩] scope pos) (vJ wi tt te) :=
 ⟨fun π s σ H Q I h=>(Dv.Bn hc hi ht ig he CC hk bT hU hs).h π s σ H Q I (G4 h)⟩
def Dv.AH (i:Nat) {elt iter tg:Expr} {ifs:List Expr} {x:Str} {cl:List (Str×Addr)} {y:Str} {py pos spos:Pos} {scope:Scope} {wi:TI} {tt:TT} {te:TE} (hc:X.calm=true) (hN:X.N.Nodup) (hi:QI X tg iter wi)
  (ht:∀ s H ex C,qX (cM X scope cl ([x]++[]) s H ex C) ifs tt) (ig:∀ s H ex C,QG (cM X scope cl ([x]++[]) s H ex C) tg (fE 0)) (he:∀ s H ex C,QE (cM X scope cl ([x]++[]) s H ex C) elt te) (CC:jG X scope cl [] []) (vd:X.N[i]?=some y:=by rfl) (rH:X.env.scope.names.lookup y=some .local:=by rfl)
  (ve:swapsWith (.ListComp elt [⟨tg,iter,ifs,0⟩] scope pos) (some (.Name y py)) spos.line X.env=pure true:=by rfl)
  (hk:scope.kind=.function:=by rfl) (bT:∀ y∈scope.names,y.2=.local->scope.names.lookup y.1=some .local:=by decide +kernel) (hU:∀ y∈scope.names,y.2≠.cell:=by decide +kernel)
  (hs:∀ x,foldedSetIterable iter X.env x=pure x:=by intro _; rfl):QS X (.Assign [.Name y py] (.ListComp elt [⟨tg,iter,ifs,0⟩] scope pos) spos) (mL (vJ wi tt te) (fE i)) :=
 ⟨fun π s σ H D I h=>(Dv.Bj i hc hN hi ht ig he CC vd rH ve hk bT hU hs).h π s σ H D I (G4 h)⟩
end
end L2
namespace L2
def Fu {α:Type} {C:List α->Prop} (h:C []):∀ us:List α,us.length=0->C us
 | [],_=>h
def nJ {α:Type} {C:List α->Prop} {n:Nat} (h:∀ a us,us.length=n->C (a::us)):∀ us:List α,us.length=n+1->C us
 | a::us,e=>h a us (Nat.succ.inj e)
def Gu {α:Type} {C:List α->Prop} (h:∀ a,C [a]):∀ us:List α,us.length=1->C us:=nJ fun a=>Fu (C:=fun us=>C (a::us)) (h a)
def KU {α:Type} {C:List α->Prop} (h:∀ a b,C [a,b]):∀ us:List α,us.length=2->C us:=nJ fun a=>Gu (C:=fun us=>C (a::us)) (h a)
def Ck {α:Type} {C:List α->Prop} (h:∀ a b c,C [a,b,c]):∀ us:List α,us.length=3->C us:=nJ fun a=>KU (C:=fun us=>C (a::us)) (h a)
def wH {α:Type} {C:List α->Prop} (h:∀ a b c d,C [a,b,c,d]):∀ us:List α,us.length=4->C us:=nJ fun a=>Ck (C:=fun us=>C (a::us)) (h a)
def vy {α:Type} {C:List α->Prop} (h:∀ a b c d e,C [a,b,c,d,e]):∀ us:List α,us.length=5->C us:=nJ fun a=>wH (C:=fun us=>C (a::us)) (h a)
def Dw {α:Type} {C:List α->Prop} (h:∀ a b c d e f,C [a,b,c,d,e,f]):∀ us:List α,us.length=6->C us:=nJ fun a=>vy (C:=fun us=>C (a::us)) (h a)
def YZ {α:Type} {C:List α->Prop} (h:∀ a b c d e f g,C [a,b,c,d,e,f,g]):∀ us:List α,us.length=7->C us:=nJ fun a=>Dw (C:=fun us=>C (a::us)) (h a)
end L2
namespace L2
open PySem PySem.Spec PyProof.Rows
section
open PySem.AutoSeq1 (wpAny_loadPart')
open PySem.MeetsSeq PySem.SeqAt
def AV:∀ {ns:List Int} {us:List Value},Vals (ns.map V.int) us->IntsAre us ns
 | [],_,.nil=>.nil
 | _::_,_,.cons r t=>by
  obtain ⟨k,rfl⟩:=r;exact .cons _ _ (AV t)
def J7:∀ {ns:List Int} {us:List Value},IntsAre us ns->∃ xs:List (Int×Tok),us=xs.map (fun p=>Value.int p.1 p.2)/\ns=xs.map (·.1)
 | _,_,.nil=>⟨[],rfl,rfl⟩
 | _,_,.cons n t h=>by
  obtain ⟨xs,e1,e2⟩:=J7 h;exact ⟨(n,t)::xs,by rw [e1]; rfl,by rw [e2]; rfl⟩
end
section
variable {X:Cx}
def BD (K:ν):V->List V->Hp->VK->Prop:=fun x vs H Q=>match x,vs with
 | .ref l,[.int k]=>∃ ns:List Int,aD K H l (ns.map V.int)/\k∈ns/\Q (.int (ns.idxOf k:Nat)) H
 | _,_=>False
def Zd (K:ν):V->List V->Hp->VK->Prop:=fun x vs H Q=>match x,vs with
 | .ref l,[.int k]=>∃ ns:List Int,bE K H l (ns.map V.int)/\k∈ns/\Q (.int (ns.idxOf k:Nat)) H
 | _,_=>False
def Lm {K:ν} (hK:X.K=K):ei X "list.index" (BD K):=by
 subst hK;intro π s σ H x vs v us Q I rx rv h;unfold BD at h;split at h
 ·rename_i l k;obtain ⟨ns,hl,hk,q⟩:=h;cases rx;obtain ⟨u,rfl,ru⟩:=vals1 rv;obtain ⟨t,rfl⟩:=ru;obtain ⟨aq,r',⟨⟨cls,dd,data,sl⟩,n,ho,hc,hd,hs⟩,hz⟩:=I.list hl;simp only at hc hd hs;subst hc hd hs;have hi:=AV r';have hlen:=hi.length;have hj:ns.idxOf k < ns.length:=List.idxOf_lt_length_iff.mpr hk;rw [pp] at hz;have hsl:sizeLine < 2 ^ 62:=by decide
  refine SL _L ⟨_,ho,rfl⟩ PySem.F.entry_list_index (PySem.F.args_list_index_2 _ _)
   (PySem.SeqAt.list_indexAt l aq.toArray n none sl (.int k t) (isInt k) (ns.idxOf k) (by simpa [hlen] using hj) (by omega) ?_ ?_) ⟨ho,fun y hy=>(eq_isInt k t hi y (by simpa using hy)).at _ _,⟨.int _,H,I.kept (t':=s.toks+1) fun _ _ e=>e,⟨_,rfl⟩,q⟩⟩
  ·show isInt k aq[ns.idxOf k]=true;rw [isInt_at k hi _ (by omega) hj]
   simpa using List.getElem_idxOf hj
  ·intro j hjs bK;show isInt k aq[j]=false;rw [isInt_at k hi j (by simpa using hjs) (by omega)];exact ne_of_lt_idxOf bK _
 ·exact h.elim
def Bm (K:ν):List V->Hp->VK->Prop:=fun xs H Q=>match xs with
 | [.ref p]=>∃ (ns:List Int) (m:Int),aD K H p (ns.map V.int)/\m∈ns/\(∀ k∈ns,m<=k)/\Q (.int m) H
 | _=>False
def ab6 {K:ν} (hK:X.K=K) (hc:X.calm=true):cT X (.builtin "min") (Bm K):=by
 subst hK;intro π s σ H xs us Q I r h;unfold Bm at h;split at h
 ·obtain ⟨ns,m,hl,hm,hle,q⟩:=h;obtain ⟨u,rfl,rx⟩:=vals1 r;cases rx;obtain ⟨aq,r',pl,hz⟩:=I.list hl;obtain ⟨xs,e1,e2⟩:=J7 (AV r');have he:aq.toArray=intItems xs.toArray:=by rw [e1]; simp [intItems]
  rw [he] at pl;have hx:0 < xs.length:=by
   rw [e2] at hm;cases xs with
   | nil=>cases hm
   | cons _ _=>exact Nat.succ_pos _
  refine min_intList (I.ok.hd hc) pl.isList (by simpa using hx) fun v h' tk hv hk=>?_;obtain ⟨t,rfl⟩:=intItems_at hv;obtain ⟨rK,yD⟩:=PySem.argBest_lt (numAt xs.toArray) (xs.toArray.size - 1);refine ⟨.int m,H,I.kept (t':=tk) hk,⟨t,?_⟩,q⟩;have hn:∀ i (h:i < xs.length),numAt xs.toArray i=xs[i].1:=fun i h=>by simp [numAt,h]
  have hsz:xs.toArray.size=xs.length:=by simp
  rw [hsz] at rK yD ⊢;generalize argBest _ (xs.length - 1)=a at rK yD ⊢;have ha:a < xs.length:=by omega
  have h1:m<=numAt xs.toArray a:=hle _ (by rw [e2,hn a ha]; exact List.mem_map_of_mem (_W ha));rw [e2] at hm;obtain ⟨p,hp,hpm⟩:=EQ.mp hm;obtain ⟨i,hi,rfl⟩:=Ja3 hp;have h2:=yD i (by omega);rw [hn i hi,hpm] at h2;rw [show numAt xs.toArray a=m by omega]
 ·exact h.elim
end
end L2
namespace HT
open PySem PySem.Spec PyProof.Rows
section
variable {prog:Program} {w:World} {A:Around} {E:Value->Shared->Prop} {s:Shared}
end
end HT
namespace L2
open PySem PySem.Spec PyProof.Rows
section
variable {X:Cx}
def Vx (K:ν):R2:=fun x y H Q=>match x,y with
 | .ref a,.ref b=>∃ xs ys,bE K H a xs/\bE K H b ys/\xs.length+ys.length<=sizeLine/\((xs=[]/\Q (.ref b) H)\/(xs≠[]/\ys≠[]/\∀ p,H p=none->Q (.ref p) (upd H p (.tup (xs++ys)))))
 | _,_=>False
def acD (K:ν):R2:=fun x y H Q=>match x,y with
 | .ref a,.ref b=>∃ xs,bE K H a xs/\bE K H b []/\Q (.bl xs.isEmpty) H
 | _,_=>False
def Uy (K:ν):V->Option Int->Option Int->Hp->VK->Prop:=fun x lo hi H Q=>match x with
 | .ref a=>∃ xs,bE K H a xs/\(HT.dQ xs.length 0 lo=0/\HT.dQ xs.length xs.length hi=xs.length->Q (.ref a) H)/\(∀ p,H p=none->Q (.ref p) (upd H p (.tup (gC xs lo hi))))
 | _=>False
def OJ (r:V->List V->Hp->VK->Prop) (to:TE) (t:TA):TE:=fun σ H Q=>to σ H fun x H1=>match x with
 | .ref l=>(match H1 l with
  | some (.tup _)=>t σ H1 fun xs H2=>r (.ref l) xs H2 Q
  | _=>False)
 | _=>False
section
variable {o e:Expr} {es:List Expr} {name:Str} {id:String} {r:V->List V->Hp->VK->Prop} {to:TE} {t:TA} {apos bt:Pos}
end
def acx:bootBuiltins "min" = some (.builtin "min"):=by kernel_rfl
end
def bf.m {j k:Nat} {A:Around} (r:bf k A) (h:j<=k:=by decide):bf j A:=r.mono h
def fI {C d x:Addr} {f:Str} {fs gs:List (Str×V)} {v:V} {H:Hp} {Q:V->Prop} (h:H x=some (.ins C d fs)) (s:dN fs gs) (e:List.lookup f gs=some v) (q:Q v):FI C f (.ref x) H Q:=⟨x,_,_,_,rfl,h,(s f).trans e,q⟩
def mI {C d x:Addr} {f:Str} {fs gs:List (Str×V)} {H:Hp} {q:Prop} (h:H x=some (.ins C d fs)) (s:dN fs gs) (r:q) (e:List.lookup f gs=none:=by rfl):MI C f (.ref x) H q:=⟨x,_,_,rfl,h,(s f).trans e,r⟩
@[elab_as_elim] theorem eY {H:Hp} {p:Addr} {o:HO} {C:Hp->Prop} (h:H p=none) (k:∀ H1,ag H H1->H1 p=some o->C H1):C (upd H p o):=k _ (ag.upd h) au
section
variable {prog:Program} {w:World} {A:Around} {E:Value->Shared->Prop} {s:Shared}
end
section
variable {X:Cx}
def Wr {te:TE} {H:Hp} {Q:VK} {vs:List V} (m:Nat) (W:Nat->List V->Hp->Prop) (hm:m<=1000) (w0:W 0 [] H) (wl:∀ i ys H1,W i ys H1->ys.length=i)
  (he:∀ k ys H1,k < m->W k ys H1->∀ R:VK,(∀ z H2,W (k+1) (ys++[z]) H2->R z H2)->te (some (.int (k:Int))::vs.map some) H1 R)
  (q:∀ ys H1 l,W m ys H1->H1 l=none->Q (.ref l) (upd H1 l (.lst ys))) :
  oF (oK 0 ((m:Int)).toNat) 1 vs (fE 0) jg te Q H:=by
 have hsz:m<=sizeLine:=fits hm;refine ⟨fun i zs k H1=>W i zs H1/\i<=m/\k=m - i,⟨_,w0,Cl _,rfl⟩,?_⟩;rintro i zs k H1 ⟨hw,hi,rfl⟩;have hlen:=wl _ _ _ hw;refine ⟨by omega,?_⟩;by_cases h:i < m
 ·refine .inr ⟨show i < ((m:Int)).toNat by omega,by omega,?_⟩;rintro v H' ⟨rfl,rfl⟩ σ0 hσ0;obtain ⟨a,rfl⟩:=xi hσ0;refine ⟨⟨[some (.int (0+(i:Int)))],rfl,rfl⟩,?_⟩;have e0:(0+(i:Int))=(i:Int):=by omega
  show jg _ _ _;unfold jg;dsimp only;rw [AC rfl];have st:=he i zs _ h hw (fun z H3=>∃ m',m' < m - i/\W (i+1) (zs++[z]) H3/\i+1<=m/\m'=m - (i+1)) (fun v H2 x=>⟨m - (i+1),by omega,x,h,rfl⟩);rw [<- e0] at st;exact st
 ·have e:i=m:=by omega
  subst e;exact .inl ⟨show ((i:Int)).toNat<=i by omega,fun l hl=>q _ _ _ hw hl⟩
end
def DE (K:ν) (H:Hp):Nat->V->V->Prop
 | 0,x,y=>dq x=true/\dq y=true/\fV x y=true
 | n+1,x,y=>(dq x=true/\dq y=true/\fV x y=true)\/∃ a b xs ys,x=.ref a/\y=.ref b/\(aD K H a xs/\aD K H b ys\/bE K H a xs/\bE K H b ys)/\xs.length=ys.length/\∀ i (h1:i < xs.length) (h2:i < ys.length),DE K H n xs[i] ys[i]
section
variable {X:Cx}
def vw {xs:List V} {i1:List Value} (r1:Vals xs i1) (j:Nat) (g1:j < i1.toArray.size):∃ (j1:j < xs.length),RelV xs[j] i1.toArray[j]:=by
 have j1:j < xs.length:=by rw [r1.length]; simpa using g1
 obtain ⟨u1,e1,ru1⟩:=r1.get (ss j1);have w1:i1.toArray[j]=u1:=by
  have:=(sw.mp e1).2
  simpa using this
 exact ⟨j1,by rw [w1]; exact ru1⟩
def Gh {π:List (Addr×Obj)} {σ:St} {H:Hp} {s:Shared} (I:Inv X π σ H s) {n:Nat} (ih:∀ {A:Around} {x y:V} {v u:Value},DE X.K H n x y->RelV x v->RelV y u->A.units+n < cLine->SeqAt.EqAt A s v u true)
  {A:Around} {a b:Addr} {xs ys:List V} (ff:aD X.K H a xs/\aD X.K H b ys\/bE X.K H a xs/\bE X.K H b ys) (hl:xs.length=ys.length) (he:∀ i (h1:i < xs.length) (h2:i < ys.length),DE X.K H n xs[i] ys[i]) (hu:A.units+(n+1) < cLine):SeqAt.RcAt A s (.ref a) (.ref b) true:=by
 have el:∀ {i1 i2:List Value},Vals xs i1->Vals ys i2->∀ (j:Nat) (g1:j < i1.toArray.size) (g2:j < i2.toArray.size),SeqAt.EqAt A.in1 s i1.toArray[j] i2.toArray[j] true:=fun r1 r2 j g1 g2=>by
  obtain ⟨j1,u1⟩:=vw r1 j g1;obtain ⟨j2,u2⟩:=vw r2 j g2;exact ih (he j j1 j2) u1 u2 (show A.units+1+n < cLine by omega)
 rcases ff with ⟨ha,hb⟩ | ⟨ha,hb⟩
 ·obtain ⟨i1,r1,p1,_⟩:=I.list ha;obtain ⟨i2,r2,p2,_⟩:=I.list hb;have hsz:i1.toArray.size=i2.toArray.size:=by rw [tz,tz,<- r1.length,<- r2.length,hl]
  have k:=SeqAt.RcAt.lists (A:=A) (s:=s) (e:=fun _=>true) p1.isList p2.isList hsz (by omega) (el r1 r2);rw [all_true] at k;exact k
 ·obtain ⟨i1,r1,p1,_⟩:=I.tuple ha;obtain ⟨i2,r2,p2,_⟩:=I.tuple hb;have hsz:i1.toArray.size=i2.toArray.size:=by rw [tz,tz,<- r1.length,<- r2.length,hl]
  have k:=SeqAt.RcAt.tuples (A:=A) (s:=s) (e:=fun _=>true) p1 p2 (by omega) (el r1 r2);rw [all_true,hsz,beq_self_eq_true,Bool.and_self] at k;exact k
def zC {π:List (Addr×Obj)} {σ:St} {H:Hp} {s:Shared} (I:Inv X π σ H s):∀ (n:Nat) {A:Around} {x y:V} {v u:Value},DE X.K H n x y->RelV x v->RelV y u->A.units+n < cLine->SeqAt.EqAt A s v u true
 | 0,A,x,y,v,u,h,rx,ry,hu=>by
  have:=zX (A:=A) (s:=s) rx ry h.1 h.2.1;rw [h.2.2] at this;exact this
 | n+1,A,x,y,v,u,h,rx,ry,hu=>by
  rcases h with h | ⟨a,b,xs,ys,rfl,rfl,ff,hl,he⟩
  ·have:=zX (A:=A) (s:=s) rx ry h.1 h.2.1;rw [h.2.2] at this;exact this
  ·cases rx; cases ry;by_cases e:a=b
   ·subst e; exact SeqAt.EqAt.same _
   ·exact SeqAt.EqAt.of_refs e (Gh I (zC I n) ff hl he hu)
def Iw (K:ν) (n:Nat):R2:=fun x y H Q=>match x,y with
 | .ref a,.ref b=>∃ xs ys:List V,(aD K H a xs/\aD K H b ys\/bE K H a xs/\bE K H b ys)/\xs.length=ys.length/\(∀ i (h1:i < xs.length) (h2:i < ys.length),DE K H n xs[i] ys[i])/\Q (.bl true) H
 | _,_=>False
def S4 {K:ν} (n:Nat) (hK:X.K=K) (hu:X.A.units+(n+1) < cLine):bc X (compareOp .Eq) (Iw K n):=by
 subst hK;intro π s σ H x y v u Q I rx ry h;unfold Iw at h;split at h
 ·obtain ⟨xs,ys,ff,hl,he,q⟩:=h;cases rx; cases ry;exact Gh I (zC I n) ff hl he hu _ _ _ _ ⟨.bl _,H,I,rfl,q⟩
 ·exact h.elim
end
def bf.Ja {k:Nat} {A:Around} (r:bf k A):A.units+(4+1) < cLine:=by have:=r.un; omega
def TU:List V->Hp->VK->Prop:=fun xs H Q=>match xs with
 | [.int a,.int b]=>Q (.int (if b < a then b else a)) H
 | _=>False
section
variable {K:ν} {x qual nm nm2:Str} {st:Stmt} {f:Addr} {fd:FuncData} {ps:List Str} {ds:List Value}
end
section
variable {X:Cx}
end
section
variable {X:Cx} {tg:Expr} {π:List (Addr×Obj)} {σ:St} {H:Hp} {s:Shared}
end
section
variable {X:Cx} {es:List Expr} {kk:Nat} {rN apos bt:Pos} {o:Expr} {to:TE}
end
section
variable {X:Cx} {e st:Expr} {te:TE} {tk:TO} {p2 pos:Pos}
end
section
variable {X:Cx}
def UZ (K:ν) (n:Nat):R2:=fun x y H Q=>((x=.aw/\y=.aw)\/∃ a b xs ys,x=.ref a/\y=.ref b/\(aD K H a xs/\aD K H b ys\/bE K H a xs/\bE K H b ys)/\xs.length=ys.length/\(∀ i (h1:i < xs.length) (h2:i < ys.length),DE K H n xs[i] ys[i]))/\Q (.bl false) H
def aav {K:ν} (n:Nat) (hK:X.K=K) (hu:X.A.units+(n+1) < cLine):bc X (compareOp .NotEq) (UZ K n):=by
 subst hK;intro π s σ H x y v u Q I rx ry h;obtain ⟨h,q⟩:=h;rcases h with ⟨rfl,rfl⟩ | ⟨a,b,xs,ys,rfl,rfl,ff,hl,he⟩
 ·cases rx; cases ry;exact SeqAt.RcNeAt.none_none _ _ _ _ ⟨.bl _,H,I,rfl,q⟩
 ·cases rx; cases ry;have el:∀ {i1 i2:List Value},Vals xs i1->Vals ys i2->∀ (j:Nat) (g1:j < i1.toArray.size) (g2:j < i2.toArray.size),SeqAt.EqAt X.A.in1 s i1.toArray[j] i2.toArray[j] true:=fun r1 r2 j g1 g2=>by
   obtain ⟨j1,u1⟩:=vw r1 j g1;obtain ⟨j2,u2⟩:=vw r2 j g2;exact zC I n (he j j1 j2) u1 u2 (show X.A.units+1+n < cLine by omega)
  rcases ff with ⟨ha,hb⟩ | ⟨ha,hb⟩
  ·obtain ⟨i1,r1,p1,_⟩:=I.list ha;obtain ⟨i2,r2,p2,_⟩:=I.list hb;have hsz:i1.toArray.size=i2.toArray.size:=by rw [tz,tz,<- r1.length,<- r2.length,hl]
   have k:=Jad (A:=X.A) (s:=s) (e:=fun _=>true) p1.isList p2.isList hsz (by omega) (el r1 r2);rw [all_true] at k;exact k _ _ _ _ ⟨.bl _,H,I,rfl,q⟩
  ·obtain ⟨i1,r1,p1,_⟩:=I.tuple ha;obtain ⟨i2,r2,p2,_⟩:=I.tuple hb;have hsz:i1.toArray.size=i2.toArray.size:=by rw [tz,tz,<- r1.length,<- r2.length,hl]
   have k:=SeqAt.RcNeAt.tuples (A:=X.A) (s:=s) (e:=fun _=>true) p1 p2 (by omega) (el r1 r2);rw [all_true,hsz,beq_self_eq_true,Bool.and_self] at k;exact k _ _ _ _ ⟨.bl _,H,I,rfl,q⟩
end
section
variable {prog:Program} {w:World} {A:Around} {E:Value->Shared->Prop} {s:Shared}
def aa2:typeLookup (.type "list") "keys" = pure none:=am_miss_of_fast (by decide +kernel)
def UM {a:Addr} {o:Obj} {xs:Array Value} {k:Nat} {Q:Option Value->Shared->Prop}
  (hx:s.heap.get? a=some o) (hc:o.cls=.type "list") (eN:o.data=.seq xs k) (hd:o.dict=none) (hA:A.handled=none)
  (h:∀ h' tk,(∀ b o,s.heap.get? b=some o->h'.get? b=some o)->Q none { s with heap:=h',toks:=tk }) :
  wpAny (model prog w) A (getAttr? (.ref a) "keys") Q E s:=by
 obtain ⟨c,dct,dat,sl⟩:=o;simp only at hc eN hd;subst hc eN hd;obtain ⟨hp,g,d,tk,os⟩:=s;have hT:∀ tk',(⟨hp,g,d,tk',os⟩:Shared).TypeIs (.ref a) "list" := fun _=>⟨_,hx,rfl⟩;have f1:=sub_AttributeError;have f3:=_G.lookup;have f4:=_G.bind (.ref a);have f5:=am_list_getattr_none;unfold getAttr? getAttrBy? getAttrBy;refine lm (wpAny_mkText (lm (_Z ?_)))
 repeat (any_goals (first | assumption | exact hT _ | ((with_reducible show wpAny _ _ (call (Value.builtin "list.__getattribute__") _ _) _ _ _); refine SL _G (hT _) am_entry_list_getattribute (F.args_list_getattribute_2 _ _) (meets_getattribute_miss_list a xs k sl "keys" _ aa2 (by decide +kernel) (by size_fits)) ⟨hx,hA,fun h' tk' e hx'=>?_⟩) | wp_step))
 obtain ⟨t',u',he⟩:=hx'.there;show wpAny _ _ (getattributeRaised _ _ _ _ _ _ _) _ _ _;unfold getattributeRaised
 repeat (any_goals (first | assumption | wp_step))
 exact h _ _ hx'.keeps
def Fv:entryFor table "dict.update.loop" = some Builtin.«dict.update.loop»:=entryFor_of_tree (by kernel_rfl)
def xo:plainId "dict.update.loop" = true:=by decide +kernel
def P7 {kvs:List (Key×V)} {i:Nat} {k:Key} {v:V} (nd:(kvs.map (·.1)).Nodup) (h:kvs[i]?=some (k,v)):putK (kvs.take i) k v=kvs.take (i+1):=by
 rw [ZD _ ?_,List.take_succ,h]
 ·rfl
 cases e:aG (kvs.take i) k with
 | none=>rfl
 | some u =>
  unfold aG at e;obtain ⟨kv,h1,h2⟩:=PP.mp e;have h3:kv.1=k:=by simpa using List.find?_some h1
  obtain ⟨j,hj⟩:=_4 (_D h1);obtain ⟨hl,he⟩:=sw.mp hj;rw [Ty] at hl;rw [List.getElem_take] at he;obtain ⟨cf,rP⟩:=sw.mp h;refine ((List.pairwise_iff_getElem.mp nd) j i (by simpa using by omega) (by simpa using cf) (by omega) ?_).elim;rw [List.getElem_map,List.getElem_map,he,rP];exact h3
def UQ {I l d:Addr} {items:Array Value} {kvs:List (Key×V)} {R:Result->Shared->Prop} (hA:A.handled=none) (nIl:l≠I) (D1:d≠I) (nld:l≠d) (hz:kvs.length<=sizeLine) (nd:(kvs.map (·.1)).Nodup) (hn:items.size=kvs.length) :
  ∀ (n i:Nat) (t:Tok) (s:Shared),items.size - i=n->i<=items.size->s.heap.IsListIter I l i->s.heap.IsList l items ->
   (∀ (j:Nat) (v:Value),items[j]?=some v->∃ (a:Addr) (k:Key) (kv x:Value) (y:V),v=.ref a/\a≠I/\a≠d/\kvs[j]?=some (k,y)/\lq k kv=true/\RelV y x/\s.heap.IsTuple a #[kv,x]) ->
   (∃ vs,KV (kvs.take i) vs/\s.heap.DictOf (dM prog w) d vs) ->
   (∀ h' tk vs,(∀ b o,b≠I->b≠d->s.heap.get? b=some o->h'.get? b=some o)->KV kvs vs->h'.DictOf (dM prog w) d vs->R (.ok (.ret .none)) { s with heap:=h',toks:=tk }) ->
   codeAny (model prog w) A (.builtin "dict.update.loop" ⟨[.ref d,.ref I,.int (i:Int) t,.none],[]⟩) R s:=by
 intro n
 induction n with
 | zero =>
  intro i t s hk hi hit hl _ ⟨vs,jv,hd⟩ hR;have MH:i=items.size:=by omega
  refine _s Fv ?_;rw [_b xo _];show wpAny _ A.in1 (pyNext (.ref I) >>= _) _ _ s;refine lm (wpAny_pyNext_list_end (by simpa using hA) hit hl (by simp [MH]) fun h' he'=>?_);refine lm (pi ?_);rw [MH,hn,P3 (sK _)] at jv;exact pi (hR h' s.toks vs (fun b o hb _ e=>he' b o hb e) jv (let ⟨o,es,ep,ho,r⟩:=hd; ⟨o,es,ep,he' d o D1 ho,r⟩))
 | succ n ih =>
  intro i t s hk hi hit hl hT ⟨vs,jv,hd⟩ hR;have bK:i < items.size:=by omega
  have hx:items[i]?=some items[i]:=by simp [bK]
  obtain ⟨a,k,kv,x,y,ea,nai,nad,Eo,ER,ry,ht⟩:=hT i _ hx;refine _s Fv ?_;rw [_b xo _];show wpAny _ A.in1 (pyNext (.ref I) >>= _) _ _ s;refine lm (wpAny_pyNext_list_item hit hl hx fun h' hit' hs'=>?_);rw [ea];have ht':h'.IsTuple a #[kv,x]:=ht.extBut hs'.extBut nai;have hd':h'.DictOf (dM prog w) d vs:=hd.extBut hs'.extBut D1;have hl':h'.IsList l items:=hl.extBut hs'.extBut nIl;show wpAny _ A.in1 (holding [Value.ref a] _ >>= _) _ _ _;refine lm (FS ?_);have hT2:Shared.TypeIs { s with heap:=h' } (.ref a) "tuple" := ht'.typeIs;have hp:wpAny (model prog w) A.in1 (Builtin.Dict.pairItems (.ref a)) (fun r s'=>r=[kv,x]/\s'={ s with heap:=h' }) (fun _ _=>False) { s with heap:=h' }:=by
   unfold Builtin.Dict.pairItems;refine lm (wpAny_typeOf hT2 ?_);rw [AC (by decide)];obtain ⟨o,ho,hc,m,nj⟩:=ht';unfold seqItems?
   repeat (any_goals (first | assumption | wp_step))
   rw [nj];exact pi (pi ⟨rfl,rfl⟩)
  refine lm (Jah (IN hp ?_ (fun _ _ z=>z.elim)));rintro r s' ⟨rfl,rfl⟩;dsimp only;refine FS (wpAny_dictSet_pairs (knd:=dM prog w) (hsz:=by rw [<- jv.length]; exact u8 (by rw [Ty]; omega) hz) ER hd' fun h2 hd2 ng=>?_);have rQ:∀ b o,b≠I->b≠d->s.heap.get? b=some o->h2.get? b=some o:=fun b o n1 n2 e=>(ng.2 b n2).trans (hs'.extBut b o n1 e);refine pi ⟨_0 xo _,ih (i+1) _ _ (by omega) bK ?_ ?_ ?_ ⟨_,by have:=jv.put k ry; rw [P7 nd Eo] at this; exact this,hd2⟩ ?_⟩
  ·obtain ⟨o,ho,hc,nj⟩:=hit';exact ⟨o,(ng.2 I (sB D1)).trans ho,hc,nj⟩
  ·obtain ⟨o,ho,r⟩:=hl';exact ⟨o,(ng.2 l nld).trans ho,r⟩
  ·intro j v hv;obtain ⟨a,k,kv,x,y,e1,e2,e3,e4,e5,e6,o,ho,r⟩:=hT j v hv;exact ⟨a,k,kv,x,y,e1,e2,e3,e4,e5,e6,o,rQ _ _ e2 e3 ho,r⟩
  ·exact fun h3 tk vs' xZ a1 a2=>hR h3 tk vs' (fun b o n1 n2 e=>xZ b o n1 n2 (rQ b o n1 n2 e)) a1 a2
def Rl {l:Addr} {o:Obj} {items:Array Value} {m:Nat} {kvs:List (Key×V)} {Q:Value->Shared->Prop} (hA:A.handled=none) (ho:s.heap.get? l=some o) (hc:o.cls=.type "list") (eN:o.data=.seq items m) (jq:o.dict=none) (hz:kvs.length<=sizeLine) (nd:(kvs.map (·.1)).Nodup) (hn:items.size=kvs.length)
  (hT:∀ (j:Nat) (v:Value),items[j]?=some v->∃ (a:Addr) (k:Key) (kv x:Value) (y:V),v=.ref a/\kvs[j]?=some (k,y)/\lq k kv=true/\RelV y x/\s.heap.IsTuple a #[kv,x])
  (h:∀ h' tk vs,(∀ b o,s.heap.get? b=some o->h'.get? b=some o)->KV kvs vs->h'.DictOf (dM prog w) s.heap.objs.size vs->Q (.ref s.heap.objs.size) { s with heap:=h',toks:=tk }) :
  wpAny (model prog w) A (call (.type "dict") [.ref l]) Q E s:=by
 refine callType_codes (Q₁:=fun obj s₁=>obj=.ref s.heap.objs.size/\s₁={ s with heap:=s.heap.push { cls:=.type "dict",data:=.dict #[] } }) F.kt_called_dict (F.kt_typeCall_dict_1 _) F.entry_dict_init (kt_code_dict_new _ ⟨rfl,rfl⟩) ?_;rintro obj s₁ ⟨rfl,rfl⟩;have rM:(s.heap.push { cls:=.type "dict",data:=.dict #[] }).DictOf (dM prog w) s.heap.objs.size []:=Heap.DictOf.new s.heap;have ho':(s.heap.push { cls:=.type "dict",data:=.dict #[] }).get? l=some o:=lv _ ho;refine ⟨rM.typeIs,F.args_dict_init_2 _ _,?_⟩;unfold Builtin.«dict.__init__»;refine lm ?_;unfold Builtin.Dict.selfAndRest;refine lm (wpAny_notOrdered_dict rM.typeIs ?_);show wpAny _ _ (pure (s.heap.objs.size,[Value.ref l])) _ _ _;refine pi ?_;show wpAny _ _ (Builtin.Dict.updateFrom "dict.__init__" s.heap.objs.size (.ref l) [] .none) _ _ _;unfold Builtin.Dict.updateFrom;refine lm (wpAny_typeOf (T := "list") ⟨o,ho',hc⟩ ?_);rw [AC (by decide)];refine lm (UM ho' hc eN jq (by simpa using hA) fun h1 tk1 oS=>?_);rw [AC (show (none:Option Value).isNone=true from rfl)];have iV:h1.IsList l items:=⟨o,oS _ _ ho',hc,m,eN⟩;refine lm (wpAny_rule ?_);refine lm (wpAny_pyIter_list iV ?_);have Mv:l < s.heap.objs.size:=ul ho;have yF:s.heap.objs.size < h1.objs.size:=by
  obtain ⟨_,_,_,hg,_⟩:=rM;exact ul (oS _ _ hg)
 refine pi ⟨_0 xo _,?_⟩;refine UQ (kvs:=kvs) (by simpa using hA) (wS (Nat.lt_trans Mv yF)) (wS yF) (wS Mv) hz nd hn _ 0 _ _ rfl (Cl _) ⟨_,ut _ rfl,rfl,rfl⟩ (iV.push _) ?_ ⟨[],.nil,?_⟩ ?_
 ·intro j v hv;obtain ⟨a,k,kv,x,y,e1,e2,e3,e4,q,hq,r⟩:=hT j v hv;have bK:a < s.heap.objs.size:=ul hq;exact ⟨a,k,kv,x,y,e1,wS (Nat.lt_trans bK yF),wS bK,e2,e3,e4,q,lv _ (oS _ _ (lv _ hq)),r⟩
 ·obtain ⟨q,es,ep,hq,r⟩:=rM;exact ⟨q,es,ep,lv _ (oS _ _ hq),r⟩
 ·intro h' tk vs rQ jv hd;refine ⟨rfl,h h' tk vs (fun b u e=>?_) jv hd⟩;have bK:b < s.heap.objs.size:=ul e;exact rQ b u (wS (Nat.lt_trans bK yF)) (wS bK) (lv _ (oS _ _ (lv _ e)))
end
section
variable {X:Cx}
def Xh (K:ν):List V->Hp->VK->Prop:=fun xs H Q=>∃ l ys kvs,xs=[.ref l]/\H l=some (.lst ys)/\ys.length=kvs.length/\kvs.length<=1000/\(kvs.map (·.1)).Nodup /\
 (∀ (j:Nat) (y:V),ys[j]?=some y->∃ a k v,y=.ref a/\kvs[j]?=some (k,v)/\H a=some (.tup [kV k,v]))/\∀ d,H d=none->Q (.ref d) (upd H d (.dK kvs))
def ZY {K:ν} (hc:X.calm=true):cT X (.type "dict") (Xh K):=by
 intro π s σ H xs us Q I r h;obtain ⟨l,ys,kvs,rfl,hl,hn,hz,nd,hT,q⟩:=h;obtain ⟨u,rfl,rx⟩:=vals1 r;cases rx;obtain ⟨_,aq,e,rv,he⟩:=(show bG X.prog X.w H s.heap l (.lst ys) from I.ay l _ hl);have hlen:=rv.length;refine Rl (kvs:=kvs) (I.ok.hd hc) he rfl rfl rfl (fits hz) nd (by rw [tz,<- hlen,hn]) (fun j v hv=>?_) fun h' tk vs hk jv hd=>⟨.ref s.heap.objs.size,_,I.laid (o:=.dK kvs) (t':=tk) hk (sK _) (GQ (fits hz) (Fa.mpr (sB (wS I.big))) jv hd),rfl,q _ (I.ay.fresh (sK _))⟩;have hj:j < ys.length:=by
  rw [hlen];have:=(Array.getElem?_eq_some_iff.mp hv).1
  simpa using this
 obtain ⟨a,k,x,ey,Eo,hta⟩:=hT j _ (ss hj);obtain ⟨u,hu,ru⟩:=rv.get (ss hj);have euv:u=v:=by
  have:aq[j]?=some v:=by simpa using hv
  rw [hu] at this; cases this; rfl
 subst euv;rw [ey] at ru;cases (show u=Value.ref a from ru);obtain ⟨_,mW,rv2,o2,h1,h2,n,h3,_⟩:=(show bG X.prog X.w H s.heap a (.tup [kV k,x]) from I.ay a _ hta);obtain ⟨kv,xx,rfl,r1,r2⟩:=vals2 rv2;exact ⟨a,k,kv,xx,x,rfl,Eo,nG (P:=X.prog) (w:=X.w) r1,r2,o2,h1,h2,n,h3⟩
end
def Dv.Yk {X:Cx} {k:Nat} {f:Addr} {fd:FuncData} {ps:List Str} {sp:Sp} {bg:List V} {ds:List Value} {R:St->XK} {x:Str} {p pos:Pos}
  (F:aA X.prog X.w X.K X.mg X.base (bI X.prog X.w) k f fd ps sp) (hr:bf k X.A) (hm:X.mg x=some (.ref f)) (hk:PySem.W.keepIn X.K (.ref f)=true) (hb:Binds X.K fd ps ds) (hd:Vals bg ds) (hx:gE X R)
  (hg:Gl X x:=by rfl) (bF:(x == ("__debug__" : Str))=false:=by decide):QE X (.Call (.Name x p) [] [] pos) (wZ sp bg R jE):=⟨by
 intro π s σ H Q I h;refine FB (jW I hg hm ?_ bF);exact Ja1 I.bR hk (Dl (us:=[]) F hr hb hd hx I .nil h)⟩
end L2
set_option maxHeartbeats 0
namespace L2.bM
open PySem PySem.Spec PyProof.Rows
local macro_rules | `(tactic| walk_at "s")=>`(tactic| exact ⟨rfl,rfl,rfl,by decide +kernel,rfl,by decide +kernel,by decide +kernel⟩)
abbrev e_ (N:List Str) (s:Stmt):Prop:=aF N N (aB s)
abbrev _root_.L2.FT.k {K:ν} {mg:Str->Option Value} {a b:Str} {st:Stmt} {ps:List Str} (t:FT K mg a b st ps) (P:Program) (w:World) (base:Heap) (n:Nat) (q:Sp):Prop:=aA P w K mg base aN n t.f t.d ps q
abbrev _root_.L2.MT.k {K:ν} {C:Addr} {a b:Str} {st:Stmt} {ps:List Str} (t:MT K C a b st ps) (P:Program) (w:World) (mg:Str->Option Value) (base:Heap) (n:Nat) (q:Sp):Prop:=aA P w K mg base aN n t.f t.d ps q
def top (i:Nat):Stmt:=PySem.Challenge.pw_leadnames_k43_which_refusal_first.main.body.getD i (.Pass ⟨0,0,0,0⟩)
abbrev GH:=top 15
abbrev Ka:=top 16
abbrev Kf:=top 17
abbrev Bb:=top 18
abbrev IF:=top 28
abbrev Ij:=top 29
abbrev Js:=top 30
abbrev Gr:=top 31
abbrev Kx:=top 32
abbrev GU:=top 33
abbrev Gs:=top 34
abbrev IX:=top 35
abbrev Lk:=top 36
abbrev Km:=top 37
abbrev xn:=top 38
abbrev Di:=top 52
abbrev Dt:=top 53
abbrev C5:=top 54
abbrev Du:=top 57
abbrev BK:=top 58
abbrev B6:=top 59
abbrev y1:=top 60
abbrev yK:=top 61
abbrev B2:=top 62
abbrev Ar:=top 63
abbrev AF:=top 64
abbrev zZ:=top 65
abbrev nY:=top 66
abbrev oM:=top 67
abbrev xR:=top 68
abbrev JT:=top 73
abbrev Kz:=top 74
abbrev J4:=top 75
abbrev Bz:=top 76
abbrev Av:=top 77
abbrev zV:=top 78
abbrev CQ:=top 79
abbrev C4:=top 80
abbrev BM:=top 81
abbrev yS:=top 82
abbrev Az:=top 83
abbrev yJ:=top 84
abbrev AU:=top 85
abbrev qW:=top 86
abbrev Cv:=top 87
abbrev sF:=top 88
def SH:e_ ["house","folder"] GH:=by walk_at "s"
def Dh:aF ["house","folder","base"] ["house","folder"] (aB Ka):=by walk_at "s"
def FN:aF ["house","folder","stack"] ["house","folder"] (aB Kf):=by walk_at "s"
def ny:aF ["house","asker","folder","root","here","stack","place"] ["house","asker","folder"] (aB Bb):=by walk_at "s"
def abq:e_ ["number"] IF:=by walk_at "s"
def S5:e_ ["text"] Ij:=by walk_at "s"
def Jz:e_ ["text"] Js:=by walk_at "s"
def HJ:e_ ["text"] Gr:=by walk_at "s"
def WL:e_ ["text"] Kx:=by walk_at "s"
def wq:aF ["path","parts"] ["path"] (aB GU):=by walk_at "s"
def Pa:e_ ["text"] Gs:=by walk_at "s"
def Ky:e_ ["text"] IX:=by walk_at "s"
def W7:e_ ["text"] Lk:=by walk_at "s"
def IE:e_ ["text"] Km:=by walk_at "s"
def F2:e_ ["path"] xn:=by walk_at "s"
def qu:aF ["house","asker","folder","root","names","stack","place"] ["house","asker","folder"] (aB Di):=by walk_at "s"
def Gg:aF ["leads","first"] ["leads"] (aB Dt):=by walk_at "s"
def IG:aF ["house","asker","from_root","parts","last","ended"] ["house","asker","from_root","parts","last"] (aB C5):=by walk_at "s"
def Hl:aF ["path","parts"] ["path"] (aB Du):=by walk_at "s"
def BF:aF ["house","asker","path","asked","ended"] ["house","asker","path"] (aB BK):=by walk_at "s"
def Ud:e_ ["house","seat"] B6:=by walk_at "s"
def abk:e_ ["told"] y1:=by walk_at "s"
def R3:e_ ["house","asker","number","right","reason"] yK:=by walk_at "s"
def acp:e_ ["house","asker","folder"] B2:=by walk_at "s"
def Pz:e_ ["house","seat"] Ar:=by walk_at "s"
def Hu:aF ["house","asker","path","seat"] ["house","asker","path"] (aB AF):=by walk_at "s"
def PQ:e_ ["house","seat","number"] zZ:=by walk_at "s"
def vG:aF ["house","asker","path","mine","rest","seat"] ["house","asker","path","mine","rest"] (aB nY):=by walk_at "s"
def vP:aF ["house","asker","path","text","mine","rest","seat"] ["house","asker","path","text","mine","rest"] (aB oM):=by walk_at "s"
def xA:aF ["house","asker","path","lead","seat"] ["house","asker","path","lead"] (aB xR):=by walk_at "s"
def yN:aF ["_law_cell","_law_k","_law_number"] ["_law_cell","_law_k"] (aB JT):=by walk_at "s"
def Yr:e_ ["_law_cell"] Kz:=by walk_at "s"
def He:aF ["_law_source_here","_law_size","_law_found"] ["_law_source_here","_law_size"] (aB J4):=by walk_at "s"
def XF:e_ ["_law_told_here"] Bz:=by walk_at "s"
def zc:aF ["_law_house_here","_law_folder"] [] (aB Av):=by walk_at "s"
def aah:e_ ["_law_source_here","_law_some"] zV:=by walk_at "s"
def Ib:aF ["_law_source_here","_law_some"] ["_law_source_here"] (aB CQ):=by walk_at "s"
def Xc:e_ ["_law_source_here"] C4:=by walk_at "s"
def Qo:e_ ["_law_source_here"] BM:=by walk_at "s"
def oP:aF ["_law_source_here","_law_faults","_law_name","_law_some"] ["_law_source_here","_law_faults"] (aB yS):=by walk_at "s"
def Ga:aF ["_law_path","_law_parts"] ["_law_path"] (aB Az):=by walk_at "s"
def iu:aF ["_law_ask","_law_found","_law_error","e","_law_some","_law_words","_law_mine"] ["_law_ask"] (aB yJ):=by walk_at "s"
def C2:aF ["_law_house_here","_law_way_here","_law_path","_law_faults","_law_word","_law_parts"] ["_law_house_here","_law_way_here","_law_path","_law_faults"] (aB AU):=by walk_at "s"
def eJ:aF ["_law_house_here","_law_source_here","_law_words","_law_faults","_law_way_here","_law_asker","_law_path","_law_good","_law_mine","_law_rest","_law_lead","_law_text","_law_due_here","_law_many","_law_names","_law_found"] ["_law_house_here","_law_source_here"] (aB qW):=by walk_at "s"
def VI:e_ ["_law_house_here","_law_way_here","_law_asker","_law_path","_law_more"] Cv:=by walk_at "s"
def yY:aF ["_law_script","_law_house_here","_law_cell"] ["_law_script"] (aB sF):=by walk_at "s"
abbrev IQ:=inClass (top 12) 0
def aab:e_ ["self","told"] IQ:=by walk_at "s"
abbrev Ji:=inClass (top 13) 0
def ab0:e_ ["self","reason"] Ji:=by walk_at "s"
abbrev Hg:=inClass (top 43) 0
def O7:e_ ["self","number","kind","owner","mine","rest","text"] Hg:=by walk_at "s"
abbrev JO:=inClass (top 43) 1
def Uk:e_ ["self","asker"] JO:=by walk_at "s"
abbrev IT:=inClass (top 44) 0
def V8:e_ ["self"] IT:=by walk_at "s"
abbrev KO:=inClass (top 44) 1
def Kw:aF ["self","kind","owner","mine","rest","text","number"] ["self","kind","owner","mine","rest","text"] (aB KO):=by walk_at "s"
abbrev J8:=inClass (top 44) 2
def Wx:e_ ["self","owner","mine","rest"] J8:=by walk_at "s"
abbrev LJ:=inClass (top 44) 3
def WH:e_ ["self","owner","text","mine","rest"] LJ:=by walk_at "s"
abbrev Hq:=inClass (top 44) 4
def RA:e_ ["self","owner","path"] Hq:=by walk_at "s"
abbrev IY:=inClass (top 44) 5
def Uo:e_ ["self"] IY:=by walk_at "s"
abbrev Gq:=inClass (top 44) 6
def Z5:e_ ["self","number"] Gq:=by walk_at "s"
abbrev Iq:=inClass (top 44) 7
def RM:e_ ["self","folder","name"] Iq:=by walk_at "s"
abbrev JX:=inClass (top 44) 8
def UR:e_ ["self","number"] JX:=by walk_at "s"
abbrev FG:=inClass (top 44) 10
def aaq:e_ ["self","number"] FG:=by walk_at "s"
abbrev Hh:=inClass (top 44) 13
def xg:aF ["self","folder","name","number","thing","former","known"] ["self","folder","name","number"] (aB Hh):=by walk_at "s"
abbrev Ir:=inClass (top 44) 14
def Jk:aF ["self","folder","name","number"] ["self","folder","name"] (aB Ir):=by walk_at "s"
abbrev Lr:=inClass (top 48) 0
def RW:e_ ["self","number","way"] Lr:=by walk_at "s"
abbrev K9:=inClass (top 49) 0
def Rn:e_ ["self","step","reason"] K9:=by walk_at "s"
abbrev yU:=inClass (top 50) 0
def RQ:e_ ["self","leads"] yU:=by walk_at "s"
abbrev zK:=inClass (top 51) 0
def Qp:e_ ["self","house","asker","last"] zK:=by walk_at "s"
abbrev zw:=inClass (top 51) 1
def Ig:aF ["self","from_root","parts","start"] ["self","from_root","parts"] (aB zw):=by walk_at "s"
abbrev Ah:=inClass (top 51) 2
def Kq:aF ["self","part"] ["self"] (aB Ah):=by walk_at "s"
abbrev yX:=inClass (top 51) 3
def TZ:e_ ["self","reason"] yX:=by walk_at "s"
abbrev AY:=inClass (top 51) 4
def abB:e_ ["self","part"] AY:=by walk_at "s"
abbrev Cm:=inClass (top 51) 5
def FU:aF ["self","stack"] ["self"] (aB Cm):=by walk_at "s"
abbrev zt:=inClass (top 51) 6
def zk:aF ["self","name","number","kind"] ["self","name"] (aB zt):=by walk_at "s"
abbrev B9:=inClass (top 51) 7
def P0:e_ ["self","number"] B9:=by walk_at "s"
abbrev Br:=inClass (top 51) 8
def Hd:aF ["self","number","read"] ["self","number"] (aB Br):=by walk_at "s"
abbrev B4:=inClass (top 51) 9
def sH:aF ["self","names","folder"] ["self"] (aB B4):=by walk_at "s"
abbrev FK:=inClass (top 56) 0
def abL:e_ ["self","folder","name"] FK:=by walk_at "s"
abbrev IH:=inClass (top 71) 0
def Ut:e_ ["self","owner"] IH:=by walk_at "s"
abbrev KP:=inClass (top 71) 1
def V4:e_ ["self","name"] KP:=by walk_at "s"
abbrev HY:=inClass (top 71) 4
def Qd:e_ ["self","asker"] HY:=by walk_at "s"
abbrev Ld:=inClass (top 71) 5
def Qa:e_ ["self","asker"] Ld:=by walk_at "s"
abbrev IW:=inClass (top 71) 6
def U9:e_ ["self","number"] IW:=by walk_at "s"
abbrev Kc:=inClass (top 71) 7
def XG:e_ ["self","number"] Kc:=by walk_at "s"
abbrev GX:=inClass (top 71) 9
def PM:e_ ["self"] GX:=by walk_at "s"
abbrev IZ:=inClass (top 71) 10
def Zb:e_ ["self","number","name"] IZ:=by walk_at "s"
abbrev Ic:=inClass (top 71) 11
def WD:e_ ["self","number"] Ic:=by walk_at "s"
abbrev Ie:=inClass (top 71) 12
def Z9:e_ ["self","number"] Ie:=by walk_at "s"
abbrev Gb:=inClass (top 71) 13
def aa5:e_ ["self","number"] Gb:=by walk_at "s"
abbrev Lu:=inClass (top 71) 17
def T6:e_ ["self","asker","number","right"] Lu:=by walk_at "s"
abbrev K2:=inClass (top 71) 23
def abc:e_ ["self","asker"] K2:=by walk_at "s"
abbrev GF:=inClass (top 71) 25
def P1:e_ ["self","number"] GF:=by walk_at "s"
abbrev K7:=inClass (top 71) 26
def ab3:e_ ["self","name"] K7:=by walk_at "s"
abbrev Lf:=inClass (top 71) 27
def Oq:e_ ["self","asker","folder"] Lf:=by walk_at "s"
abbrev JN:=inClass (top 71) 28
def Vd:e_ ["self","asker","folder"] JN:=by walk_at "s"
abbrev JV:=inClass (top 71) 29
def K1:aF ["self","tree","owner","root"] ["self","tree","owner"] (aB JV):=by walk_at "s"
set_option genInjectivity false in
set_option genSizeOf false in
structure Tx (K:ν) (mg:Str->Option Value) where
 gy:FT K mg "top_of" "top_of" GH ["house","folder"]
 pG:FT K mg "base_of" "base_of" Ka ["house","folder"]
 eK:FT K mg "stack_of" "stack_of" Kf ["house","folder"]
 ra:FT K mg "is_seen" "is_seen" Bb ["house","asker","folder"]
 kQ:FT K mg "is_whole" "is_whole" IF ["number"]
 iD:FT K mg "is_name" "is_name" Ij ["text"]
 iq:FT K mg "is_rights" "is_rights" Js ["text"]
 ij:FT K mg "is_text" "is_text" Gr ["text"]
 lz:FT K mg "is_part" "is_part" Kx ["text"]
 bX:FT K mg "parts_of" "parts_of" GU ["path"]
 iy:FT K mg "check_name" "check_name" Gs ["text"]
 cN:FT K mg "check_rights" "check_rights" IX ["text"]
 pA:FT K mg "check_one_right" "check_one_right" Lk ["text"]
 il:FT K mg "check_text" "check_text" Km ["text"]
 iw:FT K mg "check_lead" "check_lead" xn ["path"]
 qm:FT K mg "names_to" "names_to" Di ["house","asker","folder"]
 pz:FT K mg "from_least" "from_least" Dt ["leads"]
 qY:FT K mg "walk_parts" "walk_parts" C5 ["house","asker","from_root","parts","last"]
 pN:FT K mg "check_seat" "check_seat" Du ["path"]
 qk:FT K mg "seat_of" "seat_of" BK ["house","asker","path"]
 pH:FT K mg "thing_at" "thing_at" B6 ["house","seat"]
 qG:FT K mg "number_found" "number_found" y1 ["told"]
 pX:FT K mg "check_may" "check_may" yK ["house","asker","number","right","reason"]
 qz:FT K mg "check_kept" "check_kept" B2 ["house","asker","folder"]
 qb:FT K mg "check_free" "check_free" Ar ["house","seat"]
 eG:FT K mg "free_seat_of" "free_seat_of" AF ["house","asker","path"]
 eI:FT K mg "seat_thing" "seat_thing" zZ ["house","seat","number"]
 {yz:Addr}
 {rC:FuncData}
 {Mz:Tok}
 {DZ:Tok}
 me:uA K "make_folder" "make_folder" nY yz rC [.str "lgw" Mz,.str "" DZ]
 vY:mg "make_folder" = some (.ref yz)
 qS:Binds K rC ["house","asker","path","mine","rest"] []
 Ku:Binds K rC ["house","asker","path","mine","rest"] [.str "" DZ]
 KA:Binds K rC ["house","asker","path","mine","rest"] [.str "lgw" Mz,.str "" DZ]
 {yp:Addr}
 {rq:FuncData}
 {Mr:Tok}
 {EF:Tok}
 pB:uA K "make_file" "make_file" oM yp rq [.str "lgw" Mr,.str "" EF]
 Gy:mg "make_file" = some (.ref yp)
 Cs:Binds K rq ["house","asker","path","text","mine","rest"] []
 GN:Binds K rq ["house","asker","path","text","mine","rest"] [.str "" EF]
 Am:Binds K rq ["house","asker","path","text","mine","rest"] [.str "lgw" Mr,.str "" EF]
 kJ:FT K mg "make_lead" "make_lead" xR ["house","asker","path","lead"]
 qV:FT K mg "_law_mixed" "_law_mixed" JT ["_law_cell","_law_k"]
 pZ:FT K mg "_law_source" "_law_source" Kz ["_law_cell"]
 dR:FT K mg "_law_next" "_law_next" J4 ["_law_source_here","_law_size"]
 rg:FT K mg "_law_told" "_law_told" Bz ["_law_told_here"]
 qg:FT K mg "_law_house" "_law_house" Av []
 eD:FT K mg "_law_bad" "_law_bad" zV ["_law_source_here","_law_some"]
 qC:FT K mg "_law_bad_path" "_law_bad_path" CQ ["_law_source_here"]
 qp:FT K mg "_law_bad_lead" "_law_bad_lead" C4 ["_law_source_here"]
 lD:FT K mg "_law_bad_rights" "_law_bad_rights" BM ["_law_source_here"]
 qK:FT K mg "_law_seat" "_law_seat" yS ["_law_source_here","_law_faults"]
 rj:FT K mg "_law_way" "_law_way" Az ["_law_path"]
 qE:FT K mg "_law_asked" "_law_asked" yJ ["_law_ask"]
 qF:FT K mg "_law_due" "_law_due" AU ["_law_house_here","_law_way_here","_law_path","_law_faults"]
 {D4:Addr}
 {yq:FuncData}
 w9:gn K "_law_right" "_law_right" qW D4 yq
 abh:mg "_law_right" = some (.ref D4)
 C9:Binds K yq ["_law_house_here","_law_source_here"] []
 qw:FT K mg "_law_made" "_law_made" Cv ["_law_house_here","_law_way_here","_law_asker","_law_path","_law_more"]
 {DM:Addr}
 {xW:FuncData}
 wU:gn K "law" "law" sF DM xW
 Q4:mg "law" = some (.ref DM)
 Kb:Binds K xW ["_law_script"] []
 {DC:Addr}
 Y0:mg "DOTS" = some (.ref DC)
 zp:∀ H:Hp,bE K H DC [.str ".",.str ".."]
 {t_FILE:Tok}
 Ct:mg "FILE" = some (.str "file" t_FILE)
 {t_FIRST_TREE:Tok}
 S2:mg "FIRST_TREE" = some (.str "main" t_FIRST_TREE)
 {t_FOLDER:Tok}
 wN:mg "FOLDER" = some (.str "folder" t_FOLDER)
 {eT:Addr}
 Jb:mg "Failed" = some (.ref eT)
 {eM:Addr}
 Co:mg "Found" = some (.ref eM)
 {aH:Addr}
 Wt:mg "House" = some (.ref aH)
 {t_LEAD:Tok}
 N8:mg "LEAD" = some (.str "lead" t_LEAD)
 {t_LETTERS:Tok}
 abV:mg "LETTERS" = some (.str "abcdefghijklmnopqrstuvwxyz" t_LETTERS)
 {kg:Addr}
 abH:mg "LeadError" = some (.ref kg)
 {t_MOST_IN_LEAD:Tok}
 JB:mg "MOST_IN_LEAD" = some (.int 120 t_MOST_IN_LEAD)
 {t_MOST_IN_NAME:Tok}
 Y1:mg "MOST_IN_NAME" = some (.int 8 t_MOST_IN_NAME)
 {t_MOST_IN_PATH:Tok}
 Kr:mg "MOST_IN_PATH" = some (.int 2000 t_MOST_IN_PATH)
 {t_MOST_IN_TEXT:Tok}
 JG:mg "MOST_IN_TEXT" = some (.int 60 t_MOST_IN_TEXT)
 {t_MOST_LEADS:Tok}
 OS:mg "MOST_LEADS" = some (.int 40 t_MOST_LEADS)
 {bY:Addr}
 JI:mg "NoAsker" = some (.ref bY)
 {cw:Addr}
 xm:mg "NoDeed" = some (.ref cw)
 {lP:Addr}
 YH:mg "NoHold" = some (.ref lP)
 {lK:Addr}
 P9:mg "NoName" = some (.ref lK)
 {bZ:Addr}
 wO:mg "NoPath" = some (.ref bZ)
 {cb:Addr}
 y3:mg "NoRights" = some (.ref cb)
 {lR:Addr}
 ach:mg "NoRow" = some (.ref lR)
 {cE:Addr}
 Fp:mg "NoText" = some (.ref cE)
 {gR:Addr}
 Hx:mg "NoThing" = some (.ref gR)
 {lZ:Addr}
 aad:mg "NoTree" = some (.ref lZ)
 {cu:Addr}
 Gw:mg "NoWay" = some (.ref cu)
 {yG:Addr}
 G7:mg "RIGHTS" = some (.ref yG)
 wL:∀ H:Hp,bE K H yG [.str "",.str "l",.str "g",.str "w",.str "lg",.str "lw",.str "gw",.str "lgw"]
 {fZ:Addr}
 ZH:mg "Ring" = some (.ref fZ)
 {ES:Addr}
 SR:mg "SINGLE_RIGHTS" = some (.ref ES)
 Ai:∀ H:Hp,bE K H ES [.str "l",.str "g",.str "w"]
 {lW:Addr}
 OG:mg "Seat" = some (.ref lW)
 {aU:Addr}
 XH:mg "Thing" = some (.ref aU)
 {aL:Addr}
 Us:mg "Things" = some (.ref aL)
 U1:mg "ValueError" = none
 {bh:Addr}
 Sj:mg "Walk" = some (.ref bh)
 zm:mg "all" = none
 g_bool:mg "bool" = none
 Qc:mg "dict" = none
 FQ:mg "int" = none
 dm:mg "isinstance" = none
 g7:mg "len" = none
 tH:mg "list" = none
 Hr:mg "min" = none
 CU:mg "range" = none
 zO:mg "reversed" = none
 aai:mg "sorted" = none
 lI:mg "str" = none
 sS:MT K cu "__init__" "NoWay.__init__" IQ ["self","told"]
 nW:MT K cw "__init__" "NoDeed.__init__" Ji ["self","reason"]
 sj:MT K aU "__init__" "Thing.__init__" Hg ["self","number","kind","owner","mine","rest","text"]
 uI:MT K aU "rights_for" "Thing.rights_for" JO ["self","asker"]
 tq:MT K aL "__init__" "Things.__init__" IT ["self"]
 kE:MT K aL "add_thing" "Things.add_thing" KO ["self","kind","owner","mine","rest","text"]
 kG:MT K aL "add_folder" "Things.add_folder" J8 ["self","owner","mine","rest"]
 nF:MT K aL "add_file" "Things.add_file" LJ ["self","owner","text","mine","rest"]
 oG:MT K aL "add_lead" "Things.add_lead" Hq ["self","owner","path"]
 uh:MT K aL "many" "Things.many" IY ["self"]
 ed:MT K aL "at" "Things.at" Gq ["self","number"]
 nN:MT K aL "child" "Things.child" Iq ["self","folder","name"]
 tY:MT K aL "names_in" "Things.names_in" JX ["self","number"]
 tT:MT K aL "place_of" "Things.place_of" FG ["self","number"]
 rZ:MT K aL "put_name" "Things.put_name" Hh ["self","folder","name","number"]
 rY:MT K aL "drop_name" "Things.drop_name" Ir ["self","folder","name"]
 uu:MT K eM "__init__" "Found.__init__" Lr ["self","number","way"]
 tu:MT K eT "__init__" "Failed.__init__" K9 ["self","step","reason"]
 uy:MT K fZ "__init__" "Ring.__init__" yU ["self","leads"]
 ud:MT K bh "__init__" "Walk.__init__" zK ["self","house","asker","last"]
 sJ:MT K bh "begin" "Walk.begin" zw ["self","from_root","parts"]
 sO:MT K bh "go_on" "Walk.go_on" Ah ["self"]
 g8:MT K bh "fail" "Walk.fail" yX ["self","reason"]
 tD:MT K bh "take_step" "Walk.take_step" AY ["self","part"]
 uD:MT K bh "go_up" "Walk.go_up" Cm ["self"]
 uM:MT K bh "go_by" "Walk.go_by" zt ["self","name"]
 uE:MT K bh "meet_lead" "Walk.meet_lead" B9 ["self","number"]
 tQ:MT K bh "read_lead" "Walk.read_lead" Br ["self","number"]
 sx:MT K bh "true_path" "Walk.true_path" B4 ["self"]
 sM:MT K lW "__init__" "Seat.__init__" FK ["self","folder","name"]
 ui:MT K aH "__init__" "House.__init__" IH ["self","owner"]
 tI:MT K aH "enroll" "House.enroll" KP ["self","name"]
 kK:MT K aH "root_of" "House.root_of" HY ["self","asker"]
 sX:MT K aH "standing_of" "House.standing_of" Ld ["self","asker"]
 lB:MT K aH "kind_of" "House.kind_of" IW ["self","number"]
 sC:MT K aH "owner_of" "House.owner_of" Kc ["self","number"]
 jh:MT K aH "many" "House.many" GX ["self"]
 kS:MT K aH "child" "House.child" IZ ["self","number","name"]
 oQ:MT K aH "names_in" "House.names_in" Ic ["self","number"]
 tw:MT K aH "text_of" "House.text_of" Ie ["self","number"]
 kN:MT K aH "place_of" "House.place_of" Gb ["self","number"]
 oj:MT K aH "may" "House.may" Lu ["self","asker","number","right"]
 eC:MT K aH "check_asker" "House.check_asker" K2 ["self","asker"]
 sN:MT K aH "check_thing" "House.check_thing" GF ["self","number"]
 n9:MT K aH "add_asker" "House.add_asker" K7 ["self","name"]
 tM:MT K aH "put_root" "House.put_root" Lf ["self","asker","folder"]
 uB:MT K aH "put_standing" "House.put_standing" JN ["self","asker","folder"]
 uo:MT K aH "add_tree" "House.add_tree" JV ["self","tree","owner"]
 oy:df K eT
 RZ:Mk K eT tu.f
 rh:df K eM
 PD:Mk K eM uu.f
 aO:df K aH
 Ox:Mk K aH ui.f
 By:df K fZ
 TY:Mk K fZ uy.f
 oJ:df K lW
 YK:Mk K lW sM.f
 ej:df K aU
 TM:Mk K aU sj.f
 cm:df K aL
 RK:Mk K aL tq.f
 aJ:df K bh
 Xy:Mk K bh ud.f
 JR:bC K eT "reason"
 HR:bC K eT "step"
 AG:bC K eM "number"
 Jm:bC K eM "way"
 vQ:bC K aH "changes"
 zf:bC K aH "first_root"
 zg:bC K aH "folder_under"
 Ru:bC K aH "holds"
 ZM:bC K aH "holds_given"
 As:bC K aH "root_over"
 sP:bC K aH "roots"
 zr:bC K aH "standings"
 fv:bC K aH "things"
 IU:bC K aH "tree_roots"
 Ik:bC K fZ "leads"
 xb:bC K lW "folder"
 Bs:bC K lW "name"
 C7:bC K aU "kind"
 GL:bC K aU "mine"
 wA:bC K aU "names"
 abo:bC K aU "number"
 C3:bC K aU "owner"
 w8:bC K aU "places"
 JY:bC K aU "rest"
 LB:bC K aU "text"
 Bf:bC K aL "changes"
 pP:bC K aL "made"
 JH:bC K bh "asked"
 sd:bC K bh "asker"
 fN:bC K bh "here"
 fU:bC K bh "house"
 LD:bC K bh "last"
 Ap:bC K bh "leads_read"
 nT:bC K bh "left"
 Gn:bC K bh "looked_up"
 wM:bC K bh "place"
 qj:bC K bh "reading"
 r9:bC K bh "root"
 zU:bC K bh "step"
 ot:bC K bh "told"
 sv:gK K cw nW.f "reason"
 Bq:PySem.W.typeIn K (.ref cw)=some (.type "type")
 Dq:gK K cu sS.f "told"
 Rr:PySem.W.typeIn K (.ref cu)=some (.type "type")
 {oW:Addr}
 ZJ:yq.code=.ref oW
 Po:PySem.W.excIn K bY [.type "ValueError",.type "Exception",.type "BaseException",.type "object"] "ValueError.__new__" = true
 AD:PySem.W.excIn K bZ [.type "ValueError",.type "Exception",.type "BaseException",.type "object"] "ValueError.__new__" = true
 IK:PySem.W.excIn K cb [.type "ValueError",.type "Exception",.type "BaseException",.type "object"] "ValueError.__new__" = true
 Qy:PySem.W.excIn K cE [.type "ValueError",.type "Exception",.type "BaseException",.type "object"] "ValueError.__new__" = true
 XC:PySem.W.excIn K gR [.type "ValueError",.type "Exception",.type "BaseException",.type "object"] "ValueError.__new__" = true
 OY:PySem.W.instIn K (.ref kg) (.type "tuple")=some false
 Zq:PySem.W.mroIn K kg (.type "BaseException")=some true
 OK:PySem.W.findIn K (.ref bY) "__class__" = some (some (.builtin "object.__class__"))
 Yz:PySem.W.specialIn K (.builtin "object.__class__") "__get__" = some (some (.builtin "getset_descriptor.__get__"))
 YB:PySem.W.takesIn K (.builtin "object.__class__")=some true
 RD:PySem.W.mroIn K bY (.type "object")=some true
 Ow:PySem.W.findIn K (.ref bY) "__getattribute__" = some (some (.builtin "BaseException.__getattribute__"))
 QX:PySem.W.findIn K (.ref bY) "__getattr__" = some none
 ZZ:PySem.W.mroIn K bY (.type "BaseException")=some true
 abt:PySem.W.findIn K (.ref bZ) "__class__" = some (some (.builtin "object.__class__"))
 Vn:PySem.W.specialIn K (.builtin "object.__class__") "__get__" = some (some (.builtin "getset_descriptor.__get__"))
 XB:PySem.W.takesIn K (.builtin "object.__class__")=some true
 acs:PySem.W.mroIn K bZ (.type "object")=some true
 Ti:PySem.W.findIn K (.ref bZ) "__getattribute__" = some (some (.builtin "BaseException.__getattribute__"))
 ZC:PySem.W.findIn K (.ref bZ) "__getattr__" = some none
 Tq:PySem.W.mroIn K bZ (.type "BaseException")=some true
 Ux:PySem.W.findIn K (.ref cb) "__class__" = some (some (.builtin "object.__class__"))
 Ze:PySem.W.specialIn K (.builtin "object.__class__") "__get__" = some (some (.builtin "getset_descriptor.__get__"))
 abC:PySem.W.takesIn K (.builtin "object.__class__")=some true
 U0:PySem.W.mroIn K cb (.type "object")=some true
 Oc:PySem.W.findIn K (.ref cb) "__getattribute__" = some (some (.builtin "BaseException.__getattribute__"))
 OA:PySem.W.findIn K (.ref cb) "__getattr__" = some none
 O3:PySem.W.mroIn K cb (.type "BaseException")=some true
 Pp:PySem.W.findIn K (.ref cE) "__class__" = some (some (.builtin "object.__class__"))
 aay:PySem.W.specialIn K (.builtin "object.__class__") "__get__" = some (some (.builtin "getset_descriptor.__get__"))
 aat:PySem.W.takesIn K (.builtin "object.__class__")=some true
 OT:PySem.W.mroIn K cE (.type "object")=some true
 aaj:PySem.W.findIn K (.ref cE) "__getattribute__" = some (some (.builtin "BaseException.__getattribute__"))
 aaX:PySem.W.findIn K (.ref cE) "__getattr__" = some none
 YV:PySem.W.mroIn K cE (.type "BaseException")=some true
 Wg:PySem.W.findIn K (.ref cu) "__class__" = some (some (.builtin "object.__class__"))
 Xz:PySem.W.specialIn K (.builtin "object.__class__") "__get__" = some (some (.builtin "getset_descriptor.__get__"))
 WR:PySem.W.takesIn K (.builtin "object.__class__")=some true
 Y8:PySem.W.mroIn K cu (.type "object")=some true
 ZP:PySem.W.findIn K (.ref cu) "__getattribute__" = some (some (.builtin "BaseException.__getattribute__"))
 Zp:PySem.W.findIn K (.ref cu) "__getattr__" = some none
 Yv:PySem.W.mroIn K cu (.type "BaseException")=some true
 Wf:PySem.W.findIn K (.ref cw) "__class__" = some (some (.builtin "object.__class__"))
 Rz:PySem.W.specialIn K (.builtin "object.__class__") "__get__" = some (some (.builtin "getset_descriptor.__get__"))
 abj:PySem.W.takesIn K (.builtin "object.__class__")=some true
 YX:PySem.W.mroIn K cw (.type "object")=some true
 PJ:PySem.W.findIn K (.ref cw) "__getattribute__" = some (some (.builtin "BaseException.__getattribute__"))
 Z4:PySem.W.findIn K (.ref cw) "__getattr__" = some none
 Xx:PySem.W.mroIn K cw (.type "BaseException")=some true
 q1:PySem.W.findIn K (.ref eM) "__class__" = some (some (.builtin "object.__class__"))
 q2:PySem.W.specialIn K (.builtin "object.__class__") "__get__" = some (some (.builtin "getset_descriptor.__get__"))
 q3:PySem.W.takesIn K (.builtin "object.__class__")=some true
 q4:PySem.W.mroIn K eM (.type "object")=some true
 q5:PySem.W.kitOne K (.ref eM) (.ref eM)=some true
 q6:PySem.W.findIn K (.ref eT) "__class__" = some (some (.builtin "object.__class__"))
 q7:PySem.W.mroIn K eT (.type "object")=some true
 q8:PySem.W.kitOne K (.ref eT) (.ref eM)=some false
 q9:PySem.W.kitOne K (.ref eM) (.ref eT)=some false
 Og:PySem.W.kitOne K (.ref eT) (.ref eT)=some true
 SY:PySem.W.findIn K (.ref fZ) "__class__" = some (some (.builtin "object.__class__"))
 q16:PySem.W.mroIn K fZ (.type "object")=some true
 Td:PySem.W.kitOne K (.ref fZ) (.ref eM)=some false
 q18:PySem.W.kitOne K (.ref fZ) (.ref eT)=some false
 Qr:PySem.W.subIn K (.ref bY) (.ref kg)=some true
 U8:PySem.W.kitOne K (.ref bY) (.type "ValueError")=some true
 acw:PySem.W.kitOne K (.ref bY) (.ref bY)=some true
 SK:PySem.W.kitOne K (.ref bY) (.ref bZ)=some false
 OI:PySem.W.kitOne K (.ref bY) (.ref lK)=some false
 abb:PySem.W.kitOne K (.ref bY) (.ref cb)=some false
 ZI:PySem.W.kitOne K (.ref bY) (.ref cE)=some false
 Qz:PySem.W.kitOne K (.ref bY) (.ref lZ)=some false
 WA:PySem.W.kitOne K (.ref bY) (.ref gR)=some false
 T9:PySem.W.kitOne K (.ref bY) (.ref lP)=some false
 XT:PySem.W.kitOne K (.ref bY) (.ref lR)=some false
 Ri:PySem.W.kitOne K (.ref bY) (.ref cu)=some false
 Yi:PySem.W.kitOne K (.ref bY) (.ref cw)=some false
 SU:PySem.W.subIn K (.ref bZ) (.ref kg)=some true
 Sg:PySem.W.kitOne K (.ref bZ) (.type "ValueError")=some true
 Zk:PySem.W.kitOne K (.ref bZ) (.ref bY)=some false
 OM:PySem.W.kitOne K (.ref bZ) (.ref bZ)=some true
 Rv:PySem.W.kitOne K (.ref bZ) (.ref lK)=some false
 Xa:PySem.W.kitOne K (.ref bZ) (.ref cb)=some false
 Vz:PySem.W.kitOne K (.ref bZ) (.ref cE)=some false
 PB:PySem.W.kitOne K (.ref bZ) (.ref lZ)=some false
 WE:PySem.W.kitOne K (.ref bZ) (.ref gR)=some false
 QM:PySem.W.kitOne K (.ref bZ) (.ref lP)=some false
 acz:PySem.W.kitOne K (.ref bZ) (.ref lR)=some false
 abz:PySem.W.kitOne K (.ref bZ) (.ref cu)=some false
 T4:PySem.W.kitOne K (.ref bZ) (.ref cw)=some false
 UO:PySem.W.subIn K (.ref cb) (.ref kg)=some true
 Ww:PySem.W.kitOne K (.ref cb) (.type "ValueError")=some true
 SG:PySem.W.kitOne K (.ref cb) (.ref bY)=some false
 Px:PySem.W.kitOne K (.ref cb) (.ref bZ)=some false
 Vu:PySem.W.kitOne K (.ref cb) (.ref lK)=some false
 ON:PySem.W.kitOne K (.ref cb) (.ref cb)=some true
 RH:PySem.W.kitOne K (.ref cb) (.ref cE)=some false
 aaF:PySem.W.kitOne K (.ref cb) (.ref lZ)=some false
 aaV:PySem.W.kitOne K (.ref cb) (.ref gR)=some false
 RX:PySem.W.kitOne K (.ref cb) (.ref lP)=some false
 Sz:PySem.W.kitOne K (.ref cb) (.ref lR)=some false
 Qs:PySem.W.kitOne K (.ref cb) (.ref cu)=some false
 WT:PySem.W.kitOne K (.ref cb) (.ref cw)=some false
 R1:PySem.W.subIn K (.ref cE) (.ref kg)=some true
 aa3:PySem.W.kitOne K (.ref cE) (.type "ValueError")=some true
 Wy:PySem.W.kitOne K (.ref cE) (.ref bY)=some false
 Oh:PySem.W.kitOne K (.ref cE) (.ref bZ)=some false
 Ul:PySem.W.kitOne K (.ref cE) (.ref lK)=some false
 abN:PySem.W.kitOne K (.ref cE) (.ref cb)=some false
 Yh:PySem.W.kitOne K (.ref cE) (.ref cE)=some true
 OQ:PySem.W.kitOne K (.ref cE) (.ref lZ)=some false
 UC:PySem.W.kitOne K (.ref cE) (.ref gR)=some false
 Rt:PySem.W.kitOne K (.ref cE) (.ref lP)=some false
 acA:PySem.W.kitOne K (.ref cE) (.ref lR)=some false
 XW:PySem.W.kitOne K (.ref cE) (.ref cu)=some false
 aal:PySem.W.kitOne K (.ref cE) (.ref cw)=some false
 V0:PySem.W.subIn K (.ref cu) (.ref kg)=some true
 aaG:PySem.W.kitOne K (.ref cu) (.type "ValueError")=some true
 U6:PySem.W.kitOne K (.ref cu) (.ref bY)=some false
 aan:PySem.W.kitOne K (.ref cu) (.ref bZ)=some false
 acf:PySem.W.kitOne K (.ref cu) (.ref lK)=some false
 RB:PySem.W.kitOne K (.ref cu) (.ref cb)=some false
 Ro:PySem.W.kitOne K (.ref cu) (.ref cE)=some false
 acm:PySem.W.kitOne K (.ref cu) (.ref lZ)=some false
 Tp:PySem.W.kitOne K (.ref cu) (.ref gR)=some false
 YT:PySem.W.kitOne K (.ref cu) (.ref lP)=some false
 Qm:PySem.W.kitOne K (.ref cu) (.ref lR)=some false
 ZL:PySem.W.kitOne K (.ref cu) (.ref cu)=some true
 ZE:PySem.W.kitOne K (.ref cu) (.ref cw)=some false
 Oe:PySem.W.subIn K (.ref cw) (.ref kg)=some true
 Ui:PySem.W.kitOne K (.ref cw) (.type "ValueError")=some true
 SE:PySem.W.kitOne K (.ref cw) (.ref bY)=some false
 Xu:PySem.W.kitOne K (.ref cw) (.ref bZ)=some false
 RV:PySem.W.kitOne K (.ref cw) (.ref lK)=some false
 Wm:PySem.W.kitOne K (.ref cw) (.ref cb)=some false
 ZX:PySem.W.kitOne K (.ref cw) (.ref cE)=some false
 RS:PySem.W.kitOne K (.ref cw) (.ref lZ)=some false
 WN:PySem.W.kitOne K (.ref cw) (.ref gR)=some false
 WJ:PySem.W.kitOne K (.ref cw) (.ref lP)=some false
 Oi:PySem.W.kitOne K (.ref cw) (.ref lR)=some false
 abW:PySem.W.kitOne K (.ref cw) (.ref cu)=some false
 SJ:PySem.W.kitOne K (.ref cw) (.ref cw)=some true
def qT:List Nat:=List.range' 97 26
def isNm (l:List Nat):Bool:=decide (1<=l.length) && decide (l.length<=8) && l.all (qT.contains ·)
def fG:V->Bool
 | .str z=>isNm z.cps.toList
 | _=>false
def FV:V->Prop
 | .str z=>z.length<=1000
 | _=>True
def stI {t:TS} {D:Ends} {H:Hp} {σ:L2.St} (τ:L2.St) (h:t D τ H) (e:σ=τ:=by rfl):t D σ H:=e ▸ h
inductive X1 {α0:Type} (R:α0->Prop):Prop | mk:∀ x0,R x0->X1 R
inductive X2 {α0 α1:Type} (R:α0->α1->Prop):Prop | mk:∀ x0 x1,R x0 x1->X2 R
inductive X3 {α0 α1 α2:Type} (R:α0->α1->α2->Prop):Prop | mk:∀ x0 x1 x2,R x0 x1 x2->X3 R
inductive X4 {α0 α1 α2 α3:Type} (R:α0->α1->α2->α3->Prop):Prop | mk:∀ x0 x1 x2 x3,R x0 x1 x2 x3->X4 R
inductive X5 {α0 α1 α2 α3 α4:Type} (R:α0->α1->α2->α3->α4->Prop):Prop | mk:∀ x0 x1 x2 x3 x4,R x0 x1 x2 x3 x4->X5 R
inductive X6 {α0 α1 α2 α3 α4 α5:Type} (R:α0->α1->α2->α3->α4->α5->Prop):Prop | mk:∀ x0 x1 x2 x3 x4 x5,R x0 x1 x2 x3 x4 x5->X6 R
inductive X7 {α0 α1 α2 α3 α4 α5 α6:Type} (R:α0->α1->α2->α3->α4->α5->α6->Prop):Prop | mk:∀ x0 x1 x2 x3 x4 x5 x6,R x0 x1 x2 x3 x4 x5 x6->X7 R
inductive X8 {α0 α1 α2 α3 α4 α5 α6 α7:Type} (R:α0->α1->α2->α3->α4->α5->α6->α7->Prop):Prop | mk:∀ x0 x1 x2 x3 x4 x5 x6 x7,R x0 x1 x2 x3 x4 x5 x6 x7->X8 R
inductive X9 {α0 α1 α2 α3 α4 α5 α6 α7 α8:Type} (R:α0->α1->α2->α3->α4->α5->α6->α7->α8->Prop):Prop | mk:∀ x0 x1 x2 x3 x4 x5 x6 x7 x8,R x0 x1 x2 x3 x4 x5 x6 x7 x8->X9 R
inductive GS {α0 α1 α2 α3 α4 α5 α6 α7 α8 α9:Type} (R:α0->α1->α2->α3->α4->α5->α6->α7->α8->α9->Prop):Prop | mk:∀ x0 x1 x2 x3 x4 x5 x6 x7 x8 x9,R x0 x1 x2 x3 x4 x5 x6 x7 x8 x9->GS R
inductive LC {α0 α1 α2 α3 α4 α5 α6 α7 α8 α9 α10:Type} (R:α0->α1->α2->α3->α4->α5->α6->α7->α8->α9->α10->Prop):Prop | mk:∀ x0 x1 x2 x3 x4 x5 x6 x7 x8 x9 x10,R x0 x1 x2 x3 x4 x5 x6 x7 x8 x9 x10->LC R
inductive A2 (p0 p1:Prop):Prop | mk:p0->p1->A2 p0 p1
inductive A3 (p0 p1 p2:Prop):Prop | mk:p0->p1->p2->A3 p0 p1 p2
inductive A4 (p0 p1 p2 p3:Prop):Prop | mk:p0->p1->p2->p3->A4 p0 p1 p2 p3
inductive A5 (p0 p1 p2 p3 p4:Prop):Prop | mk:p0->p1->p2->p3->p4->A5 p0 p1 p2 p3 p4
inductive A6 (p0 p1 p2 p3 p4 p5:Prop):Prop | mk:p0->p1->p2->p3->p4->p5->A6 p0 p1 p2 p3 p4 p5
inductive A7 (p0 p1 p2 p3 p4 p5 p6:Prop):Prop | mk:p0->p1->p2->p3->p4->p5->p6->A7 p0 p1 p2 p3 p4 p5 p6
inductive A8 (p0 p1 p2 p3 p4 p5 p6 p7:Prop):Prop | mk:p0->p1->p2->p3->p4->p5->p6->p7->A8 p0 p1 p2 p3 p4 p5 p6 p7
inductive A9 (p0 p1 p2 p3 p4 p5 p6 p7 p8:Prop):Prop | mk:p0->p1->p2->p3->p4->p5->p6->p7->p8->A9 p0 p1 p2 p3 p4 p5 p6 p7 p8
inductive BB (p0 p1 p2 p3 p4 p5 p6 p7 p8 p9:Prop):Prop | mk:p0->p1->p2->p3->p4->p5->p6->p7->p8->p9->BB p0 p1 p2 p3 p4 p5 p6 p7 p8 p9
inductive BH (p0 p1 p2 p3 p4 p5 p6 p7 p8 p9 p10 p11 p12:Prop):Prop | mk:p0->p1->p2->p3->p4->p5->p6->p7->p8->p9->p10->p11->p12->BH p0 p1 p2 p3 p4 p5 p6 p7 p8 p9 p10 p11 p12
inductive JQ (p0 p1 p2 p3 p4 p5 p6 p7 p8 p9 p10 p11 p12 p13:Prop):Prop | mk:p0->p1->p2->p3->p4->p5->p6->p7->p8->p9->p10->p11->p12->p13->JQ p0 p1 p2 p3 p4 p5 p6 p7 p8 p9 p10 p11 p12 p13
def a1 (f:V->Hp->VK->XK->Prop):Sp:=fun vs H Q E=>match vs with
 | [x1]=>f x1 H Q E
 | _=>False
def a1.o {f:V->Hp->VK->XK->Prop} {vs:List V} {H:Hp} {Q:VK} {E:XK} (h:a1 f vs H Q E):∃ x1,vs=[x1]/\f x1 H Q E:=by
 unfold a1 at h;split at h
 ·exact ⟨_,rfl,h⟩
 ·exact h.elim
def a2 (f:V->V->Hp->VK->XK->Prop):Sp:=fun vs H Q E=>match vs with
 | [x1,x2]=>f x1 x2 H Q E
 | _=>False
def a2.o {f:V->V->Hp->VK->XK->Prop} {vs:List V} {H:Hp} {Q:VK} {E:XK} (h:a2 f vs H Q E):∃ x1 x2,vs=[x1,x2]/\f x1 x2 H Q E:=by
 unfold a2 at h;split at h
 ·exact ⟨_,_,rfl,h⟩
 ·exact h.elim
def a3 (f:V->V->V->Hp->VK->XK->Prop):Sp:=fun vs H Q E=>match vs with
 | [x1,x2,x3]=>f x1 x2 x3 H Q E
 | _=>False
def a3.o {f:V->V->V->Hp->VK->XK->Prop} {vs:List V} {H:Hp} {Q:VK} {E:XK} (h:a3 f vs H Q E):∃ x1 x2 x3,vs=[x1,x2,x3]/\f x1 x2 x3 H Q E:=by
 unfold a3 at h;split at h
 ·exact ⟨_,_,_,rfl,h⟩
 ·exact h.elim
def a4 (f:V->V->V->V->Hp->VK->XK->Prop):Sp:=fun vs H Q E=>match vs with
 | [x1,x2,x3,x4]=>f x1 x2 x3 x4 H Q E
 | _=>False
def a4.o {f:V->V->V->V->Hp->VK->XK->Prop} {vs:List V} {H:Hp} {Q:VK} {E:XK} (h:a4 f vs H Q E):∃ x1 x2 x3 x4,vs=[x1,x2,x3,x4]/\f x1 x2 x3 x4 H Q E:=by
 unfold a4 at h;split at h
 ·exact ⟨_,_,_,_,rfl,h⟩
 ·exact h.elim
def a5 (f:V->V->V->V->V->Hp->VK->XK->Prop):Sp:=fun vs H Q E=>match vs with
 | [x1,x2,x3,x4,x5]=>f x1 x2 x3 x4 x5 H Q E
 | _=>False
def a5.o {f:V->V->V->V->V->Hp->VK->XK->Prop} {vs:List V} {H:Hp} {Q:VK} {E:XK} (h:a5 f vs H Q E):∃ x1 x2 x3 x4 x5,vs=[x1,x2,x3,x4,x5]/\f x1 x2 x3 x4 x5 H Q E:=by
 unfold a5 at h;split at h
 ·exact ⟨_,_,_,_,_,rfl,h⟩
 ·exact h.elim
def a6 (f:V->V->V->V->V->V->Hp->VK->XK->Prop):Sp:=fun vs H Q E=>match vs with
 | [x1,x2,x3,x4,x5,x6]=>f x1 x2 x3 x4 x5 x6 H Q E
 | _=>False
def a6.o {f:V->V->V->V->V->V->Hp->VK->XK->Prop} {vs:List V} {H:Hp} {Q:VK} {E:XK} (h:a6 f vs H Q E):∃ x1 x2 x3 x4 x5 x6,vs=[x1,x2,x3,x4,x5,x6]/\f x1 x2 x3 x4 x5 x6 H Q E:=by
 unfold a6 at h;split at h
 ·exact ⟨_,_,_,_,_,_,rfl,h⟩
 ·exact h.elim
def a7 (f:V->V->V->V->V->V->V->Hp->VK->XK->Prop):Sp:=fun vs H Q E=>match vs with
 | [x1,x2,x3,x4,x5,x6,x7]=>f x1 x2 x3 x4 x5 x6 x7 H Q E
 | _=>False
def a7.o {f:V->V->V->V->V->V->V->Hp->VK->XK->Prop} {vs:List V} {H:Hp} {Q:VK} {E:XK} (h:a7 f vs H Q E):∃ x1 x2 x3 x4 x5 x6 x7,vs=[x1,x2,x3,x4,x5,x6,x7]/\f x1 x2 x3 x4 x5 x6 x7 H Q E:=by
 unfold a7 at h;split at h
 ·exact ⟨_,_,_,_,_,_,_,rfl,h⟩
 ·exact h.elim
def vR (v:V) (k:Addr->Prop):Prop:=match v with
 | .ref x=>k x
 | _=>False
def vR.o {v:V} {k:Addr->Prop} (h:vR v k):∃ x,v=.ref x/\k x:=by
 unfold vR at h;split at h
 ·exact ⟨_,rfl,h⟩
 ·exact h.elim
def vS (v:V) (k:Str->Prop):Prop:=match v with
 | .str x=>k x
 | _=>False
def vS.o {v:V} {k:Str->Prop} (h:vS v k):∃ x,v=.str x/\k x:=by
 unfold vS at h;split at h
 ·exact ⟨_,rfl,h⟩
 ·exact h.elim
def vI (v:V) (k:Int->Prop):Prop:=match v with
 | .int x=>k x
 | _=>False
def vI.o {v:V} {k:Int->Prop} (h:vI v k):∃ x,v=.int x/\k x:=by
 unfold vI at h;split at h
 ·exact ⟨_,rfl,h⟩
 ·exact h.elim
def vB (v:V) (k:Bool->Prop):Prop:=match v with
 | .bl x=>k x
 | _=>False
def vB.o {v:V} {k:Bool->Prop} (h:vB v k):∃ x,v=.bl x/\k x:=by
 unfold vB at h;split at h
 ·exact ⟨_,rfl,h⟩
 ·exact h.elim
def GO (f:Int->Hp->VK->XK->Prop):Sp:=a1 fun q1 H Q E=>vI q1 fun x1=>f x1 H Q E
@[elab_as_elim] theorem Kk {f:Int->Hp->VK->XK->Prop} {vs:List V} {H:Hp} {Q:VK} {E:XK} {G:List V->Prop} (h:GO f vs H Q E) (k:∀ x1,f x1 H Q E->G [.int x1]):G vs:=by
 obtain ⟨_,rfl,h⟩:=a1.o h;obtain ⟨x1,rfl,h⟩:=vI.o h;exact k x1 h
def GR (f:Int->Int->Hp->VK->XK->Prop):Sp:=a2 fun q1 q2 H Q E=>vI q1 fun x1=>vI q2 fun x2=>f x1 x2 H Q E
@[elab_as_elim] theorem Lg {f:Int->Int->Hp->VK->XK->Prop} {vs:List V} {H:Hp} {Q:VK} {E:XK} {G:List V->Prop} (h:GR f vs H Q E) (k:∀ x1 x2,f x1 x2 H Q E->G [.int x1,.int x2]):G vs:=by
 obtain ⟨_,_,rfl,h⟩:=a2.o h;obtain ⟨x1,rfl,h⟩:=vI.o h;obtain ⟨x2,rfl,h⟩:=vI.o h;exact k x1 x2 h
def ja (f:Addr->Hp->VK->XK->Prop):Sp:=a1 fun q1 H Q E=>vR q1 fun x1=>f x1 H Q E
@[elab_as_elim] theorem dv {f:Addr->Hp->VK->XK->Prop} {vs:List V} {H:Hp} {Q:VK} {E:XK} {G:List V->Prop} (h:ja f vs H Q E) (k:∀ x1,f x1 H Q E->G [.ref x1]):G vs:=by
 obtain ⟨_,rfl,h⟩:=a1.o h;obtain ⟨x1,rfl,h⟩:=vR.o h;exact k x1 h
def IB (f:Addr->Bool->Addr->Hp->VK->XK->Prop):Sp:=a3 fun q1 q2 q3 H Q E=>vR q1 fun x1=>vB q2 fun x2=>vR q3 fun x3=>f x1 x2 x3 H Q E
@[elab_as_elim] theorem JD {f:Addr->Bool->Addr->Hp->VK->XK->Prop} {vs:List V} {H:Hp} {Q:VK} {E:XK} {G:List V->Prop} (h:IB f vs H Q E) (k:∀ x1 x2 x3,f x1 x2 x3 H Q E->G [.ref x1,.bl x2,.ref x3]):G vs:=by
 obtain ⟨_,_,_,rfl,h⟩:=a3.o h;obtain ⟨x1,rfl,h⟩:=vR.o h;obtain ⟨x2,rfl,h⟩:=vB.o h;obtain ⟨x3,rfl,h⟩:=vR.o h;exact k x1 x2 x3 h
def mS (f:Addr->Int->Hp->VK->XK->Prop):Sp:=a2 fun q1 q2 H Q E=>vR q1 fun x1=>vI q2 fun x2=>f x1 x2 H Q E
@[elab_as_elim] theorem c8 {f:Addr->Int->Hp->VK->XK->Prop} {vs:List V} {H:Hp} {Q:VK} {E:XK} {G:List V->Prop} (h:mS f vs H Q E) (k:∀ x1 x2,f x1 x2 H Q E->G [.ref x1,.int x2]):G vs:=by
 obtain ⟨_,_,rfl,h⟩:=a2.o h;obtain ⟨x1,rfl,h⟩:=vR.o h;obtain ⟨x2,rfl,h⟩:=vI.o h;exact k x1 x2 h
def xq (f:Addr->Int->Str->Hp->VK->XK->Prop):Sp:=a3 fun q1 q2 q3 H Q E=>vR q1 fun x1=>vI q2 fun x2=>vS q3 fun x3=>f x1 x2 x3 H Q E
@[elab_as_elim] theorem qf {f:Addr->Int->Str->Hp->VK->XK->Prop} {vs:List V} {H:Hp} {Q:VK} {E:XK} {G:List V->Prop} (h:xq f vs H Q E) (k:∀ x1 x2 x3,f x1 x2 x3 H Q E->G [.ref x1,.int x2,.str x3]):G vs:=by
 obtain ⟨_,_,_,rfl,h⟩:=a3.o h;obtain ⟨x1,rfl,h⟩:=vR.o h;obtain ⟨x2,rfl,h⟩:=vI.o h;obtain ⟨x3,rfl,h⟩:=vS.o h;exact k x1 x2 x3 h
def Jl (f:Addr->Int->Str->Int->Hp->VK->XK->Prop):Sp:=a4 fun q1 q2 q3 q4 H Q E=>vR q1 fun x1=>vI q2 fun x2=>vS q3 fun x3=>vI q4 fun x4=>f x1 x2 x3 x4 H Q E
@[elab_as_elim] theorem KY {f:Addr->Int->Str->Int->Hp->VK->XK->Prop} {vs:List V} {H:Hp} {Q:VK} {E:XK} {G:List V->Prop} (h:Jl f vs H Q E) (k:∀ x1 x2 x3 x4,f x1 x2 x3 x4 H Q E->G [.ref x1,.int x2,.str x3,.int x4]):G vs:=by
 obtain ⟨_,_,_,_,rfl,h⟩:=a4.o h;obtain ⟨x1,rfl,h⟩:=vR.o h;obtain ⟨x2,rfl,h⟩:=vI.o h;obtain ⟨x3,rfl,h⟩:=vS.o h;obtain ⟨x4,rfl,h⟩:=vI.o h;exact k x1 x2 x3 x4 h
def pT (f:Addr->Addr->Hp->VK->XK->Prop):Sp:=a2 fun q1 q2 H Q E=>vR q1 fun x1=>vR q2 fun x2=>f x1 x2 H Q E
@[elab_as_elim] theorem jS {f:Addr->Addr->Hp->VK->XK->Prop} {vs:List V} {H:Hp} {Q:VK} {E:XK} {G:List V->Prop} (h:pT f vs H Q E) (k:∀ x1 x2,f x1 x2 H Q E->G [.ref x1,.ref x2]):G vs:=by
 obtain ⟨_,_,rfl,h⟩:=a2.o h;obtain ⟨x1,rfl,h⟩:=vR.o h;obtain ⟨x2,rfl,h⟩:=vR.o h;exact k x1 x2 h
def LA (f:Addr->Addr->Int->Hp->VK->XK->Prop):Sp:=a3 fun q1 q2 q3 H Q E=>vR q1 fun x1=>vR q2 fun x2=>vI q3 fun x3=>f x1 x2 x3 H Q E
@[elab_as_elim] theorem J3 {f:Addr->Addr->Int->Hp->VK->XK->Prop} {vs:List V} {H:Hp} {Q:VK} {E:XK} {G:List V->Prop} (h:LA f vs H Q E) (k:∀ x1 x2 x3,f x1 x2 x3 H Q E->G [.ref x1,.ref x2,.int x3]):G vs:=by
 obtain ⟨_,_,_,rfl,h⟩:=a3.o h;obtain ⟨x1,rfl,h⟩:=vR.o h;obtain ⟨x2,rfl,h⟩:=vR.o h;obtain ⟨x3,rfl,h⟩:=vI.o h;exact k x1 x2 x3 h
def FJ (f:Addr->Addr->Str->Bool->Hp->VK->XK->Prop):Sp:=a4 fun q1 q2 q3 q4 H Q E=>vR q1 fun x1=>vR q2 fun x2=>vS q3 fun x3=>vB q4 fun x4=>f x1 x2 x3 x4 H Q E
@[elab_as_elim] theorem Kd {f:Addr->Addr->Str->Bool->Hp->VK->XK->Prop} {vs:List V} {H:Hp} {Q:VK} {E:XK} {G:List V->Prop} (h:FJ f vs H Q E) (k:∀ x1 x2 x3 x4,f x1 x2 x3 x4 H Q E->G [.ref x1,.ref x2,.str x3,.bl x4]):G vs:=by
 obtain ⟨_,_,_,_,rfl,h⟩:=a4.o h;obtain ⟨x1,rfl,h⟩:=vR.o h;obtain ⟨x2,rfl,h⟩:=vR.o h;obtain ⟨x3,rfl,h⟩:=vS.o h;obtain ⟨x4,rfl,h⟩:=vB.o h;exact k x1 x2 x3 x4 h
def jN (f:Addr->Str->Hp->VK->XK->Prop):Sp:=a2 fun q1 q2 H Q E=>vR q1 fun x1=>vS q2 fun x2=>f x1 x2 H Q E
@[elab_as_elim] theorem fk {f:Addr->Str->Hp->VK->XK->Prop} {vs:List V} {H:Hp} {Q:VK} {E:XK} {G:List V->Prop} (h:jN f vs H Q E) (k:∀ x1 x2,f x1 x2 H Q E->G [.ref x1,.str x2]):G vs:=by
 obtain ⟨_,_,rfl,h⟩:=a2.o h;obtain ⟨x1,rfl,h⟩:=vR.o h;obtain ⟨x2,rfl,h⟩:=vS.o h;exact k x1 x2 h
def F4 (f:Addr->Str->Bool->Addr->Bool->Hp->VK->XK->Prop):Sp:=a5 fun q1 q2 q3 q4 q5 H Q E=>vR q1 fun x1=>vS q2 fun x2=>vB q3 fun x3=>vR q4 fun x4=>vB q5 fun x5=>f x1 x2 x3 x4 x5 H Q E
@[elab_as_elim] theorem JM {f:Addr->Str->Bool->Addr->Bool->Hp->VK->XK->Prop} {vs:List V} {H:Hp} {Q:VK} {E:XK} {G:List V->Prop} (h:F4 f vs H Q E) (k:∀ x1 x2 x3 x4 x5,f x1 x2 x3 x4 x5 H Q E->G [.ref x1,.str x2,.bl x3,.ref x4,.bl x5]):G vs:=by
 obtain ⟨_,_,_,_,_,rfl,h⟩:=a5.o h;obtain ⟨x1,rfl,h⟩:=vR.o h;obtain ⟨x2,rfl,h⟩:=vS.o h;obtain ⟨x3,rfl,h⟩:=vB.o h;obtain ⟨x4,rfl,h⟩:=vR.o h;obtain ⟨x5,rfl,h⟩:=vB.o h;exact k x1 x2 x3 x4 x5 h
def rX (f:Addr->Str->Int->Hp->VK->XK->Prop):Sp:=a3 fun q1 q2 q3 H Q E=>vR q1 fun x1=>vS q2 fun x2=>vI q3 fun x3=>f x1 x2 x3 H Q E
@[elab_as_elim] theorem jY {f:Addr->Str->Int->Hp->VK->XK->Prop} {vs:List V} {H:Hp} {Q:VK} {E:XK} {G:List V->Prop} (h:rX f vs H Q E) (k:∀ x1 x2 x3,f x1 x2 x3 H Q E->G [.ref x1,.str x2,.int x3]):G vs:=by
 obtain ⟨_,_,_,rfl,h⟩:=a3.o h;obtain ⟨x1,rfl,h⟩:=vR.o h;obtain ⟨x2,rfl,h⟩:=vS.o h;obtain ⟨x3,rfl,h⟩:=vI.o h;exact k x1 x2 x3 h
def Hy (f:Addr->Str->Int->Str->Str->Hp->VK->XK->Prop):Sp:=a5 fun q1 q2 q3 q4 q5 H Q E=>vR q1 fun x1=>vS q2 fun x2=>vI q3 fun x3=>vS q4 fun x4=>vS q5 fun x5=>f x1 x2 x3 x4 x5 H Q E
@[elab_as_elim] theorem HZ {f:Addr->Str->Int->Str->Str->Hp->VK->XK->Prop} {vs:List V} {H:Hp} {Q:VK} {E:XK} {G:List V->Prop} (h:Hy f vs H Q E) (k:∀ x1 x2 x3 x4 x5,f x1 x2 x3 x4 x5 H Q E->G [.ref x1,.str x2,.int x3,.str x4,.str x5]):G vs:=by
 obtain ⟨_,_,_,_,_,rfl,h⟩:=a5.o h;obtain ⟨x1,rfl,h⟩:=vR.o h;obtain ⟨x2,rfl,h⟩:=vS.o h;obtain ⟨x3,rfl,h⟩:=vI.o h;obtain ⟨x4,rfl,h⟩:=vS.o h;obtain ⟨x5,rfl,h⟩:=vS.o h;exact k x1 x2 x3 x4 x5 h
def we (f:Addr->Str->Str->Hp->VK->XK->Prop):Sp:=a3 fun q1 q2 q3 H Q E=>vR q1 fun x1=>vS q2 fun x2=>vS q3 fun x3=>f x1 x2 x3 H Q E
@[elab_as_elim] theorem rm {f:Addr->Str->Str->Hp->VK->XK->Prop} {vs:List V} {H:Hp} {Q:VK} {E:XK} {G:List V->Prop} (h:we f vs H Q E) (k:∀ x1 x2 x3,f x1 x2 x3 H Q E->G [.ref x1,.str x2,.str x3]):G vs:=by
 obtain ⟨_,_,_,rfl,h⟩:=a3.o h;obtain ⟨x1,rfl,h⟩:=vR.o h;obtain ⟨x2,rfl,h⟩:=vS.o h;obtain ⟨x3,rfl,h⟩:=vS.o h;exact k x1 x2 x3 h
def Hn (f:Addr->Str->Str->Str->Hp->VK->XK->Prop):Sp:=a4 fun q1 q2 q3 q4 H Q E=>vR q1 fun x1=>vS q2 fun x2=>vS q3 fun x3=>vS q4 fun x4=>f x1 x2 x3 x4 H Q E
@[elab_as_elim] theorem Lv {f:Addr->Str->Str->Str->Hp->VK->XK->Prop} {vs:List V} {H:Hp} {Q:VK} {E:XK} {G:List V->Prop} (h:Hn f vs H Q E) (k:∀ x1 x2 x3 x4,f x1 x2 x3 x4 H Q E->G [.ref x1,.str x2,.str x3,.str x4]):G vs:=by
 obtain ⟨_,_,_,_,rfl,h⟩:=a4.o h;obtain ⟨x1,rfl,h⟩:=vR.o h;obtain ⟨x2,rfl,h⟩:=vS.o h;obtain ⟨x3,rfl,h⟩:=vS.o h;obtain ⟨x4,rfl,h⟩:=vS.o h;exact k x1 x2 x3 x4 h
def Iv (f:Addr->Str->Str->Str->Str->Hp->VK->XK->Prop):Sp:=a5 fun q1 q2 q3 q4 q5 H Q E=>vR q1 fun x1=>vS q2 fun x2=>vS q3 fun x3=>vS q4 fun x4=>vS q5 fun x5=>f x1 x2 x3 x4 x5 H Q E
@[elab_as_elim] theorem K4 {f:Addr->Str->Str->Str->Str->Hp->VK->XK->Prop} {vs:List V} {H:Hp} {Q:VK} {E:XK} {G:List V->Prop} (h:Iv f vs H Q E) (k:∀ x1 x2 x3 x4 x5,f x1 x2 x3 x4 x5 H Q E->G [.ref x1,.str x2,.str x3,.str x4,.str x5]):G vs:=by
 obtain ⟨_,_,_,_,_,rfl,h⟩:=a5.o h;obtain ⟨x1,rfl,h⟩:=vR.o h;obtain ⟨x2,rfl,h⟩:=vS.o h;obtain ⟨x3,rfl,h⟩:=vS.o h;obtain ⟨x4,rfl,h⟩:=vS.o h;obtain ⟨x5,rfl,h⟩:=vS.o h;exact k x1 x2 x3 x4 x5 h
def HD (f:Addr->Str->Str->Str->Str->Str->Hp->VK->XK->Prop):Sp:=a6 fun q1 q2 q3 q4 q5 q6 H Q E=>vR q1 fun x1=>vS q2 fun x2=>vS q3 fun x3=>vS q4 fun x4=>vS q5 fun x5=>vS q6 fun x6=>f x1 x2 x3 x4 x5 x6 H Q E
@[elab_as_elim] theorem JU {f:Addr->Str->Str->Str->Str->Str->Hp->VK->XK->Prop} {vs:List V} {H:Hp} {Q:VK} {E:XK} {G:List V->Prop} (h:HD f vs H Q E) (k:∀ x1 x2 x3 x4 x5 x6,f x1 x2 x3 x4 x5 x6 H Q E->G [.ref x1,.str x2,.str x3,.str x4,.str x5,.str x6]):G vs:=by
 obtain ⟨_,_,_,_,_,_,rfl,h⟩:=a6.o h;obtain ⟨x1,rfl,h⟩:=vR.o h;obtain ⟨x2,rfl,h⟩:=vS.o h;obtain ⟨x3,rfl,h⟩:=vS.o h;obtain ⟨x4,rfl,h⟩:=vS.o h;obtain ⟨x5,rfl,h⟩:=vS.o h;obtain ⟨x6,rfl,h⟩:=vS.o h;exact k x1 x2 x3 x4 x5 x6 h
def Ax (f:Addr->V->Hp->VK->XK->Prop):Sp:=a2 fun q1 x2 H Q E=>vR q1 fun x1=>f x1 x2 H Q E
@[elab_as_elim] theorem xQ {f:Addr->V->Hp->VK->XK->Prop} {vs:List V} {H:Hp} {Q:VK} {E:XK} {G:List V->Prop} (h:Ax f vs H Q E) (k:∀ x1 x2,f x1 x2 H Q E->G [.ref x1,x2]):G vs:=by
 obtain ⟨_,x2,rfl,h⟩:=a2.o h;obtain ⟨x1,rfl,h⟩:=vR.o h;exact k x1 x2 h
def zL (f:Addr->V->V->Hp->VK->XK->Prop):Sp:=a3 fun q1 x2 x3 H Q E=>vR q1 fun x1=>f x1 x2 x3 H Q E
@[elab_as_elim] theorem mD {f:Addr->V->V->Hp->VK->XK->Prop} {vs:List V} {H:Hp} {Q:VK} {E:XK} {G:List V->Prop} (h:zL f vs H Q E) (k:∀ x1 x2 x3,f x1 x2 x3 H Q E->G [.ref x1,x2,x3]):G vs:=by
 obtain ⟨_,x2,x3,rfl,h⟩:=a3.o h;obtain ⟨x1,rfl,h⟩:=vR.o h;exact k x1 x2 x3 h
def Aj (f:Addr->V->V->V->Hp->VK->XK->Prop):Sp:=a4 fun q1 x2 x3 x4 H Q E=>vR q1 fun x1=>f x1 x2 x3 x4 H Q E
@[elab_as_elim] theorem xl {f:Addr->V->V->V->Hp->VK->XK->Prop} {vs:List V} {H:Hp} {Q:VK} {E:XK} {G:List V->Prop} (h:Aj f vs H Q E) (k:∀ x1 x2 x3 x4,f x1 x2 x3 x4 H Q E->G [.ref x1,x2,x3,x4]):G vs:=by
 obtain ⟨_,x2,x3,x4,rfl,h⟩:=a4.o h;obtain ⟨x1,rfl,h⟩:=vR.o h;exact k x1 x2 x3 x4 h
def G5 (f:Addr->V->V->V->V->Hp->VK->XK->Prop):Sp:=a5 fun q1 x2 x3 x4 x5 H Q E=>vR q1 fun x1=>f x1 x2 x3 x4 x5 H Q E
@[elab_as_elim] theorem Jq {f:Addr->V->V->V->V->Hp->VK->XK->Prop} {vs:List V} {H:Hp} {Q:VK} {E:XK} {G:List V->Prop} (h:G5 f vs H Q E) (k:∀ x1 x2 x3 x4 x5,f x1 x2 x3 x4 x5 H Q E->G [.ref x1,x2,x3,x4,x5]):G vs:=by
 obtain ⟨_,x2,x3,x4,x5,rfl,h⟩:=a5.o h;obtain ⟨x1,rfl,h⟩:=vR.o h;exact k x1 x2 x3 x4 x5 h
def Le (f:Addr->V->V->V->V->V->Hp->VK->XK->Prop):Sp:=a6 fun q1 x2 x3 x4 x5 x6 H Q E=>vR q1 fun x1=>f x1 x2 x3 x4 x5 x6 H Q E
@[elab_as_elim] theorem FL {f:Addr->V->V->V->V->V->Hp->VK->XK->Prop} {vs:List V} {H:Hp} {Q:VK} {E:XK} {G:List V->Prop} (h:Le f vs H Q E) (k:∀ x1 x2 x3 x4 x5 x6,f x1 x2 x3 x4 x5 x6 H Q E->G [.ref x1,x2,x3,x4,x5,x6]):G vs:=by
 obtain ⟨_,x2,x3,x4,x5,x6,rfl,h⟩:=a6.o h;obtain ⟨x1,rfl,h⟩:=vR.o h;exact k x1 x2 x3 x4 x5 x6 h
def HB (f:Addr->V->V->V->V->V->V->Hp->VK->XK->Prop):Sp:=a7 fun q1 x2 x3 x4 x5 x6 x7 H Q E=>vR q1 fun x1=>f x1 x2 x3 x4 x5 x6 x7 H Q E
@[elab_as_elim] theorem Jg {f:Addr->V->V->V->V->V->V->Hp->VK->XK->Prop} {vs:List V} {H:Hp} {Q:VK} {E:XK} {G:List V->Prop} (h:HB f vs H Q E) (k:∀ x1 x2 x3 x4 x5 x6 x7,f x1 x2 x3 x4 x5 x6 x7 H Q E->G [.ref x1,x2,x3,x4,x5,x6,x7]):G vs:=by
 obtain ⟨_,x2,x3,x4,x5,x6,x7,rfl,h⟩:=a7.o h;obtain ⟨x1,rfl,h⟩:=vR.o h;exact k x1 x2 x3 x4 x5 x6 x7 h
def jL (f:Str->Hp->VK->XK->Prop):Sp:=a1 fun q1 H Q E=>vS q1 fun x1=>f x1 H Q E
@[elab_as_elim] theorem fq {f:Str->Hp->VK->XK->Prop} {vs:List V} {H:Hp} {Q:VK} {E:XK} {G:List V->Prop} (h:jL f vs H Q E) (k:∀ x1,f x1 H Q E->G [.str x1]):G vs:=by
 obtain ⟨_,rfl,h⟩:=a1.o h;obtain ⟨x1,rfl,h⟩:=vS.o h;exact k x1 h
def l9 (f:V->Hp->VK->XK->Prop):Sp:=a1 fun x1 H Q E=>f x1 H Q E
@[elab_as_elim] theorem gD {f:V->Hp->VK->XK->Prop} {vs:List V} {H:Hp} {Q:VK} {E:XK} {G:List V->Prop} (h:l9 f vs H Q E) (k:∀ x1,f x1 H Q E->G [x1]):G vs:=by
 obtain ⟨x1,rfl,h⟩:=a1.o h;exact k x1 h
def Qe (K:ν):Sp:=l9 fun x H Q _=>A3 (∃ T,clsName H x=some T) (FV x) (∀ H',ag H H'->Q (.bl (fG x)) H')
def Ln {nm:List Nat} (h:isNm nm=true):1<=nm.length/\nm.length<=8/\nm.all (qT.contains ·)=true:=by
 unfold isNm at h;simp only [zn,Os] at h;exact ⟨h.1.1,h.1.2,h.2⟩
def Y6:Str.ofString "abcdefghijklmnopqrstuvwxyz" = Tx.S qT:=by decide +kernel
def dD (l:List Nat):Bool:=decide (l=[46]) || decide (l=[46,46]) || isNm l
def AQ {l:List Nat} (h:dD l=true):47 ∉ l/\l≠[]/\l.length<=8:=by
 unfold dD at h;simp only [Bool.or_eq_true,Os] at h;rcases h with (rfl | rfl) | h
 ·exact ⟨by decide,by decide,by decide⟩
 ·exact ⟨by decide,by decide,by decide⟩
 ·obtain ⟨h1,h2,h3⟩:=Ln h;refine ⟨fun m=>?_,fun e=>by rw [e] at h1; simp at h1,h2⟩;have:=At.mp h3 47 m;exact absurd this (by decide +kernel)
abbrev PV (ps:List (List Nat)):List V:=(ps.map Tx.S).map V.str
def told (ps:List (List Nat)) (t:List Nat):List (List Nat):=if ps≠[]/\t.getLast?=some 47 then ps++[[46]] else ps
def fh (t:List Nat):Bool:=decide (t.head?=some 47)
def Vp (K:ν):Sp:=jL fun z H Q _=>X1 fun (w:List Nat)=>A3 (z=Tx.S w) (w.length<=1000) (∀ H',ag H H'->Q (.bl (dD w)) H')
def Sx (K:ν):Sp:=jL fun z H Q _=>X1 fun (t:List Nat)=>A5 (z=Tx.S t) (1<=t.length) (t.length<=2000) ((Tx.words 47 t).all dD=true) (∀ (H':Hp) (l p:Addr),ag H H'->H l=none->H' l=some (.lst (PV (told (Tx.words 47 t) t)))->H' p=some (.tup [.bl (fh t),.ref l])->Q (.ref p) H')
structure Pth (ps:List (List Nat)) (t:List Nat):Prop where
 words:Tx.words 47 t=ps
 one:1<=t.length
 most:t.length<=150
def uP (n kd ow mi re tx nm pl:V):List (Str×V):=[("number",n),("kind",kd),("owner",ow),("mine",mi),("rest",re),("text",tx),("names",nm),("places",pl)]
def uR (ml:Addr) (c:Int):List (Str×V):=[("made",.ref ml),("changes",.int c)]
structure Th where
 kd:Str
 ow:Str
 mi:Str
 re:Str
 tx:Str
 aR:List (Str×Nat)
 cQ:List (Nat×Str)
structure Hs where
 ts:List Th
 ro:List (Str×Nat)
 st:List (Str×Nat)
 tr:List (Str×Nat)
 ov:List (Nat×Nat)
 un:List (Nat×Nat)
structure Ta where
 th:Addr
 dS:Addr
 nm:Addr
 pl:Addr
structure Ad where
 a:Addr
 dx:Addr
 t:Addr
 dt:Addr
 ml:Addr
 ro:Addr
 st:Addr
 tr:Addr
 ov:Addr
 un:Addr
 ho:Addr
def um (c:Int) (A:Ad):List (Str×V):=[("things",.ref A.t),("changes",.int c),("roots",.ref A.ro),("standings",.ref A.st),("tree_roots",.ref A.tr),("root_over",.ref A.ov),("folder_under",.ref A.un),("holds",.ref A.ho),("holds_given",.int 0),("first_root",.int 0)]
def ZR {f:Str} {c c':Int} {A:Ad} (h:f ≠ "changes"):(um c A).lookup f=(um c' A).lookup f:=by
 unfold um;simp only [List.lookup];have:(f == ("changes" : Str))=false:=Fa.mpr h;rw [this]
def sD (l:List (Str×Nat)):List (Key×V):=l.map fun e=>(.inr e.1,.int e.2)
def nD (l:List (Nat×Nat)):List (Key×V):=l.map fun e=>(.inl (e.1:Int),.int e.2)
def pD (l:List (Nat×Str)):List (List Key×V):=l.map fun e=>([.inl (e.1:Int),.inr e.2],.bl true)
structure jB (CT:Addr) (H:Hp) (a:Ta) (i:Nat) (t:Th):Prop where
 o:∃ fs,H a.th=some (.ins CT a.dS fs)/\fs.length<=40/\dN fs (uP (.int i) (.str t.kd) (.str t.ow) (.str t.mi) (.str t.re) (.str t.tx) (.ref a.nm) (.ref a.pl))
 nm:H a.nm=some (.dK (sD t.aR))
 pl:H a.pl=some (.dT (pD t.cQ))
def Ad.w (A:Ad):List Addr:=[A.a,A.t,A.ml,A.ro,A.st,A.tr,A.ov,A.un]
def Ta.l (a:Ta):List Addr:=[a.th,a.nm,a.pl]
structure aE (CH CS CT:Addr) (H:Hp) (A:Ad) (L:List Ta) (M:Hs):Prop where
 h:∃ fs c,H A.a=some (.ins CH A.dx fs)/\fs.length<=40/\dN fs (um c A)
 t:∃ fs c,H A.t=some (.ins CS A.dt fs)/\fs.length<=40/\dN fs (uR A.ml c)
 ml:H A.ml=some (.lst (L.map fun a=>.ref a.th))
 len:L.length=M.ts.length
 th:∀ i t,M.ts[i]?=some t->∃ a,L[i]?=some a/\jB CT H a i t
 ro:H A.ro=some (.dK (sD M.ro))
 st:H A.st=some (.dK (sD M.st))
 tr:H A.tr=some (.dK (sD M.tr))
 ov:H A.ov=some (.dK (nD M.ov))
 un:H A.un=some (.dK (nD M.un))
 nd:(A.w++L.flatMap Ta.l).Nodup
def Kp (W:List Addr) (H H':Hp):Prop:=∀ b o,b ∉ W->H b=some o->H' b=some o
def Kp.trans {W:List Addr} {H H1 H2:Hp} (a:Kp W H H1) (b:Kp W H1 H2):Kp W H H2:=fun c o h e=>b c o h (a c o h e)
def Kp.of {W:List Addr} {H H':Hp} (s:ag H H'):Kp W H H':=fun b o _ e=>s b o e
def bU {H:Hp} {a b:Addr} {o u:HO} (h1:H a=some o) (h2:H b=some u) (h:o≠u):a≠b:=fun e=>h (by rw [e,h2] at h1; cases h1; rfl)
def aI {H:Hp} {a b:Addr} {o:HO} (h1:H a=some o) (h2:H b=none):a≠b:=fun e=>by rw [e,h2] at h1; cases h1
def AJ {H:Hp} {x d:Addr} {o O oo:HO} (hn:H d=none) (hx:H x=some oo):upd (upd H d o) x O x=some O/\upd (upd H d o) x O d=some o/\(∀ b u,b≠x->H b=some u->upd (upd H d o) x O b=some u)/\d≠x:=by
 have n:=aI hx hn;refine ⟨au,by rw [aj (sB n),au],fun b u hb e=>?_,sB n⟩;rw [aj hb,aj (aI e hn)]; exact e
section
variable {CH CS CT:Addr} {H H':Hp} {A:Ad} {L:List Ta} {M:Hs}
def jB.keep {W:List Addr} {a:Ta} {i:Nat} {t:Th} (h:jB CT H a i t) (k:Kp W H H') (hw:∀ b∈a.l,b ∉ W):jB CT H' a i t where
 o:=let ⟨fs,e,r⟩:=h.o; ⟨fs,k _ _ (hw _ (by simp [Ta.l])) e,r⟩
 nm:=k _ _ (hw _ (by simp [Ta.l])) h.nm
 pl:=k _ _ (hw _ (by simp [Ta.l])) h.pl
def kI {i:Nat} {a:Ta} (h:L[i]?=some a) {b:Addr} (hb:b∈a.l):b∈L.flatMap Ta.l:=List.mem_flatMap.mpr ⟨a,Pi h,hb⟩
def aE.keep {W:List Addr} (i:aE CH CS CT H A L M) (k:Kp W H H') (hw:∀ b∈A.w++L.flatMap Ta.l,b ∉ W):aE CH CS CT H' A L M where
 h:=let ⟨fs,c,e,r⟩:=i.h; ⟨fs,c,k _ _ (hw _ (by simp [Ad.w])) e,r⟩
 t:=let ⟨fs,c,e,r⟩:=i.t; ⟨fs,c,k _ _ (hw _ (by simp [Ad.w])) e,r⟩
 ml:=k _ _ (hw _ (by simp [Ad.w])) i.ml
 len:=i.len
 th:=fun j t e=>let ⟨a,e1,h⟩:=i.th j t e; ⟨a,e1,h.keep k fun b hb=>hw b (wT _ (kI e1 hb))⟩
 ro:=k _ _ (hw _ (by simp [Ad.w])) i.ro
 st:=k _ _ (hw _ (by simp [Ad.w])) i.st
 tr:=k _ _ (hw _ (by simp [Ad.w])) i.tr
 ov:=k _ _ (hw _ (by simp [Ad.w])) i.ov
 un:=k _ _ (hw _ (by simp [Ad.w])) i.un
 nd:=i.nd
def aE.same (i:aE CH CS CT H A L M) (s:ag H H'):aE CH CS CT H' A L M:=i.keep (W:=[]) (.of s) fun _ _=>by simp
def xN:∀ {L:List Ta} {i j:Nat} {a a':Ta} {b:Addr},(L.flatMap Ta.l).Nodup->L[i]?=some a->L[j]?=some a'->b∈a.l->b∈a'.l->i=j
 | [],_,_,_,_,_,_,h,_,_,_=>by simp at h
 | c::r,0,0,_,_,_,_,_,_,_,_=>rfl
 | c::r,0,j+1,a,a',b,nd,h1,h2,m1,m2=>by
  rw [ST,Id] at nd;simp only [List.getElem?_cons_zero,Option.some.injEq] at h1;simp only [List.getElem?_cons_succ] at h2;subst h1;exact absurd rfl (nd.2.2 b m1 b (kI h2 m2))
 | c::r,i+1,0,a,a',b,nd,h1,h2,m1,m2=>by
  rw [ST,Id] at nd;simp only [List.getElem?_cons_zero,Option.some.injEq] at h2;simp only [List.getElem?_cons_succ] at h1;subst h2;exact absurd rfl (nd.2.2 b m2 b (kI h1 m1))
 | c::r,i+1,j+1,a,a',b,nd,h1,h2,m1,m2=>by
  rw [ST,Id] at nd;simp only [List.getElem?_cons_succ] at h1 h2;rw [xN nd.2.1 h1 h2 m1 m2]
def aE.write {k:Nat} {a:Ta} {t':Th} (i:aE CH CS CT H A L M) (hk:L[k]?=some a) (hh:∃ fs c,H' A.a=some (.ins CH A.dx fs)/\fs.length<=40/\dN fs (um c A)) (ht:∃ fs c,H' A.t=some (.ins CS A.dt fs)/\fs.length<=40/\dN fs (uR A.ml c))
  (aS:jB CT H' a k t') (kp:Kp [A.a,A.t,a.th,a.nm,a.pl] H H'):aE CH CS CT H' A L { M with ts:=M.ts.set k t' }:=by
 have nd:=i.nd;rw [Id] at nd;obtain ⟨n1,n2,n3⟩:=nd;have ma:∀ b∈a.l,b∈L.flatMap Ta.l:=fun b hb=>kI hk hb;have rB:∀ b∈[A.ml,A.ro,A.st,A.tr,A.ov,A.un],b ∉ [A.a,A.t,a.th,a.nm,a.pl]:=by
  intro b hb hm;have hw:b∈A.w:=by
   simp only [Ad.w,mo,nn,xz] at hb ⊢;rcases hb with h | h | h | h | h | h <;> simp [h]
  simp only [mo,nn,xz] at hm;rcases hm with rfl | rfl | rfl | rfl | rfl
  ·have:=(Do.mp n1).1;simp only [mo,nn,xz,_v] at hb this;rcases hb with h | h | h | h | h | h <;> simp [h] at this
  ·have:=(Do.mp (Do.mp n1).2).1;simp only [mo,nn,xz,_v] at hb this;rcases hb with h | h | h | h | h | h <;> simp [h] at this
  ·exact n3 _ hw _ (ma _ (by simp [Ta.l])) rfl
  ·exact n3 _ hw _ (ma _ (by simp [Ta.l])) rfl
  ·exact n3 _ hw _ (ma _ (by simp [Ta.l])) rfl
 refine ⟨hh,ht,kp _ _ (rB _ (by simp)) i.ml,by rw [i.len]; simp,fun j t e=>?_,kp _ _ (rB _ (by simp)) i.ro,kp _ _ (rB _ (by simp)) i.st,kp _ _ (rB _ (by simp)) i.tr,kp _ _ (rB _ (by simp)) i.ov,kp _ _ (rB _ (by simp)) i.un,i.nd⟩;by_cases hj:j=k
 ·subst hj;have bK:j < M.ts.length:=by rw [<- i.len]; exact (sw.mp hk).1
  have e':(M.ts.set j t')[j]?=some t:=e;rw [NE bK] at e';cases e';exact ⟨a,hk,aS⟩
 ·have e':(M.ts.set k t')[j]?=some t:=e;rw [No (sB hj)] at e';obtain ⟨a',e1,h1⟩:=i.th j t e';refine ⟨a',e1,h1.keep kp fun b hb hm=>?_⟩;have gA:=kI e1 hb;simp only [mo,nn,xz] at hm;rcases hm with rfl | rfl | rfl | rfl | rfl
  ·exact n3 _ (by simp [Ad.w]) _ gA rfl
  ·exact n3 _ (by simp [Ad.w]) _ gA rfl
  ·exact hj (xN n2 e1 hk hb (by simp [Ta.l]))
  ·exact hj (xN n2 e1 hk hb (by simp [Ta.l]))
  ·exact hj (xN n2 e1 hk hb (by simp [Ta.l]))
end
def GJ:V->Bool
 | .int _=>true
 | _=>false
def Qu:Sp:=l9 fun v H Q _=>(∃ T,clsName H v=some T)/\Q (.bl (GJ v)) H
def UX:Sp:=l9 fun x H Q _=>A4 (∃ T,clsName H x=some T) (FV x) (fG x=true) (∀ H',ag H H'->Q .aw H')
def Vl (C:Addr):Sp:=HB fun x n kd ow mi re tx H Q _=>X1 fun dx=>A2 (H x=some (.ins C dx [])) (∀ l1 l2 H',H l1=none->H l2=none->l1≠l2->l1≠x->l2≠x->(∀ b,b≠x->b≠l1->b≠l2->H' b=H b)->H' l1=some (.dK [])->H' l2=some (.dT []) ->
   (∀ fs,fs.length<=40->dN fs (uP n kd ow mi re tx (.ref l1) (.ref l2))->H' x=some (.ins C dx fs)->Q .aw H'))
def RL (C:Addr):Sp:=ja fun x H Q _=>X1 fun dx=>A2 (H x=some (.ins C dx [])) (∀ l H',H l=none->l≠x->(∀ b,b≠x->b≠l->H' b=H b)->H' l=some (.lst [])->(∀ fs,fs.length<=40->dN fs (uR l 0)->H' x=some (.ins C dx fs)->Q .aw H'))
structure kH (CS:Addr) (H:Hp) (x dt ml:Addr) (rs:List V):Prop where
 o:∃ fs c,H x=some (.ins CS dt fs)/\fs.length<=40/\dN fs (uR ml c)
 ml:H ml=some (.lst rs)
def uv (CS CT:Addr) (x dt ml:Addr) (rs:List V) (kd ow mi re tx:V) (H:Hp) (Q:VK):Prop :=
 ∀ th dS nm pl ks H',H th=none->H nm=none->H pl=none->kH CS H' x dt ml (rs++[.ref th])->H' th=some (.ins CT dS ks)->ks.length<=40->dN ks (uP (.int rs.length) kd ow mi re tx (.ref nm) (.ref pl)) ->
  H' nm=some (.dK [])->H' pl=some (.dT [])->Kp [x,ml] H H'->Q (.int rs.length) H'
def P6 (CS CT:Addr):Sp:=Le fun x kd ow mi re tx H Q _=>X3 fun dt ml rs=>A3 (kH CS H x dt ml rs) (rs.length<=500) (uv CS CT x dt ml rs kd ow mi re tx H Q)
def Sk (CS CT:Addr):Sp:=Aj fun x ow mi re H Q _=>X3 fun dt ml rs=>A3 (kH CS H x dt ml rs) (rs.length<=500) (uv CS CT x dt ml rs (.str "folder") ow mi re (.str "") H Q)
def VE (CS CT:Addr):Sp:=G5 fun x ow tx mi re H Q _=>X3 fun dt ml rs=>A3 (kH CS H x dt ml rs) (rs.length<=500) (uv CS CT x dt ml rs (.str "file") ow mi re tx H Q)
def aaf (CS CT:Addr):Sp:=zL fun x ow tx H Q _=>X3 fun dt ml rs=>A3 (kH CS H x dt ml rs) (rs.length<=500) (uv CS CT x dt ml rs (.str "lead") ow (.str "") (.str "") tx H Q)
def FE (CH CS CT CN:Addr):Sp:=Ax fun x v H Q E=>X3 fun A L M=>A5 (aE CH CS CT H A L M) (A.t=x) (∃ T,clsName H v=some T) (∀ (k:Nat) a t,v=.int k->L[k]?=some a->M.ts[k]?=some t->Q (.ref a.th) H) ((∀ k:Nat,v=.int k->¬ k < M.ts.length)->E (.ref CN) none H)
abbrev mP:=Ad->List Ta->Hs->Nat->Ta->Th->Hp->VK->Prop
def lb (CH CS CT:Addr) (sel:Ad->Addr) (f:mP):Sp:=mS fun x n H Q _=>X6 fun A L M (k:Nat) a t=>A6 (aE CH CS CT H A L M) (sel A=x) (n=(k:Int)) (L[k]?=some a) (M.ts[k]?=some t) (f A L M k a t H Q)
def YL (CH CS CT:Addr) (sel:Ad->Addr):Sp:=xq fun x n z H Q _=>X6 fun A L M (k:Nat) a t=>A6 (aE CH CS CT H A L M) (sel A=x) (n=(k:Int)) (L[k]?=some a) (M.ts[k]?=some t) (Q ((aG (sD t.aR) (.inr z)).getD .aw) H)
def Pm (CH CS CT:Addr):Sp:=xq fun x n z H Q _=>X6 fun A L M (k:Nat) a t=>A8 (aE CH CS CT H A L M) (A.a=x) (n=(k:Int)) (L[k]?=some a) (M.ts[k]?=some t) (fG (.str z)=true) (z.length<=1000) (∀ H',ag H H'->Q ((aG (sD t.aR) (.inr z)).getD .aw) H')
def Lq (CH CS CT:Addr) (sel:Ad->Addr):Sp:=ja fun x H Q _=>X3 fun A L M=>A3 (aE CH CS CT H A L M) (sel A=x) (Q (.int M.ts.length) H)
abbrev AW:mP:=fun _ _ _ _ _ t H Q=>t.aR.length < 64/\∀ l,H l=none->Q (.ref l) (upd H l (.lst ((gG (t.aR.map (·.1))).map V.str)))
abbrev Lh:mP:=fun _ _ _ _ _ t H Q=>(t.cQ=[]/\Q .aw H)\/∃ f z,t.cQ=[(f,z)]/\∀ p,H p=some (.tup [.int (f:Nat),.str z])->Q (.ref p) H
abbrev vA:mP:=fun _ _ _ _ _ t H Q=>Q (.str t.kd) H
abbrev Il:mP:=fun _ _ _ _ _ t H Q=>Q (.str t.ow) H
abbrev J1:mP:=fun _ _ _ _ _ t H Q=>Q (.str t.tx) H
abbrev acP:mP:=fun _ _ _ _ _ t H Q=>∀ l,H l=none->Q (.ref l) (upd H l (.tup [.str t.mi,.str t.re]))
abbrev aby:mP:=fun _ _ _ _ _ _ H Q=>Q .aw H
def II (CH CS CT CA:Addr):Sp:=Ax fun x v H Q E=>X3 fun A L M=>A5 (aE CH CS CT H A L M) (A.a=x) (∃ T,clsName H v=some T) (∀ z,v=.str z->(aG (sD M.ro) (.inr z)).isSome=true->Q .aw H) ((∀ z,v=.str z->aG (sD M.ro) (.inr z)=none)->E (.ref CA) none H)
def TV (CH CS CT:Addr):Sp:=jN fun x z H Q _=>X4 fun A L M (r:Nat)=>A4 (aE CH CS CT H A L M) (A.a=x) (aG (sD M.ro) (.inr z)=some (.int r)) (Q (.int r) H)
def dk (t:Th) (kb:Str):Str:=if kb=t.ow then t.mi else t.re
def aaP (CT:Addr):Sp:=jN fun x z H Q _=>X3 fun a i t=>A3 (jB CT H a i t) (a.th=x) (Q (.str (dk t z)) H)
def j0 (v:V):Bool:=decide (v=.str "l") || decide (v=.str "g") || decide (v=.str "w")
def VS (CR:Addr):Sp:=l9 fun v H Q E=>A3 (∃ T,clsName H v=some T) (j0 v=true->Q .aw H) (j0 v=false->E (.ref CR) none H)
def cI (s:Str) (z:Str):Bool:=!(Builtin.Str.occurrences z s 0 z.length 1).isEmpty
def J5 (CH CS CT CA CR CN:Addr):Sp:=Aj fun x w v r H Q E=>X3 fun A L M=>A7 (aE CH CS CT H A L M) (A.a=x) (∃ T,clsName H w=some T) (∃ T,clsName H v=some T) (∃ T,clsName H r=some T) ((∀ z,w=.str z->aG (sD M.ro) (.inr z)=none)->E (.ref CA) none H) (∀ z,w=.str z->(aG (sD M.ro) (.inr z)).isSome=true->(j0 r=false->E (.ref CR) none H) /\
    ∀ s,r=.str s->j0 r=true->((∀ k:Nat,v=.int k->¬ k < M.ts.length)->E (.ref CN) none H)/\∀ (k:Nat) t,v=.int k->M.ts[k]?=some t->Q (.bl (cI s (dk t z))) H)
local macro_rules | `(tactic| walk_at "rd")=>`(tactic| dsimp only [yW,yV,Dg,Ac,mL,fE,z7,iY,tC,lh,zy,wK,nI,oi,jE,Ca,xJ,zE,CV,y8,yO,pQ,jZ,tU,xr,wt,xI,mU,zB,za,yZ,Bi,xp,A0,vz,yQ,Xl,Uz,TC,Yq,pU,xw,yL,zq,CY,Ab,Pl,QN,Ag,rJoin,Bk,ze,uc,BN,wJ,tZ,Bx,G0,zi,ab4,abQ,BL,BX,CO,Ao,tE,qU,Bw,Bp,Dj,BZ,wZ,y4,TU,Pg,BA,Bc,Ends.Cy,AM,Bh,BJ,Cq,B5,AX,BR,z8,VF,tG,RT,Wu,abX,Lz,C1,Bt,zu,AO,Cp,zj,zJ,Bv,BD,Zd,Bm,OJ,Vx,acD,Uy,vU,zN,AL,Dx,B3,Vt,GK,zh,wb,XN,List.getElem?_cons_zero,List.getElem?_cons_succ,List.set_cons_zero,List.set_cons_succ,List.cons_append,List.nil_append])
local macro_rules | `(tactic| walk_at "w")=>`(tactic| (first | walk_at "rd" | skip))
local macro_rules | `(tactic| left)=>`(tactic| walk_at "w")
local macro_rules | `(tactic| right)=>`(tactic| (refine ah ?_;left))
local macro_rules | `(tactic| symm)=>`(tactic| decide +kernel)
local macro_rules | `(tactic| walk_at "f")=>`(tactic| (refine _p (m:=40) ?_ (by decide); (repeat (refine bV ?_)); exact Cl _))
local macro_rules | `(tactic| walk_at "c")=>`(tactic| (repeat (first | exact trivial | (refine ⟨fun z=>(by first | exact ⟨_,rfl⟩ | (rcases z with z | z <;> cases z)),?_⟩))))
open Dv (aa ae ai aK aP aW aX bw bB bA bL bO cL dW eE aw fF fH gq iB iF i0 iQ jV kF mr mJ my nH nM qI sr sE uF tO uO wx wj xu wV xk C8 AH BC zI G2 Kv HV Gj JK HH Jh Bj KL Bn aca YI RF Q8 YU acF Yy RP XR Xb cP Y5 Yk)
abbrev ac:=@Dv.v
abbrev ad:=@Dv.cut
abbrev al:=@Dv.str
abbrev am:=@Dv.int
abbrev ap:=@Dv.fld
abbrev bi:=@Dv.call
abbrev bn:=@Dv.nil
abbrev bv:=@Dv.op
abbrev ci:=@Dv.ix
abbrev cr:=@Dv.lst
abbrev dL:=@Dv.glob
abbrev em:=@Dv.tup
abbrev f8:=@Dv.bl
abbrev gl:=@Dv.cmp
abbrev ii:=@Dv.w_or
abbrev im:=@Dv.one
abbrev io:=@Dv.un
abbrev jp:=@Dv.make
abbrev kt:=@Dv.w_and
abbrev li:=@Dv.slice
section
variable {P:Program} {w:World} {K:ν} {mg:Str->Option Value} {base:Heap}
variable (T:Tx K mg)
def De:T.iD.k P w base 1 (Qe K):=by
 refine T.iD.F.ok S5 (fun _ _ _ _ h=>gD h fun _ _=>rfl) fun ao A outer s H vs Q E hr h=>gD h fun x h=>?_;obtain ⟨⟨ty,h1⟩,l6,q⟩:=h;refine ⟨_,((ad (aX (fF (ii (dW (bO (bL iR T.dm dE (aa (ac 0) (aa (iB (.ty "str") T.lI lH rfl) ae))))) (iF (dW (wx lx lx am (bL (g9 (K:=K) rfl) T.g7 LT (aa (ac 0) ae)) (dL (.int 8) T.Y1 ⟨_,rfl⟩)))))) (ai (aK f8)) bn)
 (ai (aK (bL (Dy (K:=K) rfl rfl) T.zm BG (aa (C8 rfl (x:=("sign" : Str)) (aca (ac 0)) (fun _ _ _ _=>by exact qI) (fun _ _ _ _=>by exact (gq 0 (show List.Nodup (["sign"]:List Str) by decide))) (fun _ _ _ _=>by exact (gl (zD (K:=K) rfl) (ac 0) (dL (.str "abcdefghijklmnopqrstuvwxyz") T.abV ⟨_,rfl⟩))) (.of rfl (by exact trivial) (by walk_at "c") rfl (by exact trivial))) ae)))))).h,?_⟩
 refine stI [some x] ?_;refine ah ?_;walk_at "rd";simp only [h1,qc h1];refine ⟨kY _ rfl,?_⟩;cases x with
 | str z =>
  simp only [nA,_F,IO,ZB];have hsh':z.length<=1000:=l6;have hl:z.cps.toList.length=z.length:=by simp [Str.length]
  refine ⟨fits hsh',?_⟩;by_cases a1:1<=z.length
  ·rw [wP (show (1:Int)<=(z.length:Int) by omega)];refine aV ?_;by_cases a2:z.length<=8
   ·rw [wP (show (z.length:Int)<=8 by omega)];refine aQ ?_;refine S9 (fun c=>.bl (qT.contains c)) (fits hsh') ?_ ?_
    ·intro c _ H1 _ R hR;walk_at "rd";rw [Y6,show (⟨#[c]⟩:Str)=Tx.S [c] from rfl,Tx.UU];exact hR H1 (ag.refl H1)
    ·intro H1 s1 l iV;refine ⟨_,aD.of au,z.cps.toList.map (qT.contains ·),by rw [Tm]; rfl,?_⟩;have e:((z.cps.toList.map (qT.contains ·)).all id)=fG (.str z):=by
      show _=isNm z.cps.toList;unfold isNm;rw [hl,wP a1,wP a2,List.all_map];rfl
     rw [e];exact q _ (s1.trans (ag.upd iV))
   ·rw [pc (show ¬ (z.length:Int)<=8 by omega)];refine aV ?_;have e:fG (.str z)=false:=by
     show isNm z.cps.toList=false;unfold isNm;rw [hl,pc a2,Bool.and_false,Jaa]
    have:=q H (ag.refl H);rw [e] at this;exact this
  ·rw [pc (show ¬ (1:Int)<=(z.length:Int) by omega)];refine aQ (aV ?_);have e:fG (.str z)=false:=by
    show isNm z.cps.toList=false;unfold isNm;rw [hl,pc a1,Jaa,Jaa]
   have:=q H (ag.refl H);rw [e] at this;exact this
 | _=>exact q H (ag.refl H)
def bJ {X:Cx} {b:List Stmt} {t:TS} {D:Ends} {σ:St} {H:Hp} (h:QB X b t) (q:t D σ H):∃ t,dH X b t/\t D σ H:=⟨t,h.h,q⟩
def V3:V->Bool
 | .int _=>true
 | .bl _=>true
 | _=>false
def W5 {H:Hp} {v:V} {ty:String} (h:clsName H v=some ty):wQ ty "int" = V3 v:=by
 unfold clsName at h;split at h
 ·cases h; rfl
 ·cases h; rfl
 ·cases h; rfl
 ·cases h; rfl
 ·split at h
  ·cases h; rfl
  ·cases h; rfl
  ·cases h; rfl
  ·cases h
 ·cases h
def Ju:T.kQ.k P w base 1 Qu:=by
 refine T.kQ.F.ok abq (fun _ _ _ _ h=>gD h fun _ _=>rfl) fun ao A outer s H vs Q E hr h=>gD h fun v h=>?_;obtain ⟨⟨ty,cy⟩,q⟩:=h;refine ⟨_,((ai (aK (nH (bL iR T.dm dE (aa (ac 0) (aa (iB (.ty "int") T.FQ Fz rfl) ae))) (im (YI (bL iR T.dm dE (aa (ac 0) (aa (iB (.ty "bool") T.g_bool Sr rfl) ae))))))))).h,?_⟩;refine stI [some v] ?_;left;simp only [cy];refine ⟨by decide,?_⟩;cases v with
 | int i=>cases cy; exact aV ⟨by decide,q⟩
 | bl b=>cases cy; exact aV ⟨by decide,q⟩
 | _ =>
  rw [W5 cy];exact aQ q
def Bg:T.iy.k P w base 2 UX:=by
 refine T.iy.F.ok Pa (fun _ _ _ _ h=>gD h fun _ _=>rfl) fun ao A outer s H vs Q E hr h=>gD h fun x h=>?_;obtain ⟨hc,l6,hn,q1⟩:=h;refine ⟨_,((ai (aX (dW (bO (bi (De T) hr.m T.iD.m T.iD.F.kp T.iD.b .nil az (aa (ac 0) ae)))) (ai i0) bn))).h,?_⟩;refine stI [some x] ?_;left;refine ⟨hc,l6,fun H' s'=>?_⟩;rw [hn];exact aQ (q1 H' s')
def dg:List Str:=["","l","g","w","lg","lw","gw","lgw"]
def Vm:Sp:=jL fun z H Q _=>z∈dg/\Q (.bl true) H
def Vk:Sp:=jL fun z H Q _=>z∈dg/\Q .aw H
def SX {z:Str} {zs:List Str} (h:z∈zs):fO (V.str z) (zs.map V.str)=true:=by
 unfold fO;rw [List.any_map,List.any_eq_true];exact ⟨z,h,show (z == z)=true from beq_self_eq_true z⟩
def Rg:T.iq.k P w base 1 Vm:=by
 refine T.iq.F.ok Jz (fun _ _ _ _ h=>fq h fun _ _=>rfl) fun ao A outer s H vs Q E hr h=>fq h fun z h=>?_;obtain ⟨hz,q⟩:=h;refine ⟨_,((ai (aK (nH (bL iR T.dm dE (aa (ac 0) (aa (iB (.ty "str") T.lI lH rfl) ae))) (im (gl (wG (K:=K) rfl) (ac 0) (dL (.ref T.yG) T.G7 rfl))))))).h,?_⟩;refine stI [some (V.str z)] ?_;left;refine ⟨by decide,aV ⟨_,.inr (T.wL H),rfl,rfl,?_⟩⟩;rw [show [V.str "",V.str "l",V.str "g",V.str "w",V.str "lg",V.str "lw",V.str "gw",V.str "lgw"]=dg.map V.str from rfl,SX hz];exact q
def ql:T.cN.k P w base 2 Vk:=by
 refine T.cN.F.ok Ky (fun _ _ _ _ h=>fq h fun _ _=>rfl) fun ao A outer s H vs Q E hr h=>fq h fun z h=>?_;obtain ⟨hz,q⟩:=h;refine ⟨_,((ai (aX (dW (bO (bi (Rg T) hr.m T.iq.m T.iq.F.kp T.iq.b .nil az (aa (ac 0) ae)))) (ai i0) bn))).h,?_⟩;refine stI [some (V.str z)] ?_;left;exact ⟨hz,aQ q⟩
def Zy (v:V):fO v [V.str "l",V.str "g",V.str "w"]=j0 v:=by
 unfold fO j0;simp only [_c,List.any_nil,Jai];have key:∀ z:Str,fV (.str z) v=decide (v=.str z):=fun z=>by
  cases v with
  | str y =>
   show (z == y)=decide (V.str y=V.str z);by_cases e:z=y
   ·subst e; simp
   ·rw [pc (by intro h; injection h with h; exact e h.symm)];exact Fa.mpr e
  | _=>rfl
 rw [key,key,key,Bool.or_assoc]
def Tg:aA P w K mg base (bI P w) 1 T.pA.f T.pA.d ["text"] (VS T.cb):=by
 refine T.pA.F.dJ W7 (fun _ _ _ _ h=>gD h fun _ _=>rfl) fun ao A outer s H vs Q E hr h=>gD h fun v h=>?_;obtain ⟨⟨ty,cy⟩,q1,q2⟩:=h;refine ⟨_,((ai (aX (fF (ii (dW (bO (bL iR T.dm dE (aa (ac 0) (aa (iB (.ty "str") T.lI lH rfl) ae))))) (iF (bB (Aq (K:=K) rfl) (ac 0) (dL (.ref T.ES) T.SR rfl))))) (ai (mr mh rfl T.y3 T.IK (aa al ae))) bn))).h,?_⟩;refine stI [some v] ?_;left;simp only [cy,qc cy];refine ⟨kY _ rfl,?_⟩;cases v with
 | str z =>
  simp only [nA,_F,IO,ZB];refine ⟨_,.inr (T.Ai H),rfl,rfl,?_⟩;rw [Zy];cases ho:j0 (.str z) with
  | true=>exact aQ (q1 ho)
  | false=>exact aV ⟨fits (by simp),q2 ho⟩
 | _=>exact ⟨fits (by simp),q2 rfl⟩
def J2:T.lz.k P w base 2 (Vp K):=by
 refine T.lz.F.ok WL (fun _ _ _ _ h=>fq h fun _ _=>rfl) fun ao A outer s H vs Q E hr h=>fq h fun z h=>?_;obtain ⟨w',rfl,hw,q⟩:=h;refine ⟨_,((ai (aK (RF (gl (wG (K:=K) rfl) (ac 0) (dL (.ref T.DC) T.Y0 rfl)) (im (bi (De T) hr.m T.iD.m T.iD.F.kp T.iD.b .nil az (aa (ac 0) ae))))))).h,?_⟩;refine stI [some (V.str (Tx.S w'))] ?_;walk_at "rd";refine ⟨_,.inr (T.zp H),rfl,rfl,?_⟩;have e:fO (V.str (Tx.S w')) [V.str ".",V.str ".."]=(decide (w'=[46]) || decide (w'=[46,46])):=by
  rw [show Str.ofString "." = Tx.S [46] from by symm,show Str.ofString ".." = Tx.S [46,46] from by symm];unfold fO fV;simp only [_c,List.any_nil,Jai];have b:∀ m:List Nat,(Tx.S m == Tx.S w')=decide (w'=m):=fun m=>by
   by_cases h:w'=m
   ·rw [h]; simp
   ·have:Tx.S m≠Tx.S w':=fun e=>h (Tx.LF e).symm;rw [pc h];exact Fa.mpr this
  rw [b,b]
 rw [e];cases hd:(decide (w'=[46]) || decide (w'=[46,46])) with
 | true =>
  refine aV ?_;have:=q H (ag.refl H);unfold dD at this;rw [hd] at this;exact this
 | false =>
  refine aQ ?_;refine ⟨⟨_,rfl⟩,(by show (Tx.S w').length<=1000; rw [Tx.cC]; exact hw),fun H' s'=>?_⟩;have:=q H' s';unfold dD at this;rw [hd,Bool.false_or] at this;have e2:fG (V.str (Tx.S w'))=isNm w':=by show isNm _=_; rw [Tx.iS]
  rw [e2];exact this
def nz:V->Bool
 | .str z=>!decide (z=Tx.S [])
 | _=>false
def t9:V->V
 | .str z=>.bl (dD z.cps.toList)
 | _=>.bl false
def B0 (t:List Nat):((((Tx.cut 47 t).map Tx.S).map V.str).filter nz).map id=PV (Tx.words 47 t):=by
 rw [List.map_id,List.filter_map];show ((((Tx.cut 47 t).map Tx.S)).filter _).map V.str=_
 congr 1
 rw [<- Tx.Pk];refine List.filter_congr fun z _=>?_;show (!decide (z=Tx.S []))=decide (z≠Tx.S []);by_cases h:z=Tx.S [] <;> simp [h]
def FO (ps:List (List Nat)):((PV ps).filter (fun _=>true)).map t9=(ps.map dD).map V.bl:=by
 rw [List.filter_eq_self.mpr (fun _ _=>rfl),PV,Tm,Tm,Tm];refine List.map_congr_left fun w' _=>?_;show V.bl (dD (Tx.S w').cps.toList)=V.bl (dD w');rw [Tx.iS]
def iT:T.bX.k P w base 3 (Sx K):=by
 refine T.bX.F.ok wq (fun _ _ _ _ h=>fq h fun _ _=>rfl) fun ao A outer s H vs Q E hr h=>fq h fun z h=>?_;obtain ⟨t,rfl,t1,t2,m7,q⟩:=h;refine ⟨_,((ad (aX (fF (ii (dW (bO (bL iR T.dm dE (aa (ac 0) (aa (iB (.ty "str") T.lI lH rfl) ae))))) (iF (dW (wx lx lx am (bL (g9 (K:=K) rfl) T.g7 LT (aa (ac 0) ae)) (dL (.int 2000) T.Kr ⟨_,rfl⟩)))))) (ai i0) bn)
 (ad (AH 1 rfl wq.nd (x:=("part" : Str)) (jV (K:=K) rfl (kF _q _r vN (ac 0) (aa al ae))) (fun _ _ _ _=>by exact (wj (bB iG (ac 0) al))) (fun _ _ _ _=>by exact (gq 0 (show List.Nodup (["part"]:List Str) by decide))) (fun _ _ _ _=>by exact (ac 0)) (.of rfl (by exact trivial) (by walk_at "c") rfl (by exact trivial)))
 (ad (aX (dW (bO (bL (Dy (K:=K) rfl rfl) T.zm BG (aa (C8 rfl (x:=("part" : Str)) (jV (K:=K) rfl (ac 1)) (fun _ _ _ _=>by exact qI) (fun _ _ _ _=>by exact (gq 0 (show List.Nodup (["part"]:List Str) by decide))) (fun _ _ _ _=>by exact (bi (J2 T) hr.m T.lz.m T.lz.F.kp T.lz.b .nil az (aa (ac 0) ae))) (.of rfl (by exact trivial) (by walk_at "c") rfl (by exact trivial))) ae)))) (ai i0) bn)
 (ad (aX (fF (kt (bB (Iy hr.sR) (ac 1) (cr ae)) (sr (bO (kF PySem.F.slot_str_endswith PySem.F.type_str_endswith FR (ac 0) (aa al ae)))))) (ai (aW (iQ IR KB l8 (ac 1) (aa al ae)))) bn)
 (ai (aK (em (aa (kF PySem.F.slot_str_startswith PySem.F.type_str_startswith Fx (ac 0) (aa al ae)) (aa (ac 1) ae)))))))))).h,?_⟩
 refine stI [some (V.str (Tx.S t)),none] ?_;refine ah ?_;walk_at "rd";have lY:Str.ofString "/" = Tx.S [47]:=by symm
 have e0:Str.ofString "" = Tx.S []:=by symm
 simp only [Tx.cC,lY,e0];refine ⟨kY _ rfl,aQ ⟨u8 t2 (by decide),?_⟩⟩;rw [wP (show (1:Int)<=(t.length:Int) by omega),wP (show (t.length:Int)<=2000 by omega)];refine aV (aQ (ah ?_));walk_at "rd";have ib:=Tx.sW 47 t;refine ⟨rfl,by rw [Tx.cC]; exact u8 t2 (by decide),?_,?_⟩
 ·rw [Tx.rf,Tx.ji,Tx.qe,Tx.md,pp];exact u8 (show _<=2001 by omega) (by decide)
 intro l hl;rw [Tx.uz t 47 (by decide)];refine eY hl fun H1 s1 b1=>?_;refine ⟨⟨_,aD.of b1⟩,uS nz id (aD.of b1) (by rw [pp,pp]; exact u8 (show _<=2001 by omega) (by decide)) ?_ ?_ ?_⟩
 ·intro x hx H2 _ R hR;obtain ⟨z,_,rfl⟩:=EQ.mp hx;walk_at "rd";exact hR H2 (ag.refl H2)
 ·intro x hx _ H2 _ R hR;walk_at "rd";exact hR H2 (ag.refl H2)
 intro H2 s2 l2 cf;rw [B0];have iO:H l2=none:=(s1.trans s2).free cf;refine eY cf fun H3 s3 b3=>?_;have mX:ag H H3:=(s1.trans s2).trans s3;have m9:(Tx.words 47 t).length<=2001:=u8 (_u _ _) (by omega);refine ah ?_;walk_at "rd";refine ⟨⟨_,aD.of b3⟩,uS (fun _=>true) t9 (aD.of b3) (by rw [pp,pp]; exact u8 m9 (by decide)) ?_ ?_ ?_⟩
 ·intro x _ H4 _ R hR;exact hR H4 (ag.refl H4)
 ·intro x hx _ H4 _ R hR;obtain ⟨z,hz,rfl⟩:=EQ.mp hx;obtain ⟨w',hw,rfl⟩:=EQ.mp hz;walk_at "rd";obtain ⟨_,_,g3⟩:=AQ (At.mp m7 w' hw);refine ⟨w',rfl,by omega,fun H5 s5=>?_⟩;have:=hR H5 s5;simp only [t9,Tx.iS] at this;exact this
 intro H4 s4 l4 ku;rw [FO];refine ⟨_,aD.of au,_,rfl,?_⟩;have ea:((Tx.words 47 t).map dD).all id=true:=by rw [List.all_map]; exact m7
 rw [ea];refine aQ ?_;have s5:=ag.upd (o:=.lst (((Tx.words 47 t).map dD).map V.bl)) ku;generalize upd H4 l4 (.lst (((Tx.words 47 t).map dD).map V.bl))=H5 at s5 ⊢;have b5:H5 l2=some (.lst (PV (Tx.words 47 t))):=s5 _ _ (s4 _ _ b3);have EC:ag H H5:=(mX.trans s4).trans s5;refine ck (fun σ' H'=>σ'=[some (V.str (Tx.S t)),some (V.ref l2)]/\ag H H'/\H' l2=some (.lst (PV (told (Tx.words 47 t) t)))) ?_ ?_
 ·walk_at "rd";refine ⟨fits (by simp),fun p hp=>?_⟩;have s6:=ag.upd (o:=.lst []) hp;have c6:upd H5 p (.lst []) p=some (.lst ((([]:List Str)).map V.str)):=au;generalize upd H5 p (.lst [])=H6 at s6 c6 ⊢;have b6:H6 l2=some (.lst (PV (Tx.words 47 t))):=s6 _ _ b5;refine ⟨(Tx.words 47 t).map Tx.S,[],b6,c6,?_⟩;by_cases xV:Tx.words 47 t=[]
  ·rw [wP (show (Tx.words 47 t).map Tx.S=[] by rw [xV]; rfl)];refine aQ (aQ ⟨by trivial,EC.trans s6,?_⟩);unfold told;rw [xL (fun z=>z.1 xV)];exact b6
  ·rw [pc (show ¬ (Tx.words 47 t).map Tx.S=[] by simpa using xV)];refine aV ?_;rw [Tx.WS];by_cases yi:t.getLast?=some 47
   ·rw [wP yi];refine aV ?_;simp only [b6];refine ⟨by rw [pp,pp]; exact _p m9 (by decide),by trivial,cJ.same (EC.trans s6) iO cJ.upd,?_⟩;unfold told;rw [AC ⟨xV,yi⟩,au,show Str.ofString "." = Tx.S [46] from by symm];simp only [PV,Ev,Ch,Tk]
   ·rw [pc yi];refine aQ ⟨by trivial,EC.trans s6,?_⟩;unfold told;rw [xL (fun z=>yi z.2)];exact b6
 ·rintro σ' H6 ⟨rfl,s6,b6⟩;walk_at "rd";simp only [lY,Tx.XM];refine ⟨fits (by simp),fun p hp=>?_⟩;exact q _ l2 p (s6.trans (ag.upd hp)) iO (Uc b6 hp) au
def TH:T.sj.k P w mg base 1 (Vl T.aU):=by
 refine T.sj.F.ok O7 (fun _ _ _ _ h=>Jg h fun _ _ _ _ _ _ _ _=>rfl) fun ao A outer s H vs Q E hr h=>Jg h fun x n kd ow mi re tx h=>?_;obtain ⟨dx,hx,q⟩:=h;refine ⟨_,((ad (bA T.ej T.abo (ac 0) (ac 1))
 (ad (bA T.ej T.C7 (ac 0) (ac 2))
 (ad (bA T.ej T.C3 (ac 0) (ac 3))
 (ad (bA T.ej T.GL (ac 0) (ac 4))
 (ad (bA T.ej T.JY (ac 0) (ac 5))
 (ad (bA T.ej T.LB (ac 0) (ac 6))
 (ad (bA T.ej T.wA (ac 0) nM)
 (ai (bA T.ej T.w8 (ac 0) Q8)))))))))).h,?_⟩
 refine stI [some (.ref x),some n,some kd,some ow,some mi,some re,some tx] ?_;refine ah ?_;walk_at "rd";refine ⟨x,dx,_,rfl,hx,by decide,ah ?_⟩;walk_at "rd";refine ⟨x,dx,_,rfl,au,by walk_at "f",ah ?_⟩;walk_at "rd";refine ⟨x,dx,_,rfl,au,by walk_at "f",ah ?_⟩;walk_at "rd";refine ⟨x,dx,_,rfl,au,by walk_at "f",ah ?_⟩;walk_at "rd";refine ⟨x,dx,_,rfl,au,by walk_at "f",ah ?_⟩;walk_at "rd";refine ⟨x,dx,_,rfl,au,by walk_at "f",ah ?_⟩;simp only [mj];walk_at "rd";intro l1 h1;have n1:l1≠x:=fun e=>by rw [e,au] at h1; cases h1
 have h1':H l1=none:=by rw [aj n1] at h1; exact h1
 refine ⟨x,dx,_,rfl,by rw [aj (sB n1),au],by walk_at "f",fun l2 h2=>?_⟩;have n2:l2≠x:=fun e=>by rw [e,au] at h2; cases h2
 rw [aj n2] at h2;have n3:l2≠l1:=fun e=>by rw [e,au] at h2; cases h2
 rw [aj n3,aj n2] at h2;refine ⟨x,dx,_,rfl,by rw [aj (sB n2),au],by walk_at "f",?_⟩;refine q l1 l2 _ h1' h2 (sB n3) n1 n2 (fun b b1 b2 b3=>?_) ?_ ?_ _ ?_ (fun f=>?_) au
 ·rw [aj b1,aj b3,aj b1,aj b2,aj b1]
 ·rw [aj n1,aj (sB n3),aj n1,au]
 ·rw [aj n2,au]
 ·exact u8 (by (repeat (refine bV ?_)); exact Cl _) (sK 40)
 ·rfl
def ZO:T.tq.k P w mg base 1 (RL T.aL):=by
 refine T.tq.F.ok V8 (fun _ _ _ _ h=>dv h fun _ _=>rfl) fun ao A outer s H vs Q E hr h=>dv h fun x h=>?_;obtain ⟨dx,hx,q⟩:=h;refine ⟨_,((ad (bA T.cm T.pP (ac 0) (cr ae))
 (ai (bA T.cm T.Bf (ac 0) am)))).h,?_⟩
 refine stI [some (.ref x)] ?_;refine ah ?_;walk_at "rd";refine ⟨fits (by simp),fun l hl=>?_⟩;have n1:l≠x:=fun e=>by rw [e,hx] at hl; cases hl
 refine ⟨x,dx,_,rfl,by rw [aj (sB n1)]; exact hx,by decide,?_⟩;refine ⟨x,dx,_,rfl,au,by walk_at "f",?_⟩;refine q l _ hl n1 (fun b b1 b2=>?_) ?_ _ ?_ (fun f=>?_) au
 ·rw [aj b1,aj b1,aj b2]
 ·rw [aj n1,aj n1,au]
 ·exact u8 (bV (bV (Cl _))) (show 0+1+1<=40 by decide)
 ·rfl
def QU:T.uI.k P w mg base 1 (aaP T.aU):=by
 refine T.uI.F.ok Uk (fun _ _ _ _ h=>fk h fun _ _ _=>rfl) fun ao A outer s H vs Q E hr h=>fk h fun x z h=>?_;obtain ⟨a,i,t,dG,rfl,q⟩:=h;obtain ⟨fs,hx,aY,sf⟩:=dG.o;refine ⟨_,((ai (aK (G2 (bB eZ (ac 1) (ap T.ej T.C3 (ac 0))) (ap T.ej T.GL (ac 0)) (ap T.ej T.JY (ac 0)))))).h,?_⟩;refine stI [some (V.ref a.th),some (V.str z)] ?_;left;refine (fI hx sf rfl ?_);dsimp only;unfold dk at q;by_cases e:z=t.ow
 ·rw [wP e];rw [AC e] at q;exact aV (fI hx sf rfl q)
 ·rw [pc e];rw [xL e] at q;exact aQ (fI hx sf rfl q)
def Cr:T.kE.k P w mg base 3 (P6 T.aL T.aU):=by
 refine T.kE.F.ok Kw (fun _ _ _ _ h=>FL h fun _ _ _ _ _ _ _=>rfl) fun ao A outer s H vs Q E hr h=>FL h fun x kd ow mi re tx h=>?_;obtain ⟨dt,ml,rs,⟨⟨fs,c,hx,aY,sf⟩,fA⟩,gN,q⟩:=h;refine ⟨_,((ad (mJ T.cm T.Bf mV (ac 0) am)
  (ad (aP 6 Kw.nd (bL (g9 (K:=K) rfl) T.g7 LT (aa (ap T.cm T.pP (ac 0)) ae)))
  (ad (aW (iQ IR KB l8 (ap T.cm T.pP (ac 0)) (aa (jp T.TM (TH T) hr.m T.XH T.sj.b .nil az (aa (ac 6) (aa (ac 1) (aa (ac 2) (aa (ac 3) (aa (ac 4) (aa (ac 5) ae))))))) ae)))
  (ai (aK (ac 6))))))).h,?_⟩
 refine stI [some (.ref x),some kd,some ow,some mi,some re,some tx,none] ?_;have dY:ml≠x:=fun e=>by rw [e,hx] at fA; cases fA
 refine ah ?_;walk_at "rd";refine ⟨x,dt,fs,.int c,rfl,hx,(sf _).trans rfl,_,_,rfl,rfl,dt,fs,hx,by omega,ah ?_⟩;have dO:dN (ax "changes" (.int (c+1)) fs) (uR ml (c+1)):=fun f=>by rw [(sf.put "changes" (.int (c+1))) f]; rfl
 have jo:(ax "changes" (.int (c+1)) fs).length<=41:=bV aY;have bu:upd H x (.ins T.aL dt (ax "changes" (.int (c+1)) fs)) x=some (.ins T.aL dt (ax "changes" (.int (c+1)) fs)):=au;have lN:upd H x (.ins T.aL dt (ax "changes" (.int (c+1)) fs)) ml=some (.lst rs):=by rw [aj dY]; exact fA
 have iJ:Kp [x] H (upd H x (.ins T.aL dt (ax "changes" (.int (c+1)) fs))):=fun b o hb e=>by rw [aj (fun z=>hb (by simp [z]))]; exact e
 have o1:∀ b,b≠x->upd H x (.ins T.aL dt (ax "changes" (.int (c+1)) fs)) b=H b:=fun b hb=>aj hb;generalize upd H x (.ins T.aL dt (ax "changes" (.int (c+1)) fs))=H1 at bu lN iJ o1 ⊢;walk_at "rd";refine ⟨x,dt,_,.ref ml,rfl,bu,(dO _).trans rfl,?_⟩;simp only [bj,lN];refine ah ?_;walk_at "rd";refine ⟨x,dt,_,.ref ml,rfl,bu,(dO _).trans rfl,?_⟩;simp only [lN];intro th dS aS hdth jq;refine ⟨dS,au,fun nm pl H2 bT bN hnp hn1 iO fr2 hnm2 hpl2 ks ko sk hth2=>⟨rfl,?_⟩⟩;have Eg:∀ b o,H1 b=some o->upd (upd H1 dS (HO.own th)) th (HO.ins T.aU dS []) b=some o:=fun b o e=>by
  rw [aj (aI e aS),aj (aI e hdth)]; exact e
 have DJ:∀ b o,H1 b=some o->H2 b=some o:=fun b o e=>by
  rw [fr2 b (aI e aS) (aI (Eg b o e) bT) (aI (Eg b o e) bN)]; exact Eg b o e
 have dn:∀ d,d≠th->upd (upd H1 dS (HO.own th)) th (HO.ins T.aU dS []) d=none->H1 d=none:=fun d n e=>by
  rw [aj n] at e;by_cases z:d=dS
  ·rw [z,au] at e; cases e
  ·rw [aj z] at e; exact e
 have Ma:=dn nm hn1 bT;have MG:=dn pl iO bN;have EE:∀ d,H1 d=none->H d=none:=fun d e=>by rw [<- o1 d (sB (aI bu e))]; exact e
 simp only [DJ _ _ lN];refine ⟨oq (by omega),?_⟩;refine q th dS nm pl ks _ (EE _ aS) (EE _ Ma) (EE _ MG) ⟨⟨_,c+1,by rw [aj (sB dY)]; exact DJ _ _ bu,?_,dO⟩,au⟩ (by rw [aj (sB (aI lN aS))]; exact hth2) ko sk
  (by rw [aj (sB (aI lN Ma))]; exact hnm2) (by rw [aj (sB (aI lN MG))]; exact hpl2) (fun b o hb e=>?_)
 ·rw [ka (u:=.int c) ((sf _).trans rfl)]; exact aY
 ·simp only [mo,nn,xz,_v] at hb;rw [aj hb.2];exact DJ _ _ (iJ b o (by simp [hb.1]) e)
def AE:T.kG.k P w mg base 4 (Sk T.aL T.aU):=by
 refine T.kG.F.ok Wx (fun _ _ _ _ h=>xl h fun _ _ _ _ _=>rfl) fun ao A outer s H vs Q E hr h=>xl h fun x ow mi re h=>?_;obtain ⟨dt,ml,rs,at',gN,q⟩:=h;obtain ⟨fs,c,hx,aY,sf⟩:=at'.o;refine ⟨_,((ai (aK (bw T.cm T.kE.h (Cr T) hr.m T.kE.b .nil az (ac 0) (aa (dL (.str "folder") T.wN ⟨_,rfl⟩) (aa (ac 1) (aa (ac 2) (aa (ac 3) (aa al ae))))))))).h,?_⟩;refine stI [some (.ref x),some ow,some mi,some re] ?_;left;exact ⟨x,dt,fs,rfl,hx,(sf _).trans rfl,dt,ml,rs,at',gN,q⟩
def jU:aA P w K mg base (bI P w) 2 T.ed.f T.ed.d ["self","number"] (FE T.aH T.aL T.aU T.gR):=by
 refine T.ed.F.dJ Z5 (fun _ _ _ _ h=>xQ h fun _ _ _=>rfl) fun ao A outer s H vs Q E hr h=>xQ h fun x v h=>?_;obtain ⟨AA,L,M,i,rfl,ib,q1,q2⟩:=h;obtain ⟨fs,c,hx,aY,sf⟩:=i.t;refine ⟨_,((ad (aX (fF (ii (dW (bO (bi (Ju T) hr.m T.kQ.m T.kQ.F.kp T.kQ.b .nil az (aa (ac 1) ae)))) (iF (dW (wx lx CP am (ac 1) (bL (g9 (K:=K) rfl) T.g7 LT (aa (ap T.cm T.pP (ac 0)) ae))))))) (ai (mr mh rfl T.Hx T.XC (aa al ae))) bn)
 (ai (aK (ci (bD (K:=K) rfl) (ap T.cm T.pP (ac 0)) (ac 1)))))).h,?_⟩
 refine stI [some (.ref AA.t),some v] ?_;right;refine ⟨ib,?_⟩;cases v with
 | int n =>
  simp only [GJ,_F,IO,ZB];refine qo (fun h0=>?_) (fun h0=>aV ⟨fits (by simp),q2 fun j e=>?_⟩)
  ·have h0':0<=n:=LE h0;refine ⟨AA.t,_,_,.ref AA.ml,rfl,hx,(sf _).trans rfl,?_⟩;simp only [bj,i.ml,pp,i.len];obtain ⟨k,rfl⟩:=_M h0';by_cases hk:k < M.ts.length
   ·rw [wP (show (k:Int) < (M.ts.length:Int) by omega)];refine aQ ⟨AA.t,_,_,.ref AA.ml,rfl,hx,(sf _).trans rfl,?_⟩;simp only [bj,i.ml];have Mb:k < L.length:=by rw [i.len]; exact hk
    rw [mK (xs:=L.map fun a=>V.ref a.th) (j:=k) (by rw [Da,ss Mb]; rfl)];exact q1 k _ _ rfl (ss Mb) (ss hk)
   ·rw [pc (show ¬ (k:Int) < (M.ts.length:Int) by omega)];refine aV ⟨fits (by simp),q2 fun j e=>?_⟩;injection e with e;have:k=j:=by omega
    rw [<- this]; exact hk
  ·injection e with e;exact absurd (wP (show (0:Int)<=n by omega)) h0
 | _=>exact ⟨fits (by simp),q2 fun k e=>by cases e⟩
def QJ:T.uh.k P w mg base 1 (Lq T.aH T.aL T.aU Ad.t):=by
 refine T.uh.F.ok Uo (fun _ _ _ _ h=>dv h fun _ _=>rfl) fun ao A outer s H vs Q E hr h=>dv h fun x h=>?_;obtain ⟨AA,L,M,i,rfl,q⟩:=h;obtain ⟨fs,c,hx,aY,sf⟩:=i.t;refine ⟨_,((ai (aK (bL (g9 (K:=K) rfl) T.g7 LT (aa (ap T.cm T.pP (ac 0)) ae))))).h,?_⟩;refine stI [some (.ref AA.t)] ?_;left;refine ⟨AA.t,_,_,.ref AA.ml,rfl,hx,(sf _).trans rfl,?_⟩;simp only [bj,i.ml,pp,i.len];exact q
section
variable {T:Tx K mg} {H:Hp} {A:Ad} {L:List Ta} {M:Hs}
def kX {k:Nat} {a:Ta} {t:Th} {Q:VK} {E:XK} (i:aE T.aH T.aL T.aU H A L M) (ha:L[k]?=some a) (ht:M.ts[k]?=some t) (q:Q (.ref a.th) H):FE T.aH T.aL T.aU T.gR [.ref A.t,.int (k:Int)] H Q E :=
 ⟨A,L,M,i,rfl,⟨_,rfl⟩,fun j a' t' e h1 h2=>by
  injection e with e;have:k=j:=by omega
  subst this;rw [ha] at h1; cases h1;exact q,fun h=>absurd (sw.mp ht).1 (h k rfl)⟩
def fL {k:Nat} {a:Ta} {t:Th} (i:aE T.aH T.aL T.aU H A L M) (ha:L[k]?=some a) (ht:M.ts[k]?=some t):jB T.aU H a k t:=by
 obtain ⟨a',e,h⟩:=i.th k t ht;rw [ha] at e; cases e;exact h
end
def LI:T.nN.k P w mg base 3 (YL T.aH T.aL T.aU Ad.t):=by
 refine T.nN.F.ok RM (fun _ _ _ _ h=>qf h fun _ _ _ _=>rfl) fun ao A outer s H vs Q E hr h=>qf h fun x n z h=>?_;obtain ⟨AA,L,M,k,a,t,i,rfl,rfl,ha,aS,q⟩:=h;obtain ⟨fs,c,hx,aY,sf⟩:=i.h;obtain ⟨gs,c2,ht,eO,sg⟩:=i.t;have dG:=fL i ha aS;obtain ⟨ks,ho,ki,so⟩:=dG.o;refine ⟨_,((ai (aK (YU (dh hr) (ap T.ej T.wA (eE T.cm T.ed.h (jU T) hr.m T.ed.b .nil gW (ac 0) (aa (ac 1) ae))) (ac 2))))).h,?_⟩;refine stI [some (V.ref AA.t),some (V.int (k:Int)),some (V.str z)] ?_;left;refine (mI ht sg (kX i ha aS ⟨a.th,_,_,.ref a.nm,rfl,ho,(so _).trans rfl,a.nm,rfl,.inl ⟨_,.inl dG.nm⟩,_,eF.k (k:=.inr z) dG.nm,q⟩))
def aaU:T.tT.k P w mg base 3 (lb T.aH T.aL T.aU Ad.t Lh):=by
 refine T.tT.F.ok aaq (fun _ _ _ _ h=>c8 h fun _ _ _=>rfl) fun ao A outer s H vs Q E hr h=>c8 h fun x n h=>?_;obtain ⟨AA,L,M,k,a,t,i,rfl,rfl,ha,aS,q⟩:=h;obtain ⟨fs,c,hx,aY,sf⟩:=i.h;obtain ⟨gs,c2,ht,eO,sg⟩:=i.t;have dG:=fL i ha aS;obtain ⟨ks,ho,ki,so⟩:=dG.o;refine ⟨_,((ai (aK (Dv.minD rfl T.Hr (ap T.ej T.w8 (eE T.cm T.ed.h (jU T) hr.m T.ed.b .nil gW (ac 0) (aa (ac 1) ae))))))).h,?_⟩;refine stI [some (V.ref AA.t),some (V.int (k:Int))] ?_;left;refine (mI ht sg (kX i ha aS ⟨a.th,_,_,.ref a.pl,rfl,ho,(so _).trans rfl,a.pl,_,rfl,dG.pl,?_⟩));rcases q with ⟨e,q⟩ | ⟨f,z,e,q⟩
 ·rw [e]; exact .inl ⟨rfl,q⟩
 ·rw [e]; exact .inr ⟨_,_,rfl,q⟩
def B8:T.lB.k P w mg base 3 (lb T.aH T.aL T.aU Ad.a vA):=by
 refine T.lB.F.ok U9 (fun _ _ _ _ h=>c8 h fun _ _ _=>rfl) fun ao A outer s H vs Q E hr h=>c8 h fun x n h=>?_;obtain ⟨AA,L,M,k,a,t,i,rfl,rfl,ha,aS,q⟩:=h;obtain ⟨fs,c,hx,aY,sf⟩:=i.h;obtain ⟨gs,c2,ht,eO,sg⟩:=i.t;have dG:=fL i ha aS;obtain ⟨ks,ho,ki,so⟩:=dG.o;refine ⟨_,((ai (aK (ap T.ej T.C7 (eE T.cm T.ed.h (jU T) hr.m T.ed.b .nil gW (ap T.aO T.fv (ac 0)) (aa (ac 1) ae)))))).h,?_⟩;refine stI [some (V.ref AA.a),some (V.int (k:Int))] ?_;left;exact ⟨AA.a,_,_,.ref AA.t,rfl,hx,(sf _).trans rfl,AA.t,_,_,rfl,ht,(sg _).trans rfl,kX i ha aS (fI ho so rfl q)⟩
def zd:T.kN.k P w mg base 4 (lb T.aH T.aL T.aU Ad.a Lh):=by
 refine T.kN.F.ok aa5 (fun _ _ _ _ h=>c8 h fun _ _ _=>rfl) fun ao A outer s H vs Q E hr h=>c8 h fun x n h=>?_;obtain ⟨AA,L,M,k,a,t,i,rfl,rfl,ha,aS,q⟩:=h;obtain ⟨fs,c,hx,aY,sf⟩:=i.h;obtain ⟨gs,c2,ht,eO,sg⟩:=i.t;have dG:=fL i ha aS;obtain ⟨ks,ho,ki,so⟩:=dG.o;refine ⟨_,((ai (aK (bw T.cm T.tT.h (aaU T) hr.m T.tT.b .nil az (ap T.aO T.fv (ac 0)) (aa (ac 1) ae))))).h,?_⟩;refine stI [some (V.ref AA.a),some (V.int (k:Int))] ?_;left;exact ⟨AA.a,_,_,.ref AA.t,rfl,hx,(sf _).trans rfl,AA.t,_,_,rfl,ht,(sg _).trans rfl,AA,L,M,k,a,t,i,rfl,rfl,ha,aS,q⟩
def Uv:T.sN.k P w mg base 3 (lb T.aH T.aL T.aU Ad.a aby):=by
 refine T.sN.F.ok P1 (fun _ _ _ _ h=>c8 h fun _ _ _=>rfl) fun ao A outer s H vs Q E hr h=>c8 h fun x n h=>?_;obtain ⟨AA,L,M,k,a,t,i,rfl,rfl,ha,aS,q⟩:=h;obtain ⟨fs,c,hx,aY,sf⟩:=i.h;obtain ⟨gs,c2,ht,eO,sg⟩:=i.t;have dG:=fL i ha aS;obtain ⟨ks,ho,ki,so⟩:=dG.o;refine ⟨_,((ai (aW (eE T.cm T.ed.h (jU T) hr.m T.ed.b .nil gW (ap T.aO T.fv (ac 0)) (aa (ac 1) ae))))).h,?_⟩;refine stI [some (V.ref AA.a),some (V.int (k:Int))] ?_;left;exact ⟨AA.a,_,_,.ref AA.t,rfl,hx,(sf _).trans rfl,AA.t,_,_,rfl,ht,(sg _).trans rfl,kX i ha aS q⟩
def xh:T.jh.k P w mg base 2 (Lq T.aH T.aL T.aU Ad.a):=by
 refine T.jh.F.ok PM (fun _ _ _ _ h=>dv h fun _ _=>rfl) fun ao A outer s H vs Q E hr h=>dv h fun x h=>?_;obtain ⟨AA,L,M,i,rfl,q⟩:=h;obtain ⟨fs,c,hx,aY,sf⟩:=i.h;obtain ⟨gs,c2,ht,eO,sg⟩:=i.t;refine ⟨_,((ai (aK (my T.cm T.uh.h (QJ T) hr.m T.uh.b .nil az (ap T.aO T.fv (ac 0)))))).h,?_⟩;refine stI [some (V.ref AA.a)] ?_;left;exact ⟨AA.a,_,_,.ref AA.t,rfl,hx,(sf _).trans rfl,AA.t,_,_,rfl,ht,(sg _).trans rfl,AA,L,M,i,rfl,q⟩
section
variable {CH CS CT:Addr} {H:Hp} {A:Ad} {L:List Ta} {M:Hs}
def aE.vE (i:aE CH CS CT H A L M) {k:Nat} {a:Ta} (ha:L[k]?=some a):∀ b∈A.w,∀ c∈a.l,b≠c:=fun b hb c hc=>by
 have nd:=i.nd;rw [Id] at nd;exact nd.2.2 b hb c (kI ha hc)
def aE.aT (i:aE CH CS CT H A L M):A.a≠A.t:=by
 have nd:=i.nd;rw [Id] at nd;have:=(Do.mp nd.1).1;exact fun e=>this (by rw [e]; simp)
def GZ:∀ {L:List Ta} {k:Nat} {a:Ta},(L.flatMap Ta.l).Nodup->L[k]?=some a->a.l.Nodup
 | c::r,0,a,nd,h=>by
  rw [ST,Id] at nd;simp only [List.getElem?_cons_zero,Option.some.injEq] at h;subst h; exact nd.1
 | c::r,k+1,a,nd,h=>by
  rw [ST,Id] at nd;simp only [List.getElem?_cons_succ] at h;exact GZ nd.2.1 h
def aE.own (i:aE CH CS CT H A L M) {k:Nat} {a:Ta} (ha:L[k]?=some a):a.th≠a.nm/\a.th≠a.pl/\a.nm≠a.pl:=by
 have nd:=i.nd;rw [Id] at nd;have:=GZ nd.2.1 ha;simp only [Ta.l,Do,mo,nn,xz,_v,_R,_P,and_true] at this;exact ⟨this.1.1,this.1.2,this.2⟩
end
def Qf (CH CS CT:Addr):Sp:=xq fun x n z H Q _=>X6 fun A L M (k:Nat) a t=>A7 (aE CH CS CT H A L M) (A.t=x) (n=(k:Int)) (L[k]?=some a) (M.ts[k]?=some t) (aG (sD t.aR) (.inr z)=none) (Q .aw H)
def abm:T.rY.k P w mg base 4 (Qf T.aH T.aL T.aU):=by
 refine T.rY.F.ok Jk (fun _ _ _ _ h=>qf h fun _ _ _ _=>rfl) fun ao A outer s H vs Q E hr h=>qf h fun x n z h=>?_;obtain ⟨AA,L,M,k,a,t,i,rfl,rfl,ha,aS,hv,q⟩:=h;obtain ⟨gs,c2,ht,eO,sg⟩:=i.t;refine ⟨_,((ad (aP 3 Jk.nd (bw T.cm T.nN.h (LI T) hr.m T.nN.b .nil az (ac 0) (aa (ac 1) (aa (ac 2) ae))))
 (ai (aX (bB CK (ac 3) aw) (ad i0
 (ad i0
 (ai i0))) bn)))).h,?_⟩
 refine stI [some (V.ref AA.t),some (V.int (k:Int)),some (V.str z),none] ?_;right;refine (mI ht sg ⟨AA,L,M,k,a,t,i,rfl,rfl,ha,aS,?_⟩);rw [hv];refine ⟨by trivial,?_⟩;exact aQ q
def aaD (CH CS CT:Addr):Sp:=Jl fun x fn z kn H Q _=>X9 fun A L M (f:Nat) (k:Nat) af tf ak tk=>BH (aE CH CS CT H A L M) (A.t=x) (fn=(f:Int)) (kn=(k:Int)) (L[f]?=some af) (M.ts[f]?=some tf) (L[k]?=some ak) (M.ts[k]?=some tk) (f≠k) (aG (sD tf.aR) (.inr z)=none) (tf.aR.length<=500) (tk.cQ=[]) (∀ H',aE CH CS CT H' A L { M with ts:=(M.ts.set f { tf with aR:=tf.aR++[(z,k)] }).set k { tk with cQ:=[(f,z)] } }->Kp [A.t,af.nm,ak.pl] H H'->Q .aw H')
def CJ {l:List (Str×Nat)} {z:Str} {k:Nat} (h:aG (sD l) (.inr z)=none):putK (sD l) (.inr z) (.int (k:Int))=sD (l++[(z,k)]):=by
 have e:((sD l).any fun kv=>decide (kv.1=(Sum.inr z:Key)))=false:=by rw [xK,h]; rfl
 unfold putK;rw [e];simp [sD]
def Yp:T.rZ.k P w mg base 5 (aaD T.aH T.aL T.aU):=by
 refine T.rZ.F.ok xg (fun _ _ _ _ h=>KY h fun _ _ _ _ _=>rfl) fun ao A outer s H vs Q E hr h=>KY h fun x fn z kn h=>?_;obtain ⟨AA,L,M,f,k,af,tf,ak,tk,i,rfl,rfl,rfl,iM,cY,gM,eP,hfk,hv,uY,bN,q⟩:=h;obtain ⟨fs,c,hx,aY,sf⟩:=i.h;obtain ⟨gs,c2,ht,eO,sg⟩:=i.t;have LR:=fL i gM eP;obtain ⟨ks,ho,ki,so⟩:=LR.o;refine ⟨_,((ad (aP 4 xg.nd (eE T.cm T.ed.h (jU T) hr.m T.ed.b .nil gW (ac 0) (aa (ac 3) ae)))
 (ad (mJ T.cm T.Bf mV (ac 0) am)
 (ad (aW (bw T.cm T.rY.h (abm T) hr.m T.rY.b .nil az (ac 0) (aa (ac 1) (aa (ac 2) ae))))
 (ad (aX (bB iG (ap T.ej T.C7 (ac 4)) (dL (.str "file") T.Ct ⟨_,rfl⟩)) (ai (xu WF rfl (jV (K:=K) rfl (wV (Uh rfl) T.tH GB (aa (ap T.ej T.w8 (ac 4)) ae))) (acF (K:=K) (n:=2) rfl rfl (Kv (gq 5 xg.nd) (Kv (gq 6 xg.nd) Yy))) (ai i0))) bn)
 (ad (sE (dh hr) (ap T.ej T.wA (eE T.cm T.ed.h (jU T) hr.m T.ed.b .nil gW (ac 0) (aa (ac 1) ae))) (ac 2) (ac 3))
 (ai (sE (dh hr) (ap T.ej T.w8 (ac 4)) (em (aa (ac 1) (aa (ac 2) ae))) f8)))))))).h,?_⟩
 refine stI [some (V.ref AA.t),some (V.int (f:Int)),some (V.str z),some (V.int (k:Int)),none,none,none] ?_;right;refine (mI ht sg (kX i gM eP ?_));right;refine ⟨AA.t,_,_,.int c2,rfl,ht,(sg _).trans rfl,_,_,rfl,rfl,_,_,ht,by omega,ah ?_⟩;have tn:∀ b∈ak.l,AA.t≠b:=i.vE gM _ (by simp [Ad.w]);have i1:aE T.aH T.aL T.aU (upd H AA.t (.ins T.aL AA.dt (ax "changes" (.int (c2+1)) gs))) AA L M:=by
  have w:=i.write (H':=upd H AA.t (.ins T.aL AA.dt (ax "changes" (.int (c2+1)) gs))) (t':=tk) gM ⟨fs,c,by rw [aj i.aT]; exact hx,aY,sf⟩ ⟨_,c2+1,au,by rw [ka (u:=.int c2) ((sg _).trans rfl)]; exact eO,fun f=>by rw [(sg.put "changes" (.int (c2+1))) f]; rfl⟩
   (LR.keep (W:=[AA.t]) (fun b o hb e=>by rw [aj (fun z=>hb (by simp [z]))]; exact e) fun b hb=>by simp [sB (tn b hb)]) (fun b o hb e=>by simp only [mo,nn,xz,_v] at hb; rw [aj hb.2.1]; exact e)
  have e:M.ts.set k tk=M.ts:=by
   apply List.ext_getElem?;intro j;by_cases hj:k=j
   ·subst hj; rw [NE (sw.mp eP).1,eP]
   ·rw [No hj]
  rw [e] at w;exact w
 have iJ:Kp [AA.t] H (upd H AA.t (.ins T.aL AA.dt (ax "changes" (.int (c2+1)) gs))):=fun b o hb e=>by rw [aj (fun z=>hb (by simp [z]))]; exact e
 generalize upd H AA.t (.ins T.aL AA.dt (ax "changes" (.int (c2+1)) gs))=H1 at i1 iJ ⊢;obtain ⟨gs1,c3,iL,M6,Eu⟩:=i1.t;have NG:=fL i1 gM eP;have ithf1:=fL i1 iM cY;obtain ⟨ks1,NZ,hol1,Mi⟩:=NG.o;obtain ⟨iK,hf1,jo,dO⟩:=ithf1.o;left;refine (mI iL Eu ⟨AA,L,M,f,af,tf,i1,rfl,rfl,iM,cY,hv,?_⟩);refine ck (fun σ' H'=>ag H1 H'/\∃ t5 t6,σ'=[some (V.ref AA.t),some (V.int (f:Int)),some (V.str z),some (V.int (k:Int)),some (.ref ak.th),t5,t6]) ?_ ?_
 ·left;refine (fI NZ Mi rfl ?_);refine qo (fun _=>?_) (fun _=>⟨ag.refl _,_,_,rfl⟩);refine (fI NZ Mi rfl ?_);have Ea:H1 ak.pl=some (.dT []):=by have:=NG.pl; rw [bN] at this; exact this
  refine ⟨ak.pl,_,rfl,Ea,?_⟩;intro l ks hk _ hl;have Ew:ks=[]:=_k.mp hk;subst Ew;refine ⟨⟨_,aD.of au⟩,wI (xs:=[]) (fun _ σ' H'=>H'=upd H1 l (.lst [])/\σ'=[some (V.ref AA.t),some (V.int (f:Int)),some (V.str z),some (V.int (k:Int)),some (.ref ak.th),none,none]) ⟨rfl,rfl⟩ (fun _ σ' H' _ h=>by rw [h.1]; exact aD.of au) (fun j x σ' H' hx _=>by simp at hx) (fun σ' H' h=>?_)⟩;obtain ⟨rfl,rfl⟩:=h;exact ⟨ag.upd hl,_,_,rfl⟩
 ·rintro σ' H2 ⟨s2,t5,t6,rfl⟩;have i2:=i1.same s2;obtain ⟨gs2,c4,nk,hgl2,Mw⟩:=i2.t;obtain ⟨ng,d2,cz,hxl2,sx2⟩:=i2.h;have Fc:=fL i2 iM cY;obtain ⟨kf,MW,jr,cB⟩:=Fc.o;have Nl:=i2.own iM;have Mt:=i2.own gM;have NJ:=i2.vE iM;have NM:=i2.vE gM;right;refine (mI nk Mw (kX i2 iM cY ⟨af.th,_,_,.ref af.nm,rfl,MW,(cB _).trans rfl,af.nm,_,rfl,jj.k (k:=.inr z) Fc.nm (oq (by unfold sD; rw [pp]; omega)),?_⟩));rw [CJ hv];have i3:aE T.aH T.aL T.aU (upd H2 af.nm (.dK (sD (tf.aR++[(z,k)])))) AA L { M with ts:=M.ts.set f { tf with aR:=tf.aR++[(z,k)] } }:=by
   refine i2.write iM ⟨ng,d2,by rw [aj (NJ _ (by simp [Ad.w]) _ (by simp [Ta.l]))]; exact cz,hxl2,sx2⟩ ⟨gs2,c4,by rw [aj (NJ _ (by simp [Ad.w]) _ (by simp [Ta.l]))]; exact nk,hgl2,Mw⟩ ⟨⟨kf,by rw [aj Nl.1]; exact MW,jr,cB⟩,au,by rw [aj (sB Nl.2.2)]; exact Fc.pl⟩ (fun b o hb e=>?_);simp only [mo,nn,xz,_v] at hb;rw [aj hb.2.2.2.1]; exact e
  have MY:Kp [AA.t,af.nm] H (upd H2 af.nm (.dK (sD (tf.aR++[(z,k)])))):=fun b o hb e=>by
   simp only [mo,nn,xz,_v] at hb;rw [aj hb.2];exact s2 _ _ (iJ b o (by simp [hb.1]) e)
  generalize upd H2 af.nm (.dK (sD (tf.aR++[(z,k)])))=H3 at i3 MY ⊢;have MC:(M.ts.set f { tf with aR:=tf.aR++[(z,k)] })[k]?=some tk:=by rw [No hfk]; exact eP
  have ithk3:=fL i3 gM MC;obtain ⟨ks3,ho3,hol3,so3⟩:=ithk3.o;left;refine ⟨ak.th,_,_,.ref ak.pl,rfl,ho3,(so3 _).trans rfl,fits (by simp),fun p hp=>?_⟩;refine eY hp fun H4 s4 b4=>?_;have i4:=i3.same s4;have Fh:=fL i4 gM MC;obtain ⟨ks4,ho4,hol4,so4⟩:=Fh.o;obtain ⟨gs4,c5,ht4,hgl4,sg4⟩:=i4.t;obtain ⟨hs4,d4,gB,hxl4,sx4⟩:=i4.h;have hpl4:H4 ak.pl=some (.dT []):=by have:=Fh.pl; rw [bN] at this; exact this
  refine ⟨ak.pl,_,rfl,jj.t (k:=[.inl (f:Int),.inr z]) hpl4 b4 (by decide),?_⟩;refine q _ (i4.write gM ⟨hs4,d4,by rw [aj (NM _ (by simp [Ad.w]) _ (by simp [Ta.l]))]; exact gB,hxl4,sx4⟩ ⟨gs4,c5,by rw [aj (NM _ (by simp [Ad.w]) _ (by simp [Ta.l]))]; exact ht4,hgl4,sg4⟩ ⟨⟨ks4,by rw [aj Mt.2.1]; exact ho4,hol4,so4⟩,by rw [aj Mt.2.2]; exact Fh.nm,au⟩ (fun b o hb e=>?_)) (fun b o hb e=>?_)
  ·simp only [mo,nn,xz,_v] at hb;rw [aj hb.2.2.2.2]; exact e
  ·simp only [mo,nn,xz,_v] at hb;rw [aj hb.2.2];exact s4 _ _ (MY b o (by simp [hb.1,hb.2.1]) e)
def F9 (CH:Addr) (fld:Str):Sp:=rX fun x z n H Q _=>X5 fun dx fs c d kvs=>A7 (H x=some (.ins CH dx fs)) (fs.length<=40) (fs.lookup ("changes" : Str)=some (.int c)) (fs.lookup fld=some (.ref d)) (H d=some (.dK kvs)) (kvs.length<=40) (Q .aw (upd (upd H x (.ins CH dx (ax "changes" (.int (c+1)) fs))) d (.dK (putK kvs (.inr z) (.int n)))))
def acr (CH:Addr):Sp:=jN fun x z H Q _=>X7 fun dx fs c ro st kr ks=>JQ (H x=some (.ins CH dx fs)) (fs.length<=40) (fs.lookup ("changes" : Str)=some (.int c)) (fs.lookup ("roots" : Str)=some (.ref ro)) (fs.lookup ("standings" : Str)=some (.ref st)) (fs.lookup ("first_root" : Str)=some (.int 0)) (fs.lookup ("put_root" : Str)=none) (fs.lookup ("put_standing" : Str)=none) (H ro=some (.dK kr)) (kr.length<=40) (H st=some (.dK ks)) (ks.length<=40) (ro≠st) (∀ fs' c' H',H' x=some (.ins CH dx fs')->fs'.length<=40->dN fs' (ax "changes" (.int c') fs)->H' ro=some (.dK (putK kr (.inr z) (.int 0)))->H' st=some (.dK (putK ks (.inr z) (.int 0)))->(∀ b,b≠x->b≠ro->b≠st->H' b=H b)->Q .aw H')
def Yl:T.tM.k P w mg base 1 (F9 T.aH "roots"):=by
 refine T.tM.F.ok Oq (fun _ _ _ _ h=>jY h fun _ _ _ _=>rfl) fun ao A outer s H vs Q E hr h=>jY h fun x z n h=>?_;obtain ⟨dx,fs,c,d,kvs,hx,aY,hc,hd,hD,ko,q⟩:=h;refine ⟨_,((ad (mJ T.aO T.vQ mV (ac 0) am)
 (ai (sE (dh hr) (ap T.aO T.sP (ac 0)) (ac 1) (ac 2))))).h,?_⟩
 refine stI [some (V.ref x),some (V.str z),some (V.int n)] ?_;have dY:d≠x:=fun e=>by rw [e,hx] at hD; cases hD
 right;refine ⟨x,dx,fs,.int c,rfl,hx,hc,_,_,rfl,rfl,dx,fs,hx,by omega,?_⟩;left;refine ⟨x,dx,_,.ref d,rfl,au,by rw [eX,xL (by decide)]; exact hd,d,_,rfl,jj.k (k:=.inr z) (by rw [aj dY]; exact hD) (oq (by omega)),q⟩
def VB:T.uB.k P w mg base 1 (F9 T.aH "standings"):=by
 refine T.uB.F.ok Vd (fun _ _ _ _ h=>jY h fun _ _ _ _=>rfl) fun ao A outer s H vs Q E hr h=>jY h fun x z n h=>?_;obtain ⟨dx,fs,c,d,kvs,hx,aY,hc,hd,hD,ko,q⟩:=h;refine ⟨_,((ad (mJ T.aO T.vQ mV (ac 0) am)
 (ai (sE (dh hr) (ap T.aO T.zr (ac 0)) (ac 1) (ac 2))))).h,?_⟩
 refine stI [some (V.ref x),some (V.str z),some (V.int n)] ?_;have dY:d≠x:=fun e=>by rw [e,hx] at hD; cases hD
 right;refine ⟨x,dx,fs,.int c,rfl,hx,hc,_,_,rfl,rfl,dx,fs,hx,by omega,?_⟩;left;refine ⟨x,dx,_,.ref d,rfl,au,by rw [eX,xL (by decide)]; exact hd,d,_,rfl,jj.k (k:=.inr z) (by rw [aj dY]; exact hD) (oq (by omega)),q⟩
def IA:T.n9.k P w mg base 2 (acr T.aH):=by
 refine T.n9.F.ok ab3 (fun _ _ _ _ h=>fk h fun _ _ _=>rfl) fun ao A outer s H vs Q E hr h=>fk h fun x z h=>?_;obtain ⟨dx,fs,c,ro,st,kr,ks,hx,aY,hc,h9,aM,lQ,DO,cg,DN,hkr,EG,Ew,Nj,q⟩:=h;refine ⟨_,((ad (aW (bw T.aO T.tM.h (Yl T) hr.m T.tM.b .nil az (ac 0) (aa (ac 1) (aa (ap T.aO T.zf (ac 0)) ae))))
 (ai (aW (bw T.aO T.uB.h (VB T) hr.m T.uB.b .nil az (ac 0) (aa (ac 1) (aa (ap T.aO T.zf (ac 0)) ae))))))).h,?_⟩
 refine stI [some (V.ref x),some (V.str z)] ?_;have n1:ro≠x:=fun e=>by rw [e,hx] at DN; cases DN
 have n2:st≠x:=fun e=>by rw [e,hx] at EG; cases EG
 right;refine ⟨x,dx,fs,rfl,hx,DO,x,dx,fs,.int 0,rfl,hx,lQ,?_⟩;refine ⟨dx,fs,c,ro,kr,hx,by omega,hc,h9,DN,hkr,?_⟩;have bu:upd (upd H x (.ins T.aH dx (ax "changes" (.int (c+1)) fs))) ro (.dK (putK kr (.inr z) (.int 0))) x=some (.ins T.aH dx (ax "changes" (.int (c+1)) fs)):=by rw [aj (sB n1),au]
 have hJ:upd (upd H x (.ins T.aH dx (ax "changes" (.int (c+1)) fs))) ro (.dK (putK kr (.inr z) (.int 0))) ro=some (.dK (putK kr (.inr z) (.int 0))):=au;have LZ:upd (upd H x (.ins T.aH dx (ax "changes" (.int (c+1)) fs))) ro (.dK (putK kr (.inr z) (.int 0))) st=some (.dK ks):=by rw [aj (sB Nj),aj n2]; exact EG
 have o1:∀ b,b≠x->b≠ro->upd (upd H x (.ins T.aH dx (ax "changes" (.int (c+1)) fs))) ro (.dK (putK kr (.inr z) (.int 0))) b=H b:=fun b b1 b2=>by rw [aj b2,aj b1]
 generalize upd (upd H x (.ins T.aH dx (ax "changes" (.int (c+1)) fs))) ro (.dK (putK kr (.inr z) (.int 0)))=H1 at bu hJ LZ o1 ⊢;have lk:∀ f:Str,f ≠ "changes" -> (ax "changes" (.int (c+1)) fs).lookup f=fs.lookup f:=fun f hf=>by rw [eX,xL hf]
 left;refine ⟨x,dx,_,rfl,bu,(lk _ (by decide)).trans cg,x,dx,_,.int 0,rfl,bu,(lk _ (by decide)).trans lQ,?_⟩;refine ⟨dx,_,c+1,st,ks,bu,by rw [ka hc]; exact aY,by rw [eX,AC rfl],(lk _ (by decide)).trans aM,LZ,Ew,?_⟩;refine q _ (c+1+1) _ (by rw [aj (sB n2),au]) (by rw [ka (u:=.int (c+1)) (by rw [eX,AC rfl]),ka hc]; exact aY) (fun f=>?_) (by rw [aj Nj,aj n1]; exact hJ) au (fun b b1 b2 b3=>by rw [aj b3,aj b1]; exact o1 b b1 b2);rw [eX,eX,eX];by_cases e:f = "changes"
 ·rw [AC e,AC e]
 ·rw [xL e,xL e,xL e]
def WI (CH CS CT:Addr):Sp:=we fun x m own H Q _=>A2 (m = "main") (X7 fun dx fs c t dt ml tr=>A9 (H x=some (.ins CH dx fs)) (fs.length<=40) (fs.lookup ("things" : Str)=some (.ref t)) (fs.lookup ("changes" : Str)=some (.int c)) (fs.lookup ("tree_roots" : Str)=some (.ref tr)) (fs.lookup ("add_folder" : Str)=none) (kH CS H t dt ml []) (H tr=some (.dK [])) (∀ th dS nm pl fs' ks c' H',H th=none->H nm=none->H pl=none->H' x=some (.ins CH dx fs')->fs'.length<=fs.length->dN fs' (ax "changes" (.int c') fs)->kH CS H' t dt ml [.ref th]->H' th=some (.ins CT dS ks)->ks.length<=40 ->
    dN ks (uP (.int 0) (.str "folder") (.str own) (.str "lgw") (.str "lg") (.str "") (.ref nm) (.ref pl))->H' nm=some (.dK [])->H' pl=some (.dT [])->H' tr=some (.dK [(.inr "main",.int 0)])->Kp [x,t,ml,tr] H H'->Q (.int 0) H'))
def Zi:T.uo.k P w mg base 5 (WI T.aH T.aL T.aU):=by
 refine T.uo.F.ok K1 (fun _ _ _ _ h=>rm h fun _ _ _ _=>rfl) fun ao A outer s H vs Q E hr h=>rm h fun x m own h=>?_;obtain ⟨rfl,dx,fs,c,t,dt,ml,tr,hx,aY,aS,hc,nh,iM,rp,kh,q⟩:=h;obtain ⟨gs,d,ht,eO,sg⟩:=rp.o;have fA:=rp.ml;refine ⟨_,((ad (aP 3 K1.nd (bw T.cm T.kG.h (AE T) hr.m T.kG.b .nil az (ap T.aO T.fv (ac 0)) (aa (ac 2) (aa al (aa al ae)))))
 (ad (mJ T.aO T.vQ mV (ac 0) am)
 (ad (sE (dh hr) (ap T.aO T.IU (ac 0)) (ac 1) (ac 3))
 (ai (aK (ac 3))))))).h,?_⟩
 refine stI [some (V.ref x),some (V.str "main"),some (V.str own),none] ?_;have n1:t≠x\/True:=.inr trivial;right;refine ⟨x,dx,fs,.ref t,rfl,hx,aS,t,dt,gs,rfl,ht,(sg _).trans rfl,?_⟩;refine ⟨dt,ml,[],rp,by simp,?_⟩;intro th dS nm pl ks H1 fth fnm fpl at1 hth1 hkl1 sk1 hnm1 Ea iJ;obtain ⟨gs',d',iL,M6,Eu⟩:=at1.o;have lN:=at1.ml;have kO:x≠t:=fun e=>by
  rw [e,ht] at hx;injection hx with hx;injection hx with _ _ lL;rw [<- lL] at aS;have:=(sg "things").symm.trans aS;cases this
 have Nh:x≠ml:=fun e=>by rw [e,fA] at hx; cases hx
 have N0:tr≠t:=fun e=>by rw [e,ht] at kh; cases kh
 have MM:tr≠ml:=fun e=>by rw [e,fA] at kh; cases kh
 have Mg:tr≠x:=fun e=>by rw [e,hx] at kh; cases kh
 have bu:H1 x=some (.ins T.aH dx fs):=iJ _ _ (by simp [kO,Nh]) hx;have hTr1:H1 tr=some (.dK []):=iJ _ _ (by simp [N0,MM]) kh;right;refine ⟨x,dx,fs,.int c,rfl,bu,hc,_,_,rfl,rfl,dx,fs,bu,by omega,ah ?_⟩;left;refine ⟨x,dx,_,.ref tr,rfl,au,by rw [eX,xL (by decide)]; exact nh,tr,_,rfl,jj.k (k:=.inr "main") (by rw [aj Mg]; exact hTr1) (by decide),?_⟩;left;have old:∀ b o,H1 b=some o->b≠x->b≠tr->upd (upd H1 x (.ins T.aH dx (ax "changes" (.int (c+1)) fs))) tr (.dK (putK [] (.inr "main") (.int 0))) b=some o:=fun b o e b1 b2=>by rw [aj b2,aj b1]; exact e
 have NK:th≠x/\th≠tr:=⟨sB (aI hx fth),sB (aI kh fth)⟩;have Mf:nm≠x/\nm≠tr:=⟨sB (aI hx fnm),sB (aI kh fnm)⟩;have M9:pl≠x/\pl≠tr:=⟨sB (aI hx fpl),sB (aI kh fpl)⟩;refine q th dS nm pl _ ks (c+1) _ fth fnm fpl (by rw [aj (sB Mg),au]) (Nat.le_of_eq (ka hc)) (dN.refl _) ⟨⟨gs',d',old _ _ iL (sB kO) (sB N0),M6,Eu⟩,old _ _ lN (sB Nh) (sB MM)⟩ (old _ _ hth1 NK.1 NK.2) hkl1 sk1 (old _ _ hnm1 Mf.1 Mf.2) (old _ _ Ea M9.1 M9.2) au ?_;intro b o hb e;simp only [mo,nn,xz,_v] at hb;exact old _ _ (iJ b o (by simp [hb.2.1,hb.2.2.1]) e) hb.1 hb.2.2.2
def lA:aA P w K mg base (bI P w) 1 T.eC.f T.eC.d ["self","asker"] (II T.aH T.aL T.aU T.bY):=by
 refine T.eC.F.dJ abc (fun _ _ _ _ h=>xQ h fun _ _ _=>rfl) fun ao A outer s H vs Q E hr h=>xQ h fun x v h=>?_;obtain ⟨AA,L,M,i,rfl,⟨ty,cy⟩,q1,q2⟩:=h;obtain ⟨fs,c,hx,aY,sf⟩:=i.h;refine ⟨_,((ai (aX (fF (ii (dW (bO (bL iR T.dm dE (aa (ac 1) (aa (iB (.ty "str") T.lI lH rfl) ae))))) (iF (RP (dh hr) (ac 1) (ap T.aO T.sP (ac 0)))))) (ai (mr mh rfl T.JI T.Po (aa al ae))) bn))).h,?_⟩;refine stI [some (V.ref AA.a),some v] ?_;left;simp only [cy,qc cy];refine ⟨kY _ rfl,?_⟩;cases v with
 | str z =>
  simp only [nA,_F,IO,ZB];refine ⟨AA.a,_,_,.ref AA.ro,rfl,hx,(sf _).trans rfl,AA.ro,_,rfl,eF.k (k:=.inr z) i.ro,?_⟩;cases hz:aG (sD M.ro) (.inr z) with
  | none=>exact aV ⟨fits (by simp),q2 fun z' e=>by cases e; exact hz⟩
  | some u=>exact aQ (q1 z rfl (by rw [hz]; rfl))
 | _=>exact ⟨fits (by simp),q2 fun z' e=>by cases e⟩
section
variable {T:Tx K mg} {H:Hp} {A:Ad} {L:List Ta} {M:Hs}
def iW {z:Str} {Q:VK} {E:XK} (i:aE T.aH T.aL T.aU H A L M) (hz:(aG (sD M.ro) (.inr z)).isSome=true) (q:Q .aw H):II T.aH T.aL T.aU T.bY [.ref A.a,.str z] H Q E :=
 ⟨A,L,M,i,rfl,⟨_,rfl⟩,fun _ _ _=>q,fun h=>by rw [h z rfl] at hz; cases hz⟩
end
def Ds:T.kK.k P w mg base 2 (TV T.aH T.aL T.aU):=by
 refine T.kK.F.ok Qd (fun _ _ _ _ h=>fk h fun _ _ _=>rfl) fun ao A outer s H vs Q E hr h=>fk h fun x z h=>?_;obtain ⟨AA,L,M,r,i,rfl,hz,q⟩:=h;obtain ⟨fs,c,hx,aY,sf⟩:=i.h;refine ⟨_,((ad (aW (eE T.aO T.eC.h (lA T) hr.m T.eC.b .nil gW (ac 0) (aa (ac 1) ae)))
 (ai (aK (fH (dh hr) (ap T.aO T.sP (ac 0)) (ac 1)))))).h,?_⟩
 refine stI [some (V.ref AA.a),some (V.str z)] ?_;right;refine (mI hx sf (iW i (by rw [hz]; rfl) ?_));refine ⟨AA.a,_,_,.ref AA.ro,rfl,hx,(sf _).trans rfl,AA.ro,.int r,rfl,?_,q⟩;have:=eF.k (k:=.inr z) i.ro;rw [hz] at this;exact this
def OV (CH CS CT:Addr):Sp:=jN fun x z H Q _=>X4 fun A L M (r:Nat)=>A5 (aE CH CS CT H A L M) (A.a=x) ((aG (sD M.ro) (.inr z)).isSome=true) (aG (sD M.st) (.inr z)=some (.int r)) (Q (.int r) H)
def QD:T.sX.k P w mg base 2 (OV T.aH T.aL T.aU):=by
 refine T.sX.F.ok Qa (fun _ _ _ _ h=>fk h fun _ _ _=>rfl) fun ao A outer s H vs Q E hr h=>fk h fun x z h=>?_;obtain ⟨AA,L,M,r,i,rfl,hzr,hz,q⟩:=h;obtain ⟨fs,c,hx,aY,sf⟩:=i.h;refine ⟨_,((ad (aW (eE T.aO T.eC.h (lA T) hr.m T.eC.b .nil gW (ac 0) (aa (ac 1) ae)))
 (ai (aK (fH (dh hr) (ap T.aO T.zr (ac 0)) (ac 1)))))).h,?_⟩
 refine stI [some (V.ref AA.a),some (V.str z)] ?_;right;refine (mI hx sf (iW i hzr ?_));refine ⟨AA.a,_,_,.ref AA.st,rfl,hx,(sf _).trans rfl,AA.st,.int r,rfl,?_,q⟩;have:=eF.k (k:=.inr z) i.st;rw [hz] at this;exact this
def zW:T.kS.k P w mg base 4 (Pm T.aH T.aL T.aU):=by
 refine T.kS.F.ok Zb (fun _ _ _ _ h=>qf h fun _ _ _ _=>rfl) fun ao A outer s H vs Q E hr h=>qf h fun x n z h=>?_;obtain ⟨AA,L,M,k,a,t,i,rfl,rfl,ha,aS,hn,hl,q⟩:=h;refine ⟨_,((ad (aW (bi (Bg T) hr.m T.iy.m T.iy.F.kp T.iy.b .nil az (aa (ac 2) ae)))
 (ai (aK (bw T.cm T.nN.h (LI T) hr.m T.nN.b .nil az (ap T.aO T.fv (ac 0)) (aa (ac 1) (aa (ac 2) ae))))))).h,?_⟩
 refine stI [some (V.ref AA.a),some (V.int (k:Int)),some (V.str z)] ?_;right;refine ⟨⟨_,rfl⟩,hl,hn,fun H1 s1=>?_⟩;have i1:=i.same s1;obtain ⟨fs,c,hx,aY,sf⟩:=i1.h;obtain ⟨gs,c2,ht,eO,sg⟩:=i1.t;exact ⟨AA.a,_,_,.ref AA.t,rfl,hx,(sf _).trans rfl,AA.t,_,_,rfl,ht,(sg _).trans rfl,AA,L,M,k,a,t,i1,rfl,rfl,ha,aS,q H1 s1⟩
def Jv:aA P w K mg base (bI P w) 3 T.oj.f T.oj.d ["self","asker","number","right"] (J5 T.aH T.aL T.aU T.bY T.cb T.gR):=by
 refine T.oj.F.dJ T6 (fun _ _ _ _ h=>xl h fun _ _ _ _ _=>rfl) fun ao A outer s H vs Q E hr h=>xl h fun x wv v r h=>?_;obtain ⟨AA,L,M,i,rfl,hcw,hcv,hcr,q1,q2⟩:=h;obtain ⟨fs,c,hx,aY,sf⟩:=i.h;obtain ⟨gs,c2,ht,eO,sg⟩:=i.t;refine ⟨_,((ad (aW (eE T.aO T.eC.h (lA T) hr.m T.eC.b .nil bS (ac 0) (aa (ac 1) ae)))
 (ad (aW (cL (Tg T) hr.m T.pA.m T.pA.F.kp T.pA.b .nil bS (aa (ac 3) ae)))
 (ai (aK (gl (zD (K:=K) rfl) (ac 3) (bw T.ej T.uI.h (QU T) hr.m T.uI.b .nil az (eE T.cm T.ed.h (jU T) hr.m T.ed.b .nil bS (ap T.aO T.fv (ac 0)) (aa (ac 2) ae)) (aa (ac 1) ae)))))))).h,?_⟩
 refine stI [some (V.ref AA.a),some wv,some v,some r] ?_;right;refine (mI hx sf ⟨AA,L,M,i,rfl,hcw,fun z ez hz=>?_,q1⟩);obtain ⟨q3,q4⟩:=q2 z ez hz;subst ez;right;refine ⟨hcr,fun h1=>?_,q3⟩;obtain ⟨st,rfl⟩:∃ st,r=.str st:=by
  unfold j0 at h1;simp only [Bool.or_eq_true,Os] at h1;rcases h1 with (h1 | h1) | h1 <;> exact ⟨_,h1⟩
 obtain ⟨q5,q6⟩:=q4 st rfl h1;refine ⟨AA.a,_,_,.ref AA.t,rfl,hx,(sf _).trans rfl,AA.t,_,_,rfl,ht,(sg _).trans rfl,AA,L,M,i,rfl,hcv,fun k a t ev ha aS=>?_,q5⟩;have dG:=fL i ha aS;obtain ⟨ks,ho,ki,so⟩:=dG.o;exact (mI ho so ⟨a,k,t,dG,rfl,q6 k t ev aS⟩)
def M0 (z:Str):Hs:={ ts:=[{ kd := "folder",ow:=z,mi := "lgw",re := "lg",tx := "",aR:=[],cQ:=[] }],ro:=[(z,0)],st:=[(z,0)],tr:=[("main",0)],ov:=[],un:=[] }
def Tf (CH CS CT:Addr):Sp:=jN fun x z H Q _=>A4 (∃ dx,H x=some (.ins CH dx [])) (z.length<=1000) (fG (.str z)=true) (∀ A L H',A.a=x->aE CH CS CT H' A L (M0 z)->(∀ b∈A.w++L.flatMap Ta.l,b≠x->H b=none)->Kp [x] H H'->Q .aw H')
structure jb (C dx x:Addr) (H H':Hp) (F:List (Str×V)) (W:List (Addr×HO)):Prop where
 k:Kp [x] H H'
 h:H' x=some (.ins C dx F)
 w:∀ e∈W,H' e.1=some e.2/\H e.1=none/\e.1≠x
 n:(W.map (·.1)).Nodup
section
variable {C dx x:Addr} {H H':Hp} {F:List (Str×V)} {W:List (Addr×HO)}
def jb.fresh (v:jb C dx x H H' F W) {p:Addr} (hp:H' p=none):H p=none/\p≠x:=by
 have hx:p≠x:=sB (aI v.h hp);refine ⟨?_,hx⟩;cases e:H p with
 | none=>rfl
 | some o=>rw [v.k p o (by simp [hx]) e] at hp; cases hp
def jb.set (v:jb C dx x H H' F W) (f:Str) (u:V):jb C dx x H (upd H' x (.ins C dx (ax f u F))) (ax f u F) W :=
 ⟨fun b o hb e=>by rw [aj (fun z=>hb (by simp [z]))]; exact v.k b o hb e,au,fun e he=>let ⟨a,b,c⟩:=v.w e he; ⟨by rw [aj c]; exact a,b,c⟩,v.n⟩
def jb.y (v:jb C dx x H H' F W) {p:Addr} {o:HO} (hp:H' p=none):upd H' p o x=some (.ins C dx F):=by rw [aj (aI v.h hp)]; exact v.h
def jb.new (v:jb C dx x H H' F W) {p:Addr} (o:HO) (f:Str) (hp:H' p=none):jb C dx x H (upd (upd H' p o) x (.ins C dx (ax f (.ref p) F))) (ax f (.ref p) F) ((p,o)::W):=by
 obtain ⟨f0,nx⟩:=v.fresh hp;have old:∀ b u,b≠x->H' b=some u->upd (upd H' p o) x (.ins C dx (ax f (.ref p) F)) b=some u:=fun b u hb e=>by rw [aj hb,aj (aI e hp)]; exact e
 refine ⟨fun b u hb e=>old b u (fun z=>hb (by simp [z])) (v.k b u hb e),au,fun e he=>?_,Do.mpr ⟨fun hm=>?_,v.n⟩⟩
 ·rcases mo.mp he with rfl | he
  ·exact ⟨by rw [aj nx,au],f0,nx⟩
  ·obtain ⟨a,b,c⟩:=v.w e he;exact ⟨old _ _ c a,b,c⟩
 ·obtain ⟨e,he,z⟩:=EQ.mp hm;have:=(v.w e he).1;rw [show e.1=p from z,hp] at this;cases this
end
def Zz:T.ui.k P w mg base 6 (Tf T.aH T.aL T.aU):=by
 refine T.ui.F.ok Ut (fun _ _ _ _ h=>fk h fun _ _ _=>rfl) fun ao A outer s H vs Q E hr h=>fk h fun x z h=>?_;obtain ⟨⟨dx,hx0⟩,l6,hn,q⟩:=h;refine ⟨_,((ad (aW (bi (Bg T) hr.m T.iy.m T.iy.F.kp T.iy.b .nil az (aa (ac 1) ae)))
 (ad (bA T.aO T.fv (ac 0) (XR T.RK (ZO T) hr.m T.Us T.tq.b .nil az))
 (ad (bA T.aO T.vQ (ac 0) am)
 (ad (bA T.aO T.sP (ac 0) nM)
 (ad (bA T.aO T.zr (ac 0) nM)
 (ad (bA T.aO T.IU (ac 0) nM)
 (ad (bA T.aO T.As (ac 0) nM)
 (ad (bA T.aO T.zg (ac 0) nM)
 (ad (bA T.aO T.Ru (ac 0) nM)
 (ad (bA T.aO T.ZM (ac 0) am)
 (ad (bA T.aO T.zf (ac 0) (bw T.aO T.uo.h (Zi T) hr.m T.uo.b .nil az (ac 0) (aa (dL (.str "main") T.S2 ⟨_,rfl⟩) (aa (ac 1) ae))))
 (ai (aW (bw T.aO T.n9.h (IA T) hr.m T.n9.b .nil az (ac 0) (aa (ac 1) ae)))))))))))))))).h,?_⟩
 refine stI [some (V.ref x),some (V.str z)] ?_;right;refine ⟨⟨_,rfl⟩,l6,hn,fun H1 s1=>?_⟩;have bu:=s1 _ _ hx0;right;intro t dt ht nj jq;refine ⟨dt,au,fun ml H2 fA yE fr2 hml2 gs eO sg nk=>⟨rfl,?_⟩⟩;have kO:x≠t:=aI bu ht;have nxd:x≠dt:=aI bu nj;have hml':H1 ml=none:=by
  rw [aj yE] at fA;by_cases e:ml=dt
  ·rw [e,au] at fA; cases fA
  ·rw [aj e] at fA; exact fA
 have s2:ag H1 H2:=fun b o e=>by
  rw [fr2 b (aI e ht) (aI e hml'),aj (aI e ht),aj (aI e nj)]; exact e
 refine ⟨x,dx,_,rfl,s2 _ _ bu,by decide,ah ?_⟩;have V:jb T.aH dx x H (upd H2 x (.ins T.aH dx (ax "things" (.ref t) []))) (ax "things" (.ref t) []) [(t,.ins T.aL dt gs),(ml,.lst [])]:=⟨fun b o hb e=>by rw [aj (fun z=>hb (by simp [z]))]; exact s2 _ _ (s1 _ _ e),au,fun e he=>?_,by simp [sB yE]⟩
 case refine_1 =>
  have fr:∀ {d},H1 d=none->H d=none:=fun {d} h=>by
   cases e:H d with
   | none=>rfl
   | some o=>rw [s1 _ _ e] at h; cases h
  simp only [mo,nn,xz] at he;rcases he with rfl | rfl
  ·exact ⟨by rw [aj (sB kO)]; exact nk,fr ht,sB kO⟩
  ·exact ⟨by rw [aj (sB (aI bu hml'))]; exact hml2,fr hml',sB (aI bu hml')⟩
 clear fr2;generalize upd H2 x _=H3 at V ⊢;left;refine ⟨x,dx,_,rfl,V.h,by walk_at "f",ah ?_⟩
 replace V:=V.set "changes" (.int 0)
 generalize upd H3 x _=H4 at V ⊢;left;intro ro h9;refine ⟨x,dx,_,rfl,V.y h9,by walk_at "f",ah ?_⟩
 replace V:=V.new (.dK []) "roots" h9
 generalize upd (upd H4 ro _) x _=H5 at V ⊢;left;intro st aM;refine ⟨x,dx,_,rfl,V.y aM,by walk_at "f",ah ?_⟩
 replace V:=V.new (.dK []) "standings" aM
 generalize upd (upd H5 st _) x _=H6 at V ⊢;left;intro tr nh;refine ⟨x,dx,_,rfl,V.y nh,by walk_at "f",ah ?_⟩
 replace V:=V.new (.dK []) "tree_roots" nh
 generalize upd (upd H6 tr _) x _=H7 at V ⊢;left;intro ov hov;refine ⟨x,dx,_,rfl,V.y hov,by walk_at "f",ah ?_⟩
 replace V:=V.new (.dK []) "root_over" hov
 generalize upd (upd H7 ov _) x _=H8 at V ⊢;left;intro un hun;refine ⟨x,dx,_,rfl,V.y hun,by walk_at "f",ah ?_⟩
 replace V:=V.new (.dK []) "folder_under" hun
 generalize upd (upd H8 un _) x _=H9 at V ⊢;left;intro ho hho;refine ⟨x,dx,_,rfl,V.y hho,by walk_at "f",ah ?_⟩
 replace V:=V.new (.dK []) "holds" hho
 generalize upd (upd H9 ho _) x _=ky at V ⊢;left;refine ⟨x,dx,_,rfl,V.h,by walk_at "f",ah ?_⟩
 replace V:=V.set "holds_given" (.int 0)
 generalize upd ky x _=H11 at V ⊢;left;have m6:=V.h;have k11:=V.k;have hw:=V.w;have iO:=V.n;simp only [List.forall_mem_cons] at hw;simp only [Ch,Tk,Do,mo,nn,xz,_v,_R,_P,and_true] at iO;obtain ⟨⟨gho11,fr_ho,nho⟩,⟨ni,fr_un,EM⟩,⟨m8,fr_ov,En⟩,⟨rR,M4,N6⟩,⟨hZ,MZ,DQ⟩,⟨ia,Mu,Ef⟩,⟨fY,ft,n1⟩,⟨fW,LS,n2⟩,_⟩:=hw;obtain ⟨_,⟨unov,untr,unst,unro,_⟩,⟨ovtr,ovst,ovro,_⟩,⟨trst,trro,_⟩,⟨stro,_⟩,_⟩:=iO;have Nr:=sB stro;have EU:=sB trro;have Ez:=sB trst;have NQ:=sB ovro;have ML:=sB ovst;have Nm:=sB ovtr;have Mj:=sB unro;have LN:=sB unst;have Nk:=sB untr;have eovun:=sB unov;have fresh:∀ {d:Addr},d≠x->H11 d=none->H d=none:=fun {d} _ h=>(V.fresh h).1;refine ⟨x,dx,_,rfl,m6,rfl,?_⟩;refine ⟨rfl,dx,_,0,t,dt,ml,tr,m6,by (repeat (refine bV ?_)); exact Cl _,rfl,rfl,rfl,rfl,⟨⟨gs,0,fY,eO,sg⟩,fW⟩,rR,?_⟩;intro th dS nm pl fs' ks c' H12 fth fnm fpl hxA hflA DL atA hthA hklA skA hnmA hplA htrA uV;obtain ⟨gs',d',htA,hglA,sgA⟩:=atA.o;have hmlA:=atA.ml;have lkA:=fun (f:Str) (hf:f ≠ "changes")=>(DL f).trans ((eX _ _ _ _).trans (xL hf));have qro:H12 ro=some (.dK []):=uV _ _ (by simp [Ef,bU ia fY (by nofun),bU ia fW (by nofun),EU]) ia;have qst:H12 st=some (.dK []):=uV _ _ (by simp [DQ,bU hZ fY (by nofun),bU hZ fW (by nofun),Ez]) hZ;have qun:H12 un=some (.dK []):=uV _ _ (by simp [EM,bU ni fY (by nofun),bU ni fW (by nofun),sB Nk]) ni;have qov:H12 ov=some (.dK []):=uV _ _ (by simp [En,bU m8 fY (by nofun),bU m8 fW (by nofun),sB Nm]) m8;have vk:=fun (f:Str) (h1:f ≠ "first_root") (h2:f ≠ "changes")=>((eX "first_root" f (.int 0) fs').trans (xL h1)).trans (lkA f h2);refine ⟨x,dx,fs',rfl,hxA,_p hflA (by walk_at "f"),?_⟩;refine ⟨x,dx,_,rfl,au,(vk _ (by decide) (by decide)).trans rfl,?_⟩;refine ⟨dx,_,c',ro,st,[],[],au,u8 (bV (u8 hflA (show _<=9 by (repeat (refine bV ?_)); exact Cl _))) (by decide),by rw [eX,xL (by decide),DL,eX,AC rfl],(vk _ (by decide) (by decide)).trans rfl,(vk _ (by decide) (by decide)).trans rfl,by rw [eX,AC rfl],(vk _ (by decide) (by decide)).trans rfl,(vk _ (by decide) (by decide)).trans rfl,by rw [aj Ef]; exact qro,by decide,by rw [aj DQ]; exact qst,by decide,Nr,?_⟩;intro jk c3 H13 hx13 hV fe hro3 hst3 yI;have old:∀ b o,b≠x->b≠ro->b≠st->H12 b=some o->H13 b=some o:=fun b o b1 b2 b3 e=>by rw [yI b b1 b2 b3,aj b1]; exact e
 refine q ⟨x,dx,t,dt,ml,ro,st,tr,ov,un,ho⟩ [⟨th,dS,nm,pl⟩] H13 rfl ⟨⟨jk,c3,hx13,hV,fun f=>?_⟩,⟨gs',d',old _ _ (n1) (bU fY ia (by nofun)) (bU fY hZ (by nofun)) htA,hglA,sgA⟩,old _ _ (n2) (bU fW ia (by nofun)) (bU fW hZ (by nofun)) hmlA,rfl,fun j tt e=>?_,hro3,hst3,old _ _ (N6) (sB EU) (sB Ez) htrA,old _ _ (En) (sB NQ) (sB ML) qov,old _ _ (EM) (sB Mj) (sB LN) qun,?_⟩ ?_ ?_
 ·rw [fe f];refine ((DL.put "first_root" (.int 0)).put "changes" (.int c3) f).trans rfl
 ·have hj:j=0:=by
   have:=(sw.mp e).1;have h1:(M0 z).ts.length=1:=rfl;omega
  subst hj;cases e;exact ⟨_,rfl,⟨⟨ks,old _ _ (sB (aI m6 fth)) (sB (aI ia fth)) (sB (aI hZ fth)) hthA,hklA,skA⟩,old _ _ (sB (aI m6 fnm)) (sB (aI ia fnm)) (sB (aI hZ fnm)) hnmA,old _ _ (sB (aI m6 fpl)) (sB (aI ia fpl)) (sB (aI hZ fpl)) hplA⟩⟩
 ·show List.Nodup [x,t,ml,ro,st,tr,ov,un,th,nm,pl];simp only [Do,mo,nn,xz,_v,_R,_P,and_true];exact ⟨⟨sB n1,sB n2,sB Ef,sB DQ,sB N6,sB En,sB EM,aI m6 fth,aI m6 fnm,aI m6 fpl⟩,⟨bU fY fW (by nofun),bU fY ia (by nofun),bU fY hZ (by nofun),bU fY rR (by nofun),bU fY m8 (by nofun),bU fY ni (by nofun),aI fY fth,aI fY fnm,aI fY fpl⟩,⟨bU fW ia (by nofun),bU fW hZ (by nofun),bU fW rR (by nofun),bU fW m8 (by nofun),bU fW ni (by nofun),aI fW fth,aI fW fnm,aI fW fpl⟩,⟨Nr,EU,NQ,Mj,aI ia fth,aI ia fnm,aI ia fpl⟩,⟨Ez,ML,LN,aI hZ fth,aI hZ fnm,aI hZ fpl⟩,⟨Nm,Nk,aI rR fth,aI rR fnm,aI rR fpl⟩,⟨eovun,aI m8 fth,aI m8 fnm,aI m8 fpl⟩,⟨aI ni fth,aI ni fnm,aI ni fpl⟩,⟨bU hthA hnmA (by nofun),bU hthA hplA (by nofun)⟩,bU hnmA hplA (by nofun)⟩
 ·intro b hb pj;have hb':b∈[x,t,ml,ro,st,tr,ov,un,th,nm,pl]:=hb;simp only [mo,nn,xz] at hb';rcases hb' with rfl | rfl | rfl | rfl | rfl | rfl | rfl | rfl | rfl | rfl | rfl
  ·exact absurd rfl pj
  ·exact ft
  ·exact LS
  ·exact Mu
  ·exact MZ
  ·exact M4
  ·exact fr_ov
  ·exact fr_un
  ·exact fresh pj fth
  ·exact fresh pj fnm
  ·exact fresh pj fpl
 ·intro b o hb e;have pj:b≠x:=fun z=>hb (by simp [z]);refine old b o pj (aI e Mu) (aI e MZ) (uV b o ?_ (k11 b o hb e));simp only [mo,nn,xz,_v];exact ⟨pj,aI e ft,aI e LS,aI e M4⟩
def U4 (CH CS CT:Addr):Sp:=jN fun x z H Q _=>X3 fun A L M=>A9 (aE CH CS CT H A L M) (A.a=x) (z.length<=1000) (fG (.str z)=true) (M.ro.length<=30) (M.st.length<=30) (aG (sD M.ro) (.inr z)=none) (aG (sD M.st) (.inr z)=none) (∀ H',aE CH CS CT H' A L { M with ro:=M.ro++[(z,0)],st:=M.st++[(z,0)] }->Kp [A.a,A.ro,A.st] H H'->Q .aw H')
def Zu:T.tI.k P w mg base 3 (U4 T.aH T.aL T.aU):=by
 refine T.tI.F.ok V4 (fun _ _ _ _ h=>fk h fun _ _ _=>rfl) fun ao A outer s H vs Q E hr h=>fk h fun x z h=>?_;obtain ⟨AA,L,M,i,rfl,l6,hn,gN,hsl,Nn,hs0,q⟩:=h;refine ⟨_,((ad (aW (bi (Bg T) hr.m T.iy.m T.iy.F.kp T.iy.b .nil az (aa (ac 1) ae)))
 (ad (aX (BC (dh hr) (ac 1) (ap T.aO T.sP (ac 0))) (ai i0) bn)
 (ai (aW (bw T.aO T.n9.h (IA T) hr.m T.n9.b .nil az (ac 0) (aa (ac 1) ae))))))).h,?_⟩
 refine stI [some (V.ref AA.a),some (V.str z)] ?_;right;refine ⟨⟨_,rfl⟩,l6,hn,fun H1 s1=>?_⟩;have i1:=i.same s1;obtain ⟨fs,c,hx,aY,sf⟩:=i1.h;have nd:=i1.nd;rw [Id] at nd;have EJ:=nd.1;simp only [Ad.w,Do,mo,nn,xz,_v] at EJ;right;refine ⟨AA.a,_,_,.ref AA.ro,rfl,hx,(sf _).trans rfl,AA.ro,_,rfl,eF.k (k:=.inr z) i1.ro,?_⟩;rw [Nn];refine aQ ?_;left;refine (mI hx sf ⟨AA.dx,fs,c,AA.ro,AA.st,_,_,hx,aY,(sf _).trans rfl,(sf _).trans rfl,(sf _).trans rfl,(sf _).trans rfl,(sf _).trans rfl,(sf _).trans rfl,i1.ro,by unfold sD; rw [pp]; omega,i1.st,by unfold sD; rw [pp]; omega,EJ.2.2.2.1.1,?_⟩);intro fs' c' H' hx' hfl' sf' hro' hst' fr';have e1:putK (sD M.ro) (.inr z) (.int 0)=sD (M.ro++[(z,0)]):=CJ Nn;have e2:putK (sD M.st) (.inr z) (.int 0)=sD (M.st++[(z,0)]):=CJ hs0;rw [e1] at hro';rw [e2] at hst';have kp:Kp [AA.a,AA.ro,AA.st] H1 H':=fun b o hb e=>by
  simp only [mo,nn,xz,_v] at hb;rw [fr' b hb.1 hb.2.1 hb.2.2]; exact e
 have vh:∀ b∈[AA.t,AA.ml,AA.tr,AA.ov,AA.un],b ∉ [AA.a,AA.ro,AA.st]:=by
  intro b hb hm;simp only [mo,nn,xz] at hb hm;obtain ⟨⟨a1,a2,a3,a4,a5,a6,a7⟩,⟨b1,b2,b3,b4,b5,b6⟩,⟨c1,c2,c3,c4,c5⟩,⟨d1,d2,d3,d4⟩,⟨f1,f2,f3⟩,_⟩:=EJ;rcases hb with rfl | rfl | rfl | rfl | rfl <;> rcases hm with h | h | h <;> first
   | exact a1 h.symm | exact a2 h.symm | exact a5 h.symm | exact a6 h.symm | exact a7 h.symm
   | exact b2 h | exact b3 h | exact c1' h | exact c1 h | exact c2 h | exact c3 h
   | exact d2 h.symm | exact d3 h.symm | exact d4 h.symm | exact f1 h.symm | exact f2 h.symm | exact f3 h.symm | exact b1 h | exact b4 h
 refine q H' ⟨⟨fs',c',hx',hfl',fun f=>?_⟩,?_,kp _ _ (vh _ (by simp)) i1.ml,i1.len,fun j t e=>?_,hro',hst',kp _ _ (vh _ (by simp)) i1.tr,kp _ _ (vh _ (by simp)) i1.ov,kp _ _ (vh _ (by simp)) i1.un,i1.nd⟩ (fun b o hb e=>kp b o hb (s1 b o e))
 ·rw [sf' f,eX,sf f];by_cases e:f = "changes"
  ·rw [AC e,e]; rfl
  ·rw [xL e];exact ZR e
 ·obtain ⟨gs,d,e,r⟩:=i1.t;exact ⟨gs,d,kp _ _ (vh _ (by simp)) e,r⟩
 ·obtain ⟨a,e1,h1⟩:=i1.th j t e;refine ⟨a,e1,h1.keep kp fun b hb hm=>?_⟩;have:=i1.vE e1;simp only [mo,nn,xz] at hm;rcases hm with rfl | rfl | rfl
  ·exact this _ (by simp [Ad.w]) _ hb rfl
  ·exact this _ (by simp [Ad.w]) _ hb rfl
  ·exact this _ (by simp [Ad.w]) _ hb rfl
def kP (M:Hs):Nat->Nat->Nat->Prop
 | 0,k,b=>aG (nD M.un) (.inl (k:Int))=none/\b=k
 | n+1,k,b=>∃ k':Nat,aG (nD M.un) (.inl (k:Int))=some (.int (k':Int))/\kP M n k' b
def jz (M:Hs):Nat->Nat->List Nat->Prop
 | 0,k,l=>aG (nD M.ov) (.inl (k:Int))=none/\l=[]
 | n+1,k,l=>∃ (k':Nat) (r:List Nat),aG (nD M.ov) (.inl (k:Int))=some (.int (k':Int))/\jz M n k' r/\l=k'::r
def d6 (M:Hs) (k b:Nat) (r:List Nat):Prop:=(∃ n,kP M n k b)/\∃ n,jz M n b r/\n<=100
def jz.len {M:Hs}:∀ {n k:Nat} {l:List Nat},jz M n k l->l.length=n
 | 0,_,_,h=>by rw [h.2]; rfl
 | n+1,_,_,h=>by obtain ⟨k',r,_,h2,rfl⟩:=h; simp [h2.len]
abbrev nV (l:List Nat):List V:=l.map fun n:Nat=>V.int (n:Int)
def dz (b:Nat) (r:List Nat):Nat:=(b::r).getLast (by simp)
def aaA (CH CS CT:Addr):Sp:=mS fun x n H Q _=>X7 fun A L M (k:Nat) (b:Nat) a t=>A7 (aE CH CS CT H A L M) (A.a=x) (n=(k:Int)) (L[k]?=some a) (M.ts[k]?=some t) (∃ m,kP M m k b) (Q (.int (b:Int)) H)
def TX (CH CS CT:Addr):Sp:=mS fun x n H Q _=>X8 fun A L M (k:Nat) (b:Nat) r a t=>A7 (aE CH CS CT H A L M) (A.a=x) (n=(k:Int)) (L[k]?=some a) (M.ts[k]?=some t) (d6 M k b r) (∀ l H',ag H H'->H l=none->H' l=some (.lst (nV (b::r)))->Q (.ref l) H')
def Vf (CH CS CT:Addr):Sp:=mS fun x n H Q _=>X8 fun A L M (k:Nat) (b:Nat) r a t=>A7 (aE CH CS CT H A L M) (A.a=x) (n=(k:Int)) (L[k]?=some a) (M.ts[k]?=some t) (d6 M k b r) (∀ H',ag H H'->Q (.int (dz b r:Nat)) H')
def S8:T.pG.k P w base 4 (aaA T.aH T.aL T.aU):=by
 refine T.pG.F.ok Dh (fun _ _ _ _ h=>c8 h fun _ _ _=>rfl) fun ao A outer s H vs Q E hr h=>c8 h fun x n h=>?_;obtain ⟨AA,L,M,k,b,a,t,i,rfl,rfl,ha,aS,⟨m,hb⟩,q⟩:=h;obtain ⟨fs,c,hx,aY,sf⟩:=i.h;refine ⟨_,((ad (aW (bw T.aO T.sN.h (Uv T) hr.m T.sN.b .nil az (ac 0) (aa (ac 1) ae)))
 (ad (aP 2 Dh.nd (ac 1))
 (ad (uF WF (BC (dh hr) (ac 2) (ap T.aO T.zg (ac 0))) (ai (aP 2 Dh.nd (fH (dh hr) (ap T.aO T.zg (ac 0)) (ac 2)))))
 (ai (aK (ac 2))))))).h,?_⟩
 refine stI [some (V.ref AA.a),some (V.int (k:Int)),none] ?_;right;refine (mI hx sf ⟨AA,L,M,k,a,t,i,rfl,rfl,ha,aS,?_⟩);right;refine ah ⟨fun m σ' H'=>∃ j:Nat,σ'=[some (V.ref AA.a),some (V.int (k:Int)),some (V.int (j:Int))]/\H'=H/\kP M m j b,⟨m,k,rfl,rfl,hb⟩,?_⟩;rintro m σ' H' ⟨j,rfl,rfl,hj⟩;left;refine ⟨AA.a,_,_,.ref AA.un,rfl,hx,(sf _).trans rfl,AA.un,_,rfl,eF.k (k:=.inl (j:Int)) i.un,?_⟩;cases m with
 | zero =>
  obtain ⟨h0,rfl⟩:=hj;rw [h0];exact aQ q
 | succ m =>
  obtain ⟨k',h0,h1⟩:=hj;rw [h0];refine aV ⟨fun σ' H''=>∃ j:Nat,σ'=[some (V.ref AA.a),some (V.int (k:Int)),some (V.int (j:Int))]/\H''=H'/\kP M m j b,fun σ' H' z=>⟨m,On m,z⟩,?_⟩;left;refine ⟨AA.a,_,_,.ref AA.un,rfl,hx,(sf _).trans rfl,AA.un,.int (k':Int),rfl,?_,k',rfl,by trivial,h1⟩;have:=eF.k (k:=.inl (j:Int)) i.un;rw [h0] at this;exact this
def og {a b:List Nat}:nV (a++b)=nV a++nV b:=Ev
def pW:T.eK.k P w base 5 (TX T.aH T.aL T.aU):=by
 refine T.eK.F.ok FN (fun _ _ _ _ h=>c8 h fun _ _ _=>rfl) fun ao A outer s H vs Q E hr h=>c8 h fun x n h=>?_;obtain ⟨AA,L,M,k,b,r,a,t,i,rfl,rfl,ha,aS,⟨hb,⟨m,hu,hm⟩⟩,q⟩:=h;have hlen:=hu.len;refine ⟨_,((ad (aP 2 FN.nd (cr (aa (bi (S8 T) hr.m T.pG.m T.pG.F.kp T.pG.b .nil az (aa (ac 0) (aa (ac 1) ae))) ae)))
 (ad (uF WF (BC (dh hr) (ci (bD (K:=K) rfl) (ac 2) (io mR am)) (ap T.aO T.As (ac 0))) (ai (aW (iQ IR KB l8 (ac 2) (aa (fH (dh hr) (ap T.aO T.As (ac 0)) (ci (bD (K:=K) rfl) (ac 2) (io mR am))) ae)))))
 (ai (aK (ac 2)))))).h,?_⟩
 refine stI [some (V.ref AA.a),some (V.int (k:Int)),none] ?_;right;refine ⟨AA,L,M,k,b,a,t,i,rfl,rfl,ha,aS,hb,fits (by simp),fun l hl=>?_⟩;refine eY hl fun H1 s1 b1=>?_;refine ah ⟨fun m σ' H'=>ag H H'/\∃ (pre:List Nat) (j:Nat) (r':List Nat),σ'=[some (V.ref AA.a),some (V.int (k:Int)),some (V.ref l)]/\H' l=some (.lst (nV pre++[V.int (j:Int)]))/\jz M m j r'/\pre++j::r'=b::r,⟨m,s1,[],b,r,rfl,b1,hu,rfl⟩,?_⟩;rintro m σ' H' ⟨s',pre,j,r',rfl,hl',hj,hp⟩;have i1:=i.same s';obtain ⟨fs,c,hx,aY,sf⟩:=i1.h;left;simp only [bj,hl',mF];refine ⟨AA.a,_,_,.ref AA.ov,rfl,hx,(sf _).trans rfl,AA.ov,_,rfl,eF.k (k:=.inl (j:Int)) i1.ov,?_⟩;cases m with
 | zero =>
  obtain ⟨h0,rfl⟩:=hj;rw [h0];refine aQ (q l H' s' hl ?_);rw [hl',<- hp,og];rfl
 | succ m =>
  obtain ⟨k',r2,h0,h1,rfl⟩:=hj;rw [h0];refine aV ⟨fun σ' H'=>ag H H'/\∃ (pre:List Nat) (j:Nat) (r':List Nat),σ'=[some (V.ref AA.a),some (V.int (k:Int)),some (V.ref l)]/\H' l=some (.lst (nV pre++[V.int (j:Int)]))/\jz M m j r'/\pre++j::r'=b::r,fun σ' H' z=>⟨m,On m,z⟩,?_⟩;left;refine ⟨AA.a,_,_,.ref AA.ov,rfl,hx,(sf _).trans rfl,AA.ov,.int (k':Int),rfl,?_,?_⟩
  ·have:=eF.k (k:=.inl (j:Int)) i1.ov;rw [h0] at this;exact this
  have bN:(pre++[j]).length<=102:=by
   have:=Ps List.length hp;simp at this ⊢;omega
  refine ⟨oq (by simp at bN ⊢; omega),s'.gx hl,pre++[j],k',r2,by trivial,?_,h1,?_⟩
  ·rw [au,og]; rfl
  ·rw [<- hp]; simp
def Fq {b:Nat} {r:List Nat}:∃ pre,b::r=pre++[dz b r]:=⟨(b::r).dropLast,by unfold dz; exact (List.dropLast_concat_getLast (by simp)).symm⟩
def vV:T.gy.k P w base 6 (Vf T.aH T.aL T.aU):=by
 refine T.gy.F.ok SH (fun _ _ _ _ h=>c8 h fun _ _ _=>rfl) fun ao A outer s H vs Q E hr h=>c8 h fun x n h=>?_;obtain ⟨AA,L,M,k,b,r,a,t,i,rfl,rfl,ha,aS,hs,q⟩:=h;refine ⟨_,((ai (aK (ci (bD (K:=K) rfl) (bi (pW T) hr.m T.eK.m T.eK.F.kp T.eK.b .nil az (aa (ac 0) (aa (ac 1) ae))) (io mR am))))).h,?_⟩;refine stI [some (V.ref AA.a),some (V.int (k:Int))] ?_;left;refine ⟨AA,L,M,k,b,r,a,t,i,rfl,rfl,ha,aS,hs,fun l H' s' _ hl=>?_⟩;dsimp only;obtain ⟨pre,hp⟩:=Fq (b:=b) (r:=r);rw [hp,og] at hl;simp only [bj,hl,Ch,Tk,mF];exact q _ s'
def gd (r:Nat) (l:List Nat):Bool:=l.any (· == r)
def tX {r:Nat}:∀ {l:List Nat},fO (V.int (r:Int)) (nV l)=gd r l
 | []=>rfl
 | x::l=>by
  have ih:=tX (r:=r) (l:=l);unfold fO at ih ⊢;unfold gd at ih ⊢;simp only [nV,Ch,_c] at ih ⊢;rw [ih]
  congr 1
  unfold fV;by_cases e:x=r
  ·subst e; simp
  ·rw [Fa.mpr e]
   first | exact Fa.mpr (by omega) | (simp; omega)
def kR (M:Hs) (L:List Ta) (root:Nat):Nat->Nat->Bool->Prop
 | n,k,v=>∃ b r a t,L[k]?=some a/\M.ts[k]?=some t/\d6 M k b r /\
  if k=dz b r then
   if gd root (b::r)=true then v=true
   else ∃ ab tb,L[b]?=some ab/\M.ts[b]?=some tb/\((tb.cQ=[]/\v=false)\/∃ f z,tb.cQ=[(f,z)]/\match n with | 0=>False | n+1=>kR M L root n f v)
  else v=false
def aax (CH CS CT:Addr):Sp:=rX fun x z n H Q _=>X6 fun A L M (k:Nat) (root:Nat) v=>A6 (aE CH CS CT H A L M) (A.a=x) (n=(k:Int)) (aG (sD M.ro) (.inr z)=some (.int (root:Int))) (∃ m,kR M L root m k v) (∀ H',ag H H'->Q (.bl v) H')
def XD:T.ra.k P w base 6 (aax T.aH T.aL T.aU):=by
 refine T.ra.F.ok ny (fun _ _ _ _ h=>jY h fun _ _ _ _=>rfl) fun ao A outer s H vs Q E hr h=>jY h fun x z n h=>?_;obtain ⟨AA,L,M,k,root,v,i,rfl,rfl,hz,⟨m,hm⟩,q⟩:=h;obtain ⟨fs,c,hx,aY,sf⟩:=i.h;refine bJ (b:=bb Bb) ((ad (aP 3 ny.nd (bw T.aO T.kK.h (Ds T) hr.m T.kK.b .nil az (ac 0) (aa (ac 1) ae)))
 (ad (aP 4 ny.nd (ac 2))
 (ad (aP 5 ny.nd (bi (pW T) hr.m T.eK.m T.eK.F.kp T.eK.b .nil az (aa (ac 0) (aa (ac 4) ae))))
 (ad (uF WF (bB eZ (ac 4) (ci (bD (K:=K) rfl) (ac 5) (io mR am))) (ad (aX (bB (zD (K:=K) rfl) (ac 3) (ac 5)) (ai (aK f8)) bn)
 (ad (aP 6 ny.nd (bw T.aO T.kN.h (zd T) hr.m T.kN.b .nil az (ac 0) (aa (ci (bD (K:=K) rfl) (ac 5) am) ae)))
 (ad (aX (bB tS (ac 6) aw) (ai (aK f8)) bn)
 (ad (aP 4 ny.nd (ci (bD (K:=K) rfl) (ac 6) am))
 (ai (aP 5 ny.nd (bi (pW T) hr.m T.eK.m T.eK.F.kp T.eK.b .nil az (aa (ac 0) (aa (ac 4) ae))))))))))
 (ai (aK f8))))))) ?_
 refine stI [some (V.ref AA.a),some (V.str z),some (V.int (k:Int)),none,none,none,none] ?_;right;refine (mI hx sf ⟨AA,L,M,root,i,rfl,hz,?_⟩);right;right;obtain ⟨b,r,a,t,ha,ht,aM,eA⟩:=(by unfold kR at hm; exact hm:∃ b r a t,L[k]?=some a/\M.ts[k]?=some t/\d6 M k b r/\_);refine ⟨AA,L,M,k,b,r,a,t,i,rfl,rfl,ha,ht,aM,fun l H1 s1 hl0 hl=>?_⟩;refine ah ⟨fun m σ' H'=>ag H H'/\∃ (j:Nat) (l:Addr) (b:Nat) (r:List Nat) (pv:Option V),σ'=[some (V.ref AA.a),some (V.str z),some (V.int (k:Int)),some (V.int (root:Int)),some (V.int (j:Int)),some (V.ref l),pv]/\H' l=some (.lst (nV (b::r)))/\d6 M j b r /\
  (if j=dz b r then
   if gd root (b::r)=true then v=true
   else ∃ ab tb,L[b]?=some ab/\M.ts[b]?=some tb/\((tb.cQ=[]/\v=false)\/∃ f z,tb.cQ=[(f,z)]/\match m with | 0=>False | n+1=>kR M L root n f v)
  else v=false),⟨m,s1,k,l,b,r,none,rfl,hl,aM,eA⟩,?_⟩
 clear eA ha ht aM hl hl0 s1 hm;rintro m σ' H' ⟨s',j,l,b,r,pv,rfl,hl,aM,eA⟩;have i':=i.same s';obtain ⟨pre,hp⟩:=Fq (b:=b) (r:=r);have cf:=hl;rw [hp,og] at cf;left;simp only [bj,cf,Ch,Tk,mF];by_cases hj:j=dz b r
 ·rw [AC hj] at eA;rw [wP (by rw [hj])];refine aV ⟨_,fun _ _ h=>h,?_⟩;right;simp only [bj,hl];refine ⟨rfl,by simp [dq],?_⟩;rw [tX];cases hmem:gd root (b::r) with
  | true =>
   rw [AC hmem] at eA;subst eA;exact aV (q _ s')
  | false =>
   rw [xL (by rw [hmem]; nofun)] at eA;obtain ⟨ab,tb,ff,lS,bN⟩:=eA;refine aQ ?_;refine ah ?_;obtain ⟨fs,c,hx,aY,sf⟩:=i'.h;left;simp only [bj,hl,nV,Ch,e8];refine (mI hx sf ⟨AA,L,M,b,ab,tb,i',rfl,rfl,ff,lS,?_⟩);rcases bN with ⟨bN,rfl⟩ | ⟨f,zz,bN,hn⟩
   ·refine .inl ⟨bN,?_⟩;right;exact ⟨by trivial,aV (q _ s')⟩
   ·refine .inr ⟨f,zz,bN,fun p hp=>?_⟩;right;refine ⟨by trivial,?_⟩;rw [pc (by nofun)];refine aQ ?_;right;simp only [bj,hp,e8];cases m with
    | zero=>exact hn.elim
    | succ m =>
     obtain ⟨b2,r2,a2,t2,DV,nk,yB,Fi⟩:=(by unfold kR at hn; exact hn:∃ b r a t,L[f]?=some a/\M.ts[f]?=some t/\d6 M f b r/\_);refine ⟨AA,L,M,f,b2,r2,a2,t2,i',rfl,rfl,DV,nk,yB,fun l2 H2 s2 hl0 cf=>?_⟩;exact ⟨m,On m,s'.trans s2,f,l2,b2,r2,some (V.ref p),rfl,cf,yB,Fi⟩
 ·rw [xL hj] at eA;rw [pc (by omega)];subst eA;refine aQ ?_;left;exact q _ s'
abbrev acJ (M:Hs):List Str:=gG (M.tr.map (·.1))
section
variable {CH CS CT:Addr} {H H':Hp} {A:Ad} {L:List Ta} {M:Hs}
end
def CL (C:Addr) (f1 f2:Str):Sp:=zL fun x v1 v2 H Q _=>X1 fun dx=>A2 (H x=some (.ins C dx [])) (Q .aw (upd H x (.ins C dx (ax f2 v2 (ax f1 v1 [])))))
def TF:T.uu.k P w mg base 1 (CL T.eM "number" "way"):=by
 refine T.uu.F.ok RW (fun _ _ _ _ h=>mD h fun _ _ _ _=>rfl) fun ao A outer s H vs Q E hr h=>mD h fun x v1 v2 h=>?_;obtain ⟨dx,hx,q⟩:=h;refine ⟨_,((ad (bA T.rh T.AG (ac 0) (ac 1))
 (ai (bA T.rh T.Jm (ac 0) (ac 2))))).h,?_⟩
 refine stI [some (V.ref x),some v1,some v2] ?_;right;refine ⟨x,dx,_,rfl,hx,by decide,?_⟩;refine ⟨x,dx,_,rfl,au,by walk_at "f",?_⟩;rw [mj];exact q
def VJ:T.sM.k P w mg base 1 (CL T.lW "folder" "name"):=by
 refine T.sM.F.ok abL (fun _ _ _ _ h=>mD h fun _ _ _ _=>rfl) fun ao A outer s H vs Q E hr h=>mD h fun x v1 v2 h=>?_;obtain ⟨dx,hx,q⟩:=h;refine ⟨_,((ad (bA T.oJ T.xb (ac 0) (ac 1))
 (ai (bA T.oJ T.Bs (ac 0) (ac 2))))).h,?_⟩
 refine stI [some (V.ref x),some v1,some v2] ?_;right;refine ⟨x,dx,_,rfl,hx,by decide,?_⟩;refine ⟨x,dx,_,rfl,au,by walk_at "f",?_⟩;rw [mj];exact q
def acG:T.tu.k P w mg base 1 (CL T.eT "step" "reason"):=by
 refine T.tu.F.ok Rn (fun _ _ _ _ h=>mD h fun _ _ _ _=>rfl) fun ao A outer s H vs Q E hr h=>mD h fun x v1 v2 h=>?_;obtain ⟨dx,hx,q⟩:=h;refine ⟨_,((ad (bA T.oy T.HR (ac 0) (ac 1))
 (ai (bA T.oy T.JR (ac 0) (ac 2))))).h,?_⟩
 refine stI [some (V.ref x),some v1,some v2] ?_;right;refine ⟨x,dx,_,rfl,hx,by decide,?_⟩;refine ⟨x,dx,_,rfl,au,by walk_at "f",?_⟩;rw [mj];exact q
def ue (h:Addr) (z:Str) (last:Bool) (root here:Int) (place:V) (step:Int) (av lf rd:Addr) (lr lu:Int) (told:V):List (Str×V):=[("house",.ref h),("asker",.str z),("last",.bl last),("root",.int root),("here",.int here),("place",place),("step",.int step),("asked",.ref av),("left",.ref lf),("reading",.ref rd),("leads_read",.int lr),("looked_up",.int lu),("told",told)]
structure Ws where
 here:Nat
 place:Option (Nat×Str)
 step:Nat
 asked:List Nat
 left:List (Sum Nat Str)
 bo:List Nat
 read:Nat
 look:Nat
def dZ:Sum Nat Str->V
 | .inl n=>.int (n:Int)
 | .inr z=>.str z
def jy (H0 H:Hp):Option (Nat×Str)->V->Prop
 | none,v=>v=.aw
 | some (k,nm),v=>∃ p,v=.ref p/\H0 p=none/\H p=some (.tup [.int (k:Int),.str nm])
structure Cn where
 CH:Addr
 CS:Addr
 CT:Addr
 CW:Addr
 CF:Addr
 CG:Addr
 CR:Addr
 CN:Addr
 CD:Addr
 CE:Addr
abbrev Tx.cn (T:Tx K mg):Cn:=⟨T.aH,T.aL,T.aU,T.bh,T.eT,T.eM,T.fZ,T.cu,T.cw,T.lW⟩
structure Wd where
 L:List Ta
 M:Hs
 z:Str
 last:Bool
 root:Nat
structure Wc extends Wd where
 H0:Hp
 A:Ad
 x:Addr
 dx:Addr
 av:Addr
 rd:Addr
structure aZ (N:Cn) (c:Wc) (S:Ws) (H:Hp) (lf:Addr) (told:V):Prop where
 i:aE N.CH N.CS N.CT c.H0 c.A c.L c.M
 s:ag c.H0 H
 x0:c.H0 c.x=none
 a0:c.H0 c.av=none
 l0:c.H0 lf=none
 r0:c.H0 c.rd=none
 o:∃ fs pv,H c.x=some (.ins N.CW c.dx fs)/\fs.length<=40/\jy c.H0 H S.place pv/\dN fs (ue c.A.a c.z c.last c.root S.here pv S.step c.av lf c.rd S.read S.look told)
 oa:H c.av=some (.lst (nV S.asked))
 ol:H lf=some (.lst (S.left.map dZ))
 od:H c.rd=some (.lst (nV S.bo))
 n1:c.av≠lf
 n2:c.av≠c.rd
 n3:lf≠c.rd
 hz:aG (sD c.M.ro) (.inr c.z)=some (.int (c.root:Int))
section
variable {N:Cn} {c:Wc} {S:Ws} {H0 H H':Hp} {lf:Addr} {told:V}
def jy.same {p:Option (Nat×Str)} {v:V} (h:jy H0 H p v) (s:ag H H'):jy H0 H' p v:=by
 match p,h with
 | none,h=>exact h
 | some (k,nm),⟨q,e,e0,e1⟩=>exact ⟨q,e,e0,s _ _ e1⟩
def aZ.same (v:aZ N c S H lf told) (s:ag H H'):aZ N c S H' lf told :=
 ⟨v.i,v.s.trans s,v.x0,v.a0,v.l0,v.r0,let ⟨fs,pv,e,l,p,f⟩:=v.o; ⟨fs,pv,s _ _ e,l,p.same s,f⟩,s _ _ v.oa,s _ _ v.ol,s _ _ v.od,v.n1,v.n2,v.n3,v.hz⟩
def aZ.m (v:aZ N c S H lf told):aE N.CH N.CS N.CT H c.A c.L c.M:=v.i.same v.s
def aZ.xa (v:aZ N c S H lf told):c.x≠c.av/\c.x≠lf/\c.x≠c.rd:=by
 obtain ⟨fs,pv,e,_⟩:=v.o;exact ⟨bU e v.oa (by nofun),bU e v.ol (by nofun),bU e v.od (by nofun)⟩
def jy.put {p:Option (Nat×Str)} {v:V} {fs:List (Str×V)} {x dx CW:Addr} (h:jy H0 H p v) (hx:∃ gs,H x=some (.ins CW dx gs)):jy H0 (upd H x (.ins CW dx fs)) p v:=by
 match p,h with
 | none,h=>exact h
 | some (k,nm),⟨q,e,e0,e1⟩ =>
  obtain ⟨gs,hx⟩:=hx;exact ⟨q,e,e0,by rw [aj (sB (bU hx e1 (by nofun)))]; exact e1⟩
def aZ.put (f:Str) (u:V) (S':Ws) (told':V) (v:aZ N c S H lf told) (w:V) (hw:∀ pv,List.lookup f (ue c.A.a c.z c.last c.root S.here pv S.step c.av lf c.rd S.read S.look told)=some w:=by exact fun _=>rfl)
  (hp:S'.place=S.place:=by rfl) (ha:S'.asked=S.asked:=by rfl) (hl:S'.left=S.left:=by rfl) (hr:S'.bo=S.bo:=by rfl)
  (e:∀ pv g,List.lookup g (ax f u (ue c.A.a c.z c.last c.root S.here pv S.step c.av lf c.rd S.read S.look told))=List.lookup g (ue c.A.a c.z c.last c.root S'.here pv S'.step c.av lf c.rd S'.read S'.look told'):=by exact fun _ _=>rfl) :
  ∃ fs,H c.x=some (.ins N.CW c.dx fs)/\fs.length < 1000/\List.lookup f fs=some w/\aZ N c S' (upd H c.x (.ins N.CW c.dx (ax f u fs))) lf told':=by
 obtain ⟨fs,pv,e1,l,p,sf⟩:=v.o;have hf:List.lookup f fs=some w:=(sf f).trans (hw pv);exact ⟨fs,e1,by omega,hf,⟨v.i,v.s.gx v.x0,v.x0,v.a0,v.l0,v.r0,⟨_,pv,au,by rw [ka hf]; exact l,by rw [hp]; exact p.put ⟨fs,e1⟩,fun g=>((sf.put f u) g).trans (e pv g)⟩,by rw [aj (sB v.xa.1),ha]; exact v.oa,by rw [aj (sB v.xa.2.1),hl]; exact v.ol,by rw [aj (sB v.xa.2.2),hr]; exact v.od,v.n1,v.n2,v.n3,v.hz⟩⟩
def jy.off {p:Option (Nat×Str)} {v:V} {y:Addr} {o o':HO} (h:jy H0 H p v) (hy:H y=some o) (ht:∀ xs,o≠.tup xs):jy H0 (upd H y o') p v:=by
 match p,h with
 | none,h=>exact h
 | some (k,nm),⟨q,e,e0,e1⟩ =>
  refine ⟨q,e,e0,?_⟩;rw [aj (fun z=>?_)]
  ·exact e1
  ·rw [z,hy] at e1;exact ht _ (Go e1)
def aZ.off {y:Addr} {o o':HO} (v:aZ N c S H lf told) (y0:c.H0 y=none) (hy:H y=some o) (nx:c.x≠y) (na:c.av≠y) (nl:lf≠y) (nr:c.rd≠y) (ht:∀ xs,o≠.tup xs):aZ N c S (upd H y o') lf told:=by
 obtain ⟨gs,pv,e,l,p,f⟩:=v.o;exact ⟨v.i,v.s.gx y0,v.x0,v.a0,v.l0,v.r0,⟨gs,pv,by rw [aj nx]; exact e,l,p.off hy ht,f⟩,by rw [aj na]; exact v.oa,by rw [aj nl]; exact v.ol,by rw [aj nr]; exact v.od,v.n1,v.n2,v.n3,v.hz⟩
def aZ.Qv (v:aZ N c S H lf told) (ks:List Nat):aZ N c { S with asked:=ks } (upd H c.av (.lst (nV ks))) lf told:=by
 obtain ⟨gs,pv,e,l,p,f⟩:=v.o;exact ⟨v.i,v.s.gx v.a0,v.x0,v.a0,v.l0,v.r0,⟨gs,pv,by rw [aj v.xa.1]; exact e,l,p.off v.oa (by nofun),f⟩,au,by rw [aj (sB v.n1)]; exact v.ol,by rw [aj (sB v.n2)]; exact v.od,v.n1,v.n2,v.n3,v.hz⟩
def aZ.uk (v:aZ N c S H lf told) (ts:List (Sum Nat Str)):aZ N c { S with left:=ts } (upd H lf (.lst (ts.map dZ))) lf told:=by
 obtain ⟨gs,pv,e,l,p,f⟩:=v.o;exact ⟨v.i,v.s.gx v.l0,v.x0,v.a0,v.l0,v.r0,⟨gs,pv,by rw [aj v.xa.2.1]; exact e,l,p.off v.ol (by nofun),f⟩,by rw [aj v.n1]; exact v.oa,au,by rw [aj (sB v.n3)]; exact v.od,v.n1,v.n2,v.n3,v.hz⟩
def aZ.HX (v:aZ N c S H lf told) (ks:List Nat):aZ N c { S with bo:=ks } (upd H c.rd (.lst (nV ks))) lf told:=by
 obtain ⟨gs,pv,e,l,p,f⟩:=v.o;exact ⟨v.i,v.s.gx v.r0,v.x0,v.a0,v.l0,v.r0,⟨gs,pv,by rw [aj v.xa.2.2]; exact e,l,p.off v.od (by nofun),f⟩,by rw [aj v.n2]; exact v.oa,by rw [aj v.n3]; exact v.ol,au,v.n1,v.n2,v.n3,v.hz⟩
def aZ.S7 (v:aZ N c S H lf told) (k:Nat):aZ N c { S with asked:=S.asked++[k] } (upd H c.av (.lst (nV S.asked++[.int (k:Int)]))) lf told:=by
 have:=v.Qv (S.asked++[k]); rw [og] at this; exact this
def aZ.Xf (v:aZ N c S H lf told) (k:Nat):aZ N c { S with bo:=S.bo++[k] } (upd H c.rd (.lst (nV S.bo++[.int (k:Int)]))) lf told:=by
 have:=v.HX (S.bo++[k]); rw [og] at this; exact this
def aZ.Vw (v:aZ N c S H lf told) (k:Nat):aZ N c { S with left:=S.left++[.inl k] } (upd H lf (.lst (S.left.map dZ++[.int (k:Int)]))) lf told:=by
 have:=v.uk (S.left++[.inl k]); rw [Ev] at this; exact this
def aZ.VR (v:aZ N c S H lf told) (ts:List (Sum Nat Str)):aZ N c { S with left:=S.left++ts } (upd H lf (.lst (S.left.map dZ++ts.map dZ))) lf told:=by
 have:=v.uk (S.left++ts); rw [Ev] at this; exact this
def aZ.fresh {y:Addr} (v:aZ N c S H lf told) (hy:H y=none):c.H0 y=none:=by
 cases e:c.H0 y with
 | none=>rfl
 | some o=>rw [v.s y o e] at hy; cases hy
def aZ.ab1 {l:Addr} {ts:List (Sum Nat Str)} (v:aZ N c S H lf told) (l0:c.H0 l=none) (hl:H l=some (.lst (ts.map dZ))) (n1:c.av≠l) (n3:l≠c.rd):∃ fs,H c.x=some (.ins N.CW c.dx fs)/\fs.length < 1000/\aZ N c { S with left:=ts } (upd H c.x (.ins N.CW c.dx (ax "left" (.ref l) fs))) l told:=by
 obtain ⟨fs,pv,e,le,p,f⟩:=v.o;have nx:c.x≠l:=bU e hl (by nofun);exact ⟨fs,e,by omega,⟨v.i,v.s.gx v.x0,v.x0,v.a0,l0,v.r0,⟨_,pv,au,by rw [ka (u:=.ref lf) ((f _).trans rfl)]; exact le,p.put ⟨fs,e⟩,fun g=>((f.put "left" (.ref l)) g).trans rfl⟩,by rw [aj (sB v.xa.1)]; exact v.oa,by rw [aj (sB nx)]; exact hl,by rw [aj (sB v.xa.2.2)]; exact v.od,n1,v.n2,n3,v.hz⟩⟩
def aZ.fld (v:aZ N c S H lf told):∃ fs pv,H c.x=some (.ins N.CW c.dx fs)/\fs.length < 1000/\dN fs (ue c.A.a c.z c.last c.root S.here pv S.step c.av lf c.rd S.read S.look told):=by
 obtain ⟨fs,pv,e,l,p,f⟩:=v.o;exact ⟨fs,pv,e,by omega,f⟩
def aZ.placed {p:Addr} {k:Nat} {nm:Str} (v:aZ N c S H lf told) (p0:c.H0 p=none) (hp:H p=some (.tup [.int (k:Int),.str nm])):∃ fs,H c.x=some (.ins N.CW c.dx fs)/\fs.length < 1000/\aZ N c { S with place:=some (k,nm) } (upd H c.x (.ins N.CW c.dx (ax "place" (.ref p) fs))) lf told:=by
 obtain ⟨fs,pv,e,l,_,f⟩:=v.o;exact ⟨fs,e,by omega,⟨v.i,v.s.gx v.x0,v.x0,v.a0,v.l0,v.r0,⟨_,.ref p,au,by rw [ka (u:=pv) ((f _).trans rfl)]; exact l,⟨p,rfl,p0,by rw [aj (sB (bU e hp (by nofun)))]; exact hp⟩,fun g=>((f.put "place" (.ref p)) g).trans rfl⟩,by rw [aj (sB v.xa.1)]; exact v.oa,by rw [aj (sB v.xa.2.1)]; exact v.ol,by rw [aj (sB v.xa.2.2)]; exact v.od,v.n1,v.n2,v.n3,v.hz⟩⟩
end
def SD (N:Cn):Sp:=FJ fun x h z last H Q _=>X6 fun A L M dx H0 (root:Nat)=>A7 (aE N.CH N.CS N.CT H0 A L M) (A.a=h) (H x=some (.ins N.CW dx [])) (ag H0 H) (H0 x=none) (aG (sD M.ro) (.inr z)=some (.int (root:Int))) (∀ av lf rd H',aZ N ⟨⟨L,M,z,last,root⟩,H0,A,x,dx,av,rd⟩ ⟨root,none,0,[],[],[],0,0⟩ H' lf .aw->Q .aw H')
def Sq:T.ud.k P w mg base 3 (SD T.cn):=by
 refine T.ud.F.ok Qp (fun _ _ _ _ h=>Kd h fun _ _ _ _ _=>rfl) fun ao A outer s H vs Q E hr h=>Kd h fun x hh z last h=>?_;obtain ⟨AA,L,M,dx,H0,root,i,rfl,hx,s0,x0,hz,q⟩:=h;refine bJ (b:=bb zK) ((ad (bA T.aJ T.fU (ac 0) (ac 1))
 (ad (bA T.aJ T.sd (ac 0) (ac 2))
 (ad (bA T.aJ T.LD (ac 0) (ac 3))
 (ad (bA T.aJ T.r9 (ac 0) (bw T.aO T.kK.h (Ds T) hr.m T.kK.b .nil az (ac 1) (aa (ac 2) ae)))
 (ad (bA T.aJ T.fN (ac 0) (ap T.aJ T.r9 (ac 0)))
 (ad (bA T.aJ T.wM (ac 0) aw)
 (ad (bA T.aJ T.zU (ac 0) am)
 (ad (bA T.aJ T.JH (ac 0) (cr ae))
 (ad (bA T.aJ T.nT (ac 0) (cr ae))
 (ad (bA T.aJ T.qj (ac 0) (cr ae))
 (ad (bA T.aJ T.Ap (ac 0) am)
 (ad (bA T.aJ T.Gn (ac 0) am)
 (ai (bA T.aJ T.ot (ac 0) aw))))))))))))))) ?_
 refine stI [some (V.ref x),some (V.ref AA.a),some (V.str z),some (V.bl last)] ?_;right;refine ⟨x,dx,_,rfl,hx,by decide,ah ?_⟩;left;refine ⟨x,dx,_,rfl,au,by walk_at "f",ah ?_⟩;left;refine ⟨x,dx,_,rfl,au,by walk_at "f",ah ?_⟩;simp only [mj];left;have s1:=s0.gx (o:=.ins T.bh dx (ax "last" (.bl last) (ax "asker" (.str z) (ax "house" (.ref AA.a) [])))) x0;have b1:upd H x (.ins T.bh dx (ax "last" (.bl last) (ax "asker" (.str z) (ax "house" (.ref AA.a) [])))) x=some (.ins T.bh dx (ax "last" (.bl last) (ax "asker" (.str z) (ax "house" (.ref AA.a) [])))):=au;generalize upd H x (.ins T.bh dx (ax "last" (.bl last) (ax "asker" (.str z) (ax "house" (.ref AA.a) []))))=H1 at s1 b1 ⊢;have i1:=i.same s1;obtain ⟨fs,c,bu,aY,sf⟩:=i1.h;refine (mI bu sf ⟨AA,L,M,root,i1,rfl,hz,?_⟩);refine ⟨x,dx,_,rfl,b1,by walk_at "f",ah ?_⟩;left;refine ⟨x,dx,_,_,rfl,au,rfl,x,dx,_,rfl,au,by walk_at "f",ah ?_⟩;left;refine ⟨x,dx,_,rfl,au,by walk_at "f",ah ?_⟩;left;refine ⟨x,dx,_,rfl,au,by walk_at "f",ah ?_⟩;simp only [mj];left;have Mc:dN (ax "step" (.int 0) (ax "place" .aw (ax "here" (.int (root:Int)) (ax "root" (.int (root:Int)) (ax "last" (.bl last) (ax "asker" (.str z) (ax "house" (.ref AA.a) []))))))) [("house",.ref AA.a),("asker",.str z),("last",.bl last),("root",.int (root:Int)),("here",.int (root:Int)),("place",.aw),("step",.int 0)]:=fun f=>rfl;have MD:(ax "step" (.int 0) (ax "place" .aw (ax "here" (.int (root:Int)) (ax "root" (.int (root:Int)) (ax "last" (.bl last) (ax "asker" (.str z) (ax "house" (.ref AA.a) []))))))).length<=10:=by (repeat (refine bV ?_)); exact Cl _
 generalize (ax "step" (.int 0) (ax "place" .aw (ax "here" (.int (root:Int)) (ax "root" (.int (root:Int)) (ax "last" (.bl last) (ax "asker" (.str z) (ax "house" (.ref AA.a) [])))))))=F7 at Mc MD ⊢;have s2:=s1.gx (o:=.ins T.bh dx F7) x0;have b2:upd H1 x (.ins T.bh dx F7) x=some (.ins T.bh dx F7):=au;generalize upd H1 x (.ins T.bh dx F7)=H2 at s2 b2 ⊢;have bH:∀ {J:Hp} {d:Addr},ag H0 J->J d=none->H0 d=none:=fun {J d} k hn=>by
  cases e:H0 d with
  | none=>rfl
  | some o=>rw [k d o e] at hn; cases hn
 refine ⟨fits (by simp),fun av u4=>?_⟩;refine ⟨x,dx,_,rfl,by rw [aj (aI b2 u4)]; exact b2,by omega,ah ?_⟩;obtain ⟨b3,o3,old3,n3⟩:=AJ (o:=.lst []) (O:=.ins T.bh dx (ax "asked" (.ref av) F7)) u4 b2;have s3:=(s2.trans (ag.upd (o:=.lst []) u4)).gx (o:=.ins T.bh dx (ax "asked" (.ref av) F7)) x0;have av0:=bH s2 u4;generalize upd (upd H2 av (.lst [])) x (.ins T.bh dx (ax "asked" (.ref av) F7))=H3 at b3 o3 old3 s3 ⊢;left;refine ⟨fits (by simp),fun lf hlf=>?_⟩;have l1:(ax "asked" (.ref av) F7).length<=11:=bV MD;refine ⟨x,dx,_,rfl,by rw [aj (aI b3 hlf)]; exact b3,by omega,ah ?_⟩;obtain ⟨b4,o4,MQ,n4⟩:=AJ (o:=.lst []) (O:=.ins T.bh dx (ax "left" (.ref lf) (ax "asked" (.ref av) F7))) hlf b3;have s4:=(s3.trans (ag.upd (o:=.lst []) hlf)).gx (o:=.ins T.bh dx (ax "left" (.ref lf) (ax "asked" (.ref av) F7))) x0;have lf0:=bH s3 hlf;have DP:av≠lf:=aI o3 hlf;have Fj:=MQ av _ n3 o3;generalize upd (upd H3 lf (.lst [])) x (.ins T.bh dx (ax "left" (.ref lf) (ax "asked" (.ref av) F7)))=H4 at b4 o4 MQ s4 Fj ⊢;left;refine ⟨fits (by simp),fun rd gQ=>?_⟩;have l2:(ax "left" (.ref lf) (ax "asked" (.ref av) F7)).length<=12:=bV l1;refine ⟨x,dx,_,rfl,by rw [aj (aI b4 gQ)]; exact b4,by omega,ah ?_⟩;obtain ⟨b5,o5,Eb,n5⟩:=AJ (o:=.lst []) (O:=.ins T.bh dx (ax "reading" (.ref rd) (ax "left" (.ref lf) (ax "asked" (.ref av) F7)))) gQ b4;have s5:=(s4.trans (ag.upd (o:=.lst []) gQ)).gx (o:=.ins T.bh dx (ax "reading" (.ref rd) (ax "left" (.ref lf) (ax "asked" (.ref av) F7)))) x0;have ND:=Eb av _ n3 Fj;have Nt:=Eb lf _ n4 o4;have rd0:=bH s4 gQ;have nar:av≠rd:=aI Fj gQ;have DT:lf≠rd:=aI o4 gQ;generalize upd (upd H4 rd (.lst [])) x (.ins T.bh dx (ax "reading" (.ref rd) (ax "left" (.ref lf) (ax "asked" (.ref av) F7))))=H5 at b5 o5 Eb s5 ND Nt ⊢;have l3:(ax "reading" (.ref rd) (ax "left" (.ref lf) (ax "asked" (.ref av) F7))).length<=13:=bV l2;left;refine ⟨x,dx,_,rfl,b5,by omega,ah ?_⟩;have l4:(ax "leads_read" (.int 0) (ax "reading" (.ref rd) (ax "left" (.ref lf) (ax "asked" (.ref av) F7)))).length<=14:=bV l3;left;refine ⟨x,dx,_,rfl,au,by omega,?_⟩;have l5:(ax "looked_up" (.int 0) (ax "leads_read" (.int 0) (ax "reading" (.ref rd) (ax "left" (.ref lf) (ax "asked" (.ref av) F7))))).length<=15:=bV l4;refine ⟨x,dx,_,rfl,au,by omega,?_⟩;simp only [mj];refine q av lf rd _ ⟨i,s5.gx x0,x0,av0,lf0,rd0,⟨_,.aw,au,u8 (bV l5) (by decide),rfl,fun f=>?_⟩,by rw [aj n3]; exact ND,by rw [aj n4]; exact Nt,by rw [aj n5]; exact o5,DP,nar,DT,hz⟩;exact ((((((Mc.put "asked" (.ref av)).put "left" (.ref lf)).put "reading" (.ref rd)).put "leads_read" (.int 0)).put "looked_up" (.int 0)).put "told" .aw f).trans rfl
abbrev B1 (k:Nat) (r:Str):List (Str×V):=ax "reason" (.str r) (ax "step" (.int (k:Int)) [])
inductive Tl
 | fail (y:Str)
 | ring (ns:List Nat)
def uL (N:Cn) (H0 H:Hp) (step:Nat) (fd:Addr):Tl->Prop
 | .fail y=>H0 fd=none/\∃ bx,H fd=some (.ins N.CF bx (B1 step y))
 | .ring ns=>H0 fd=none/\∃ bx rl,H fd=some (.ins N.CR bx (ax "leads" (.ref rl) []))/\H rl=some (.lst (nV ns))
structure tR (N:Cn) (c:Wc) (S:Ws) (lf:Addr) (o:Option Tl) (R:Hp->Prop):Prop where
 n:o=none->∀ H',aZ N c S H' lf .aw->R H'
 y:∀ t,o=some t->∀ fd H',aZ N c S H' lf (.ref fd)->uL N c.H0 H' S.step fd t->R H'
def Uq (N:Cn):Sp:=jN fun x r H Q _=>X3 fun c S lf=>A3 (c.x=x) (aZ N c S H lf .aw) (tR N c S lf (some (.fail r)) (Q .aw))
def aZ.tells {N:Cn} {c:Wc} {S:Ws} {H H4:Hp} {lf fd bx C:Addr} {F:List (Str×V)} {t:Tl} (v:aZ N c S H lf .aw) (bW:H fd=none) (s4:ag H H4) (b4:H4 fd=some (.ins C bx [])) :
  ∃ fs,upd H4 fd (.ins C bx F) c.x=some (.ins N.CW c.dx fs)/\fs.length < 1000/\aZ N c S (upd (upd H4 fd (.ins C bx F)) c.x (.ins N.CW c.dx (ax "told" (.ref fd) fs))) lf (.ref fd)/\c.H0 fd=none/\c.x≠fd:=by
 obtain ⟨fs,pv,hx,aY,sf⟩:=v.fld;have f0:=v.fresh bW;have nx:c.x≠fd:=aI hx bW;have v5:=(v.same s4).off (o':=.ins C bx F) f0 b4 nx (aI v.oa bW) (aI v.ol bW) (aI v.od bW) (by nofun);obtain ⟨yA,oT,ic,_,v6⟩:=v5.put "told" (.ref fd) S (.ref fd) .aw;exact ⟨yA,oT,ic,v6,f0,nx⟩
def se:T.g8.k P w mg base 3 (Uq T.cn):=by
 refine T.g8.F.ok TZ (fun _ _ _ _ h=>fk h fun _ _ _=>rfl) fun ao A outer s H vs Q E hr h=>fk h fun x r h=>?_;obtain ⟨c,S,lf,rfl,v,q⟩:=h;refine bJ (b:=bb yX) ((ai (bA T.aJ T.ot (ac 0) (jp T.RZ (acG T) hr.m T.Jb T.tu.b .nil az (aa (ap T.aJ T.zU (ac 0)) (aa (ac 1) ae)))))) ?_;refine stI [some (V.ref c.x),some (V.str r)] ?_;obtain ⟨fs,pv,hx,aY,sf⟩:=v.fld;left;refine (fI hx sf rfl (fun fd bx bW hdfd nfd=>?_));have s4:=(ag.upd (o:=.own fd) hdfd).trans (ag.upd (p:=fd) (o:=.ins T.eT bx []) (by rw [aj (sB nfd)]; exact bW));have b4:upd (upd H bx (.own fd)) fd (.ins T.eT bx []) fd=some (.ins T.eT bx []):=au;generalize upd (upd H bx (.own fd)) fd (.ins T.eT bx [])=H4 at s4 b4 ⊢;refine ⟨bx,b4,rfl,?_⟩;obtain ⟨yA,oT,ic,v6,f0,nx⟩:=v.tells (t:=.fail r) (F:=B1 S.step r) bW s4 b4;exact ⟨c.x,_,_,rfl,oT,ic,q.y _ rfl fd _ v6 ⟨f0,bx,by rw [aj (sB nx)]; exact au⟩⟩
def kW:List Nat->Nat
 | []=>0
 | [a]=>a
 | a::b::r=>min a (kW (b::r))
def Dz:∀ {ns:List Nat},ns≠[]->kW ns∈ns
 | [],h=>absurd rfl h
 | [a],_=>by simp [kW]
 | a::b::r,_=>by
  have:=Dz (ns:=b::r) (by simp);unfold kW;rcases Nat.le_total a (kW (b::r)) with h | h
  ·rw [Nat.min_eq_left h]; simp
  ·rw [Nat.min_eq_right h]; exact GE _ this
def Ko:∀ {ns:List Nat} {k:Nat},k∈ns->kW ns<=k
 | [a],k,h=>by rw [FM.mp h]; exact sK _
 | a::b::r,k,h=>by
  unfold kW;rcases mo.mp h with rfl | h
  ·exact Nat.min_le_left _ _
  ·exact u8 (Nat.min_le_right _ _) (Ko h)
def mO (ns:List Nat):List Nat:=ns.drop (ns.idxOf (kW ns))++ns.take (ns.idxOf (kW ns))
def K6 (ns:List Nat):nV ns=(ns.map (fun k:Nat=>(k:Int))).map V.int:=by
 unfold nV; rw [Tm]; rfl
def Aw (k:Nat):∀ ns:List Nat,(ns.map (fun k:Nat=>(k:Int))).idxOf (k:Int)=ns.idxOf k
 | []=>rfl
 | a::r=>by
  have h:((a:Int) == (k:Int))=(a == k):=by
   rw [UV,TD,TD]; omega
  rw [Ch,List.idxOf_cons,List.idxOf_cons,Aw k r,h]
def mem_cast {k:Nat} {ns:List Nat} (h:k∈ns):(k:Int)∈ns.map (fun k:Nat=>(k:Int)):=EQ.mpr ⟨k,h,rfl⟩
def UP:Sp:=ja fun l H Q _=>X1 fun (ns:List Nat)=>A4 (H l=some (.lst (nV ns))) (ns≠[]) (ns.length<=500) (∀ l' H',ag H H'->H l'=none->H' l'=some (.lst (nV (mO ns)))->Q (.ref l') H')
def aaW:T.pz.k P w base 1 UP:=by
 refine T.pz.F.ok Gg (fun _ _ _ _ h=>dv h fun _ _=>rfl) fun ao A outer s H vs Q E hr h=>dv h fun l h=>?_;obtain ⟨ns,hl,dY,hlen,q⟩:=h;refine bJ (b:=bb Dt) ((ad (aP 1 Gg.nd (iQ _L PySem.F.type_list_index (Lm (K:=K) rfl) (ac 0) (aa (bL (ab6 (K:=K) rfl rfl) T.Hr acx (aa (ac 0) ae)) ae)))
 (ai (aK (bv cW (li (uH (K:=K) rfl) (ac 0) (tO (ac 1)) uO) (li (uH (K:=K) rfl) (ac 0) uO (tO (ac 1)))))))) ?_
 refine stI [some (V.ref l),none] ?_;right;simp only [hl];have hS:aD K H l ((ns.map (fun k:Nat=>(k:Int))).map V.int):=aD.of (by rw [hl,K6]);refine ⟨_,_,hS,mem_cast (Dz dY),fun k hk=>?_,_,hS,mem_cast (Dz dY),nV ns,aD.of hl,fun p hp=>?_⟩
 ·obtain ⟨k',hk',rfl⟩:=EQ.mp hk;have:=Ko hk';omega
 rw [Aw,KH];refine eY hp fun H1 s1 b1=>?_;refine ⟨nV ns,aD.of (s1 _ _ hl),fun p2 cg=>?_⟩;rw [US];refine eY cg fun H2 s2 b2=>?_;simp only [s2 _ _ b1,b2];refine ⟨fits (by simp [nV]; omega),fun p3 ee=>?_⟩;refine q p3 _ ((s1.trans s2).trans (ag.upd ee)) ?_ ?_
 ·cases e:H p3 with
  | none=>rfl
  | some o=>rw [(s1.trans s2) _ _ e] at ee; cases ee
 ·rw [au];unfold mO nV;rw [Ev,List.map_drop,List.map_take]
def Y9 (C:Addr):Sp:=pT fun x l H Q _=>X2 fun dx ns=>A3 (H x=some (.ins C dx [])) (H l=some (.lst (nV ns))) (∀ rl,H rl=none->Q .aw (upd (upd H rl (.lst (nV ns))) x (.ins C dx (ax "leads" (.ref rl) []))))
def V6:T.uy.k P w mg base 1 (Y9 T.fZ):=by
 refine T.uy.F.ok RQ (fun _ _ _ _ h=>jS h fun _ _ _=>rfl) fun ao A outer s H vs Q E hr h=>jS h fun x l h=>?_;obtain ⟨dx,ns,hx,hl,q⟩:=h;refine bJ (b:=bb yU) ((ai (bA T.By T.Ik (ac 0) (wV (Rq (K:=K) rfl) T.tH GB (aa (ac 1) ae))))) ?_;refine stI [some (V.ref x),some (V.ref l)] ?_;left;simp only [bj,hl];exact fun rl gN=>⟨x,dx,_,rfl,by rw [aj (aI hx gN)]; exact hx,by decide,q rl gN⟩
def cq (ps:List Str):List (Sum Nat Str):=(ps.map Sum.inr).reverse
def HQ (ps:List Str):(cq ps).map dZ=(ps.map V.str).reverse:=by
 unfold cq;rw [List.map_reverse,Tm]; rfl
def Pd (N:Cn):Sp:=IB fun x fr lp H Q _=>GS fun c S lf (st:Nat) (b:Nat) (ps:List Str) (r:List Nat) (a:Ta) (t:Th) (sn:Bool)=>BB (c.x=x) (aZ N c S H lf .aw) (H lp=some (.lst (ps.map V.str))) (fr=true/\st=c.root\/fr=false/\aG (sD c.M.st) (.inr c.z)=some (.int (st:Int))) (c.L[st]?=some a) (c.M.ts[st]?=some t) (d6 c.M st b r) (∃ m,kR c.M c.L c.root m (dz b r) sn) (sn=true->∀ lf' H',aZ N c { S with here:=dz b r,left:=cq ps } H' lf' .aw->Q .aw H') (sn=false->tR N c { S with here:=dz b r } lf (some (.fail "outside")) (Q .aw))
def Zg:T.sJ.k P w mg base 7 (Pd T.cn):=by
 refine T.sJ.F.ok Ig (fun _ _ _ _ h=>JD h fun _ _ _ _=>rfl) fun ao A outer s H vs Q E hr h=>JD h fun x fr lp h=>?_;obtain ⟨c,S,lf,st,b,ps,r,a,t,sn,rfl,v,pe,aM,ha,ht,Et,Es,q1,q2⟩:=h;obtain ⟨fs,pv,hx,aY,sf⟩:=v.fld;refine bJ (b:=bb zw) ((ad (aP 3 Ig.nd (G2 (bO (ac 1)) (ap T.aJ T.r9 (ac 0)) (bw T.aO T.sX.h (QD T) hr.m T.sX.b .nil az (ap T.aJ T.fU (ac 0)) (aa (ap T.aJ T.sd (ac 0)) ae))))
 (ad (bA T.aJ T.fN (ac 0) (bi (vV T) hr.m T.gy.m T.gy.F.kp T.gy.b .nil az (aa (ap T.aJ T.fU (ac 0)) (aa (ac 3) ae))))
 (ai (aX (bO (bi (XD T) hr.m T.ra.m T.ra.F.kp T.ra.b .nil az (aa (ap T.aJ T.fU (ac 0)) (aa (ap T.aJ T.sd (ac 0)) (aa (ap T.aJ T.fN (ac 0)) ae))))) (ai (bA T.aJ T.nT (ac 0) (Dv.listRev (K:=K) rfl rfl T.tH T.zO (ac 2)))) (ai (aW (bw T.aJ T.g8.h (se T) hr.m T.g8.b .nil az (ac 0) (aa al ae))))))))) ?_
 refine stI [some (V.ref c.x),some (V.bl fr),some (V.ref lp),none] ?_;refine ck (fun σ' H'=>σ'=[some (V.ref c.x),some (V.bl fr),some (V.ref lp),some (V.int (st:Int))]/\H'=H) ?_ ?_
 ·left;rcases aM with ⟨rfl,rfl⟩ | ⟨rfl,aM⟩
  ·exact aV (fI hx sf rfl ⟨rfl,by trivial⟩)
  ·obtain ⟨lL,hc,hh,vv,jm⟩:=v.m.h;exact aQ (fI hx sf rfl (mI hh jm (fI hx sf rfl ⟨c.A,c.L,c.M,st,v.m,rfl,by rw [v.hz]; rfl,aM,rfl,by first | rfl | trivial⟩)))
 rintro σ' H' ⟨rfl,rfl⟩;right;refine (fI hx sf rfl ⟨c.A,c.L,c.M,st,b,r,a,t,v.m,rfl,rfl,ha,ht,Et,fun H1 s1=>?_⟩);have v1:=v.same s1;obtain ⟨iK,bu,jo,_,v2⟩:=v1.put "here" (.int ((dz b r:Nat):Int)) { S with here:=dz b r } .aw _;refine ⟨c.x,_,_,rfl,bu,by first | exact jo | exact oU | omega,?_⟩;have hlp1:=s1 _ _ pe;have Fo:lp≠c.x:=fun e=>by rw [e,hx] at pe; cases pe
 have NN:upd H1 c.x (.ins T.bh c.dx (ax "here" (.int ((dz b r:Nat):Int)) iK)) lp=some (.lst (ps.map V.str)):=by rw [aj Fo]; exact hlp1
 generalize upd H1 c.x (.ins T.bh c.dx (ax "here" (.int ((dz b r:Nat):Int)) iK))=H2 at v2 NN ⊢;obtain ⟨kf,o7,cz,jr,cB⟩:=v2.fld;left;refine (fI cz cB rfl (fI cz cB rfl (fI cz cB rfl ⟨c.A,c.L,c.M,dz b r,c.root,sn,v2.m,rfl,rfl,v2.hz,Es,fun H3 s3=>?_⟩)));have v3:=v2.same s3;cases sn
 ·obtain ⟨jk,ph,eL,hV,fe⟩:=v3.fld;exact aQ (mI eL fe ⟨c,_,lf,rfl,v3,q2 rfl⟩)
 ·refine aV ?_;refine ⟨lp,ps.map V.str,rfl,aD.of (s3 _ _ NN),fun l hl=>?_⟩;have v4:=v3.same (ag.upd (o:=.lst (ps.map V.str).reverse) hl);have b4:upd H3 l (.lst (ps.map V.str).reverse) l=some (.lst ((cq ps).map dZ)):=by rw [au,HQ]
  have l0:=v3.fresh hl;have DP:c.av≠l:=aI v3.oa hl;have DT:l≠c.rd:=sB (aI v3.od hl);generalize upd H3 l (.lst (ps.map V.str).reverse)=H4 at v4 b4 ⊢;obtain ⟨rL,gB,oU,v5⟩:=v4.ab1 l0 b4 DP DT;exact ⟨c.x,_,_,rfl,gB,by first | exact jo | exact oU | omega,q1 rfl l _ v5⟩
def jK (M:Hs) (L:List Ta) (root:Nat):Nat->Nat->List Str->Prop
 | n,k,ns=>∃ b r a t,L[k]?=some a/\M.ts[k]?=some t/\d6 M k b r /\
  if gd root (b::r)=true then ns=[]
  else ∃ ab tb f z,L[b]?=some ab/\M.ts[b]?=some tb/\tb.cQ=[(f,z)]/\match n with | 0=>False | n+1=>∃ ns',ns=ns'++[z]/\jK M L root n f ns'
def VZ (CH CS CT:Addr):Sp:=rX fun x z n H Q _=>X6 fun A L M (k:Nat) (root:Nat) ns=>A7 (aE CH CS CT H A L M) (A.a=x) (n=(k:Int)) (aG (sD M.ro) (.inr z)=some (.int (root:Int))) (∃ m,jK M L root m k ns) (ns.length<=500) (∀ l H',ag H H'->H' l=some (.lst (ns.map V.str))->Q (.ref l) H')
def Vh:T.qm.k P w base 6 (VZ T.aH T.aL T.aU):=by
 refine T.qm.F.ok qu (fun _ _ _ _ h=>jY h fun _ _ _ _=>rfl) fun ao A outer s H vs Q E hr h=>jY h fun x z n h=>?_;obtain ⟨AA,L,M,k,root,ns,i,rfl,rfl,hz,⟨m,hm⟩,hlen,q⟩:=h;obtain ⟨fs,c,hx,aY,sf⟩:=i.h;refine bJ (b:=bb Di) ((ad (aP 3 qu.nd (bw T.aO T.kK.h (Ds T) hr.m T.kK.b .nil az (ac 0) (aa (ac 1) ae)))
 (ad (aP 4 qu.nd (cr ae))
 (ad (aP 5 qu.nd (bi (pW T) hr.m T.eK.m T.eK.F.kp T.eK.b .nil az (aa (ac 0) (aa (ac 2) ae))))
 (ad (uF WF (bB (Aq (K:=K) rfl) (ac 3) (ac 5)) (ad (aP 6 qu.nd (bw T.aO T.kN.h (zd T) hr.m T.kN.b .nil az (ac 0) (aa (ci (bD (K:=K) rfl) (ac 5) am) ae)))
 (ad (aW (iQ IR KB l8 (ac 4) (aa (ci (bD (K:=K) rfl) (ac 6) am) ae)))
 (ai (aP 5 qu.nd (bi (pW T) hr.m T.eK.m T.eK.F.kp T.eK.b .nil az (aa (ac 0) (aa (ci (bD (K:=K) rfl) (ac 6) am) ae))))))))
 (ai (aK (Dv.listRev (K:=K) rfl rfl T.tH T.zO (ac 4))))))))) ?_
 refine stI [some (V.ref AA.a),some (V.str z),some (V.int (k:Int)),none,none,none,none] ?_;right;refine (mI hx sf ⟨AA,L,M,root,i,rfl,hz,?_⟩);right;refine ⟨fits (by simp),fun ln kj=>?_⟩;refine eY kj fun H1 s1 b1=>?_;have i1:=i.same s1;right;obtain ⟨b,r,a,t,ha,ht,aM,eA⟩:=(by unfold jK at hm; exact hm:∃ b r a t,L[k]?=some a/\M.ts[k]?=some t/\d6 M k b r/\_);refine ⟨AA,L,M,k,b,r,a,t,i1,rfl,rfl,ha,ht,aM,fun l2 H2 s2 hl20 cf=>?_⟩;have rT:=s1.trans s2;have c1:=s2 _ _ b1;obtain ⟨PV,lJ⟩:∃ PV:Nat->St->Hp->Prop,PV=fun m σ' H'=>ag H H'/\∃ (ls:Addr) (b:Nat) (r:List Nat) (cs ns':List Str) (pv:Option V),σ'=[some (V.ref AA.a),some (V.str z),some (V.int (k:Int)),some (V.int (root:Int)),some (V.ref ln),some (V.ref ls),pv]/\H' ls=some (.lst (nV (b::r)))/\H' ln=some (.lst (cs.map V.str))/\ns=ns'++cs.reverse /\
  (if gd root (b::r)=true then ns'=[]
   else ∃ ab tb f z,L[b]?=some ab/\M.ts[b]?=some tb/\tb.cQ=[(f,z)]/\match m with | 0=>False | n+1=>∃ ns'',ns'=ns''++[z]/\jK M L root n f ns''):=⟨_,rfl⟩
 refine ah ⟨PV,⟨m,by rw [lJ]; exact ⟨rT,l2,b,r,[],ns,none,rfl,cf,c1,by simp,eA⟩⟩,?_⟩;clear eA ha ht aM cf hl20 c1 hm rT s2;intro m σ' H' hI;rw [lJ] at hI;obtain ⟨s',ls,b,r,cs,ns',pv,rfl,N2,hln',eB,eA⟩:=hI;have i':=i.same s';obtain ⟨fs',c',hx',hfl',sf'⟩:=i'.h;left;refine ⟨_,.inl (aD.of N2),rfl,by simp [dq],?_⟩;rw [tX];cases hmem:gd root (b::r) with
 | true =>
  rw [AC hmem] at eA;subst eA;refine aQ ?_;left;refine ⟨ln,_,rfl,aD.of hln',fun l hl=>?_⟩;refine q l _ (s'.trans (ag.upd hl)) ?_;rw [au,eB,List.nil_append,List.map_reverse]
 | false =>
  rw [xL (by rw [hmem]; nofun)] at eA;obtain ⟨ab,tb,f,zz,ff,lS,bN,hn⟩:=eA;refine aV ⟨fun σ' H'=>∃ m',m' < m/\PV m' σ' H',fun σ' H' h=>h,?_⟩;right;simp only [bj,N2,nV,Ch,e8];refine ⟨AA.a,_,_,rfl,hx',(sf' _).trans rfl,AA,L,M,b,ab,tb,i',rfl,rfl,ff,lS,.inr ⟨f,zz,bN,fun p hp=>?_⟩⟩;right;simp only [hln',bj,hp,lC];cases m with
  | zero=>exact hn.elim
  | succ m =>
   obtain ⟨ns2,hns2,hn⟩:=hn;have ib:cs.length<=500:=by
    have:=Ps List.length eB;simp at this;omega
   refine ⟨oq (by rw [pp]; omega),?_⟩;have Fo:p≠ln:=bU hp hln' (by nofun);have s4:=s'.gx (o:=.lst (List.map V.str cs++[V.str zz])) kj;have b4:upd H' ln (.lst (List.map V.str cs++[V.str zz])) ln=some (.lst ((cs++[zz]).map V.str)):=by rw [au,Ev]; rfl
   have lX:upd H' ln (.lst (List.map V.str cs++[V.str zz])) p=some (.tup [V.int (f:Int),V.str zz]):=by rw [aj Fo]; exact hp
   generalize upd H' ln (.lst (List.map V.str cs++[V.str zz]))=H4 at s4 b4 lX ⊢;left;simp only [bj,lX,e8];obtain ⟨b2,r2,a2,t2,DV,nk,yB,Fi⟩:=(by unfold jK at hn; exact hn:∃ b r a t,L[f]?=some a/\M.ts[f]?=some t/\d6 M f b r/\_);refine ⟨AA,L,M,f,b2,r2,a2,t2,i.same s4,rfl,rfl,DV,nk,yB,fun l5 H5 s5 hl50 ic=>⟨m,On m,?_⟩⟩;rw [lJ];refine ⟨s4.trans s5,l5,b2,r2,cs++[zz],ns2,_,rfl,ic,s5 _ _ b4,?_,Fi⟩;rw [eB,hns2];simp
def rV {a b:Nat} (h:(some (V.int (a:Int)):Option V)=some (V.int (b:Int))):a=b:=by
 have h1:=Go h;injection h1 with h2;omega
def kP.uniq {M:Hs}:∀ {n m k a b:Nat},kP M n k a->kP M m k b->a=b
 | 0,0,_,_,_,h,h'=>by rw [h.2,h'.2]
 | 0,_+1,_,_,_,h,h'=>by obtain ⟨_,e,_⟩:=h'; rw [h.1] at e; cases e
 | _+1,0,_,_,_,h,h'=>by obtain ⟨_,e,_⟩:=h; rw [h'.1] at e; cases e
 | _+1,_+1,_,_,_,h,h'=>by
  obtain ⟨k1,e1,h1⟩:=h; obtain ⟨k2,e2,h2⟩:=h';rw [e1] at e2; cases rV e2; exact h1.uniq h2
def jz.uniq {M:Hs}:∀ {n m k:Nat} {a b:List Nat},jz M n k a->jz M m k b->a=b
 | 0,0,_,_,_,h,h'=>by rw [h.2,h'.2]
 | 0,_+1,_,_,_,h,h'=>by obtain ⟨_,_,e,_⟩:=h'; rw [h.1] at e; cases e
 | _+1,0,_,_,_,h,h'=>by obtain ⟨_,_,e,_⟩:=h; rw [h'.1] at e; cases e
 | _+1,_+1,_,_,_,h,h'=>by
  obtain ⟨k1,r1,e1,h1,rfl⟩:=h; obtain ⟨k2,r2,e2,h2,rfl⟩:=h';rw [e1] at e2; cases rV e2; rw [h1.uniq h2]
def d6.uniq {M:Hs} {k b b':Nat} {r r':List Nat} (h:d6 M k b r) (h':d6 M k b' r'):b=b'/\r=r':=by
 obtain ⟨⟨_,h1⟩,_,h2,_⟩:=h; obtain ⟨⟨_,h3⟩,_,h4,_⟩:=h';obtain rfl:=h1.uniq h3;exact ⟨rfl,h2.uniq h4⟩
inductive wY (c:Wd) (h:Nat):Nat->Prop
 | gS {a t b r}:c.L[h]?=some a->c.M.ts[h]?=some t->d6 c.M h b r->gd c.root (b::r)=true->wY c h h
 | up {a t b r ab tb f zz af tf b' r'}:c.L[h]?=some a->c.M.ts[h]?=some t->d6 c.M h b r->gd c.root (b::r)=false->c.L[b]?=some ab->c.M.ts[b]?=some tb->tb.cQ=[(f,zz)]->c.L[f]?=some af->c.M.ts[f]?=some tf->d6 c.M f b' r'->wY c h (dz b' r')
def VT (N:Cn):Sp:=ja fun x H Q _=>X4 fun c S lf h'=>A4 (c.x=x) (aZ N c S H lf .aw) (wY c.toWd S.here h') (∀ H',aZ N c { S with here:=h' } H' lf .aw->Q .aw H')
def Vc:T.uD.k P w mg base 7 (VT T.cn):=by
 refine T.uD.F.ok FU (fun _ _ _ _ h=>dv h fun _ _=>rfl) fun ao A outer s H vs Q E hr h=>dv h fun x h=>?_;obtain ⟨c,S,lf,h',rfl,v,hu,q⟩:=h;obtain ⟨fs,pv,hx,aY,sf⟩:=v.fld;refine bJ (b:=bb Cm) ((ad (aP 1 FU.nd (bi (pW T) hr.m T.eK.m T.eK.F.kp T.eK.b .nil az (aa (ap T.aJ T.fU (ac 0)) (aa (ap T.aJ T.fN (ac 0)) ae))))
 (ai (aX (bB (Aq (K:=K) rfl) (ap T.aJ T.r9 (ac 0)) (ac 1)) (ai (bA T.aJ T.fN (ac 0) (bi (vV T) hr.m T.gy.m T.gy.F.kp T.gy.b .nil az (aa (ap T.aJ T.fU (ac 0)) (aa (ci (bD (K:=K) rfl) (bw T.aO T.kN.h (zd T) hr.m T.kN.b .nil az (ap T.aJ T.fU (ac 0)) (aa (ci (bD (K:=K) rfl) (ac 1) am) ae)) am) ae))))) bn)))) ?_
 refine stI [some (V.ref c.x),none] ?_;obtain ⟨a,t,b,r,ha,aS,aM⟩:∃ a t b r,c.L[S.here]?=some a/\c.M.ts[S.here]?=some t/\d6 c.M S.here b r:=by
  cases hu <;> exact ⟨_,_,_,_,by assumption,by assumption,by assumption⟩
 right;refine (fI hx sf rfl (fI hx sf rfl ⟨c.A,c.L,c.M,S.here,b,r,a,t,v.m,rfl,rfl,ha,aS,aM,fun l H1 s1 hl0 hl=>?_⟩));have v1:=v.same s1;obtain ⟨iK,yg,bu,jo,dO⟩:=v1.fld;left;refine (fI bu dO rfl ⟨_,.inl (aD.of hl),rfl,by simp [dq],?_⟩);rw [tX];cases hu with
 | gS _ _ h1 hm =>
  obtain ⟨rfl,rfl⟩:=d6.uniq h1 aM;rw [hm];exact aQ (q _ v1)
 | up _ _ h1 hm ff lS bN iM cY hst' =>
  obtain ⟨rfl,rfl⟩:=d6.uniq h1 aM;rw [hm];refine aV ?_;obtain ⟨lL,hc,hh,vv,jm⟩:=v1.m.h;simp only [bj,hl,nV,Ch,e8];refine (fI bu dO rfl (fI bu dO rfl (mI hh jm ⟨c.A,c.L,c.M,_,_,_,v1.m,rfl,rfl,ff,lS,.inr ⟨_,_,bN,fun p hp=>?_⟩⟩)));simp only [hp,e8];refine ⟨c.A,c.L,c.M,_,_,_,_,_,v1.m,rfl,rfl,iM,cY,hst',fun H2 s2=>?_⟩;obtain ⟨kf,cz,jr,_,v2⟩:=(v1.same s2).put "here" _ { S with here:=dz _ _ } .aw _;exact ⟨c.x,_,_,rfl,cz,jr,q _ v2⟩
def YG:T.tw.k P w mg base 3 (lb T.aH T.aL T.aU Ad.a J1):=by
 refine T.tw.F.ok Z9 (fun _ _ _ _ h=>c8 h fun _ _ _=>rfl) fun ao A outer s H vs Q E hr h=>c8 h fun x n h=>?_;obtain ⟨AA,L,M,k,a,t,i,rfl,rfl,ha,aS,q⟩:=h;obtain ⟨fs,c,hx,aY,sf⟩:=i.h;obtain ⟨gs,c2,ht,eO,sg⟩:=i.t;have dG:=fL i ha aS;obtain ⟨ks,ho,ki,so⟩:=dG.o;refine ⟨_,((ai (aK (ap T.ej T.LB (eE T.cm T.ed.h (jU T) hr.m T.ed.b .nil gW (ap T.aO T.fv (ac 0)) (aa (ac 1) ae)))))).h,?_⟩;refine stI [some (V.ref AA.a),some (V.int (k:Int))] ?_;left;exact ⟨AA.a,_,_,.ref AA.t,rfl,hx,(sf _).trans rfl,AA.t,_,_,rfl,ht,(sg _).trans rfl,kX i ha aS (fI ho so rfl q)⟩
def Cj {n:Nat} (h:n<=9000):n<=sizeLine:=u8 h (by decide)
def Pn (ps:List (List Nat)):PV ps=(ps.map Tx.S).map V.str:=by
 unfold PV
 first | rfl | simp [Tm,Function.comp_def]
def jI (t:List Nat):List Str:=(told (Tx.words 47 t) t).map Tx.S
def tm (S:Ws) (k:Nat) (ps:List Str) (h:Nat):Ws:={ S with read:=S.read+1,bo:=S.bo++[k],left:=(S.left++[.inl k])++cq ps,here:=h }
inductive tP (c:Wd) (S:Ws) (k:Nat):Ws->Prop
 | mk {a tc t ar tr b r}:c.L[k]?=some a->c.M.ts[k]?=some tc->tc.tx=Tx.S t->1<=t.length->t.length<=2000->(Tx.words 47 t).all dD=true->(jI t).length<=124->c.L[c.root]?=some ar->c.M.ts[c.root]?=some tr->d6 c.M c.root b r->tP c S k (tm S k (jI t) (if fh t=true then dz b r else S.here))
def Qx (N:Cn):Sp:=mS fun x n H Q _=>X5 fun c S lf (k:Nat) S'=>A7 (c.x=x) (n=(k:Int)) (aZ N c S H lf .aw) (S.left.length<=8000) (S.bo.length<=900) (tP c.toWd S k S') (∀ H',aZ N c S' H' lf .aw->Q .aw H')
def Z2:T.tQ.k P w mg base 7 (Qx T.cn):=by
 refine T.tQ.F.ok Hd (fun _ _ _ _ h=>c8 h fun _ _ _=>rfl) fun ao A outer s H vs Q E hr h=>c8 h fun x n h=>?_;obtain ⟨c,S,lf,k,S',rfl,rfl,v,hl,gQ,hR,q⟩:=h;cases hR with
 | @mk a tc t ar tr b r ha oV rG h1 h2 m7 ME har nh aM =>
 refine bJ (b:=bb Br) ((ad (aP 2 Hd.nd (bi (iT T) hr.m T.bX.m T.bX.F.kp T.bX.b .nil az (aa (bw T.aO T.tw.h (YG T) hr.m T.tw.b .nil az (ap T.aJ T.fU (ac 0)) (aa (ac 1) ae)) ae)))
 (ad (mJ T.aJ T.Ap mV (ac 0) am)
 (ad (aW (iQ IR KB l8 (ap T.aJ T.qj (ac 0)) (aa (ac 1) ae)))
 (ad (aW (iQ IR KB l8 (ap T.aJ T.nT (ac 0)) (aa (ac 1) ae)))
 (ad (aW (iQ PySem.F.slot_list_extend PySem.F.type_list_extend Oy (ap T.aJ T.nT (ac 0)) (aa (Dv.listRev (K:=K) rfl rfl T.tH T.zO (ci (bD (K:=K) rfl) (ac 2) am)) ae)))
 (ai (aX (bO (ci (bD (K:=K) rfl) (ac 2) am)) (ai (bA T.aJ T.fN (ac 0) (bi (vV T) hr.m T.gy.m T.gy.F.kp T.gy.b .nil az (aa (ap T.aJ T.fU (ac 0)) (aa (ap T.aJ T.r9 (ac 0)) ae))))) bn)))))))) ?_
 refine stI [some (V.ref c.x),some (V.int (k:Int)),none] ?_;obtain ⟨fs,pv,hx,aY,sf⟩:=v.fld;obtain ⟨lL,hc,hh,vv,jm⟩:=v.m.h;right;refine (fI hx sf rfl (mI hh jm ⟨c.A,c.L,c.M,k,a,tc,v.m,rfl,rfl,ha,oV,?_⟩));simp only [J1];refine ⟨t,rG,h1,h2,m7,fun H1 l p s1 hl0 iV hp=>?_⟩;have v1:=v.same s1;obtain ⟨iK,bu,jo,lM,v2⟩:=v1.put "leads_read" (.int ((S.read:Int)+1)) { S with read:=S.read+1 } .aw _;right;refine ⟨c.x,_,_,_,rfl,bu,lM,_,_,rfl,rfl,_,_,bu,jo,ah ?_⟩;have hpx:p≠c.x:=fun e=>by rw [e,bu] at hp; cases hp
 have hlx:l≠c.x:=fun e=>by rw [e,bu] at iV; cases iV
 have cg:upd H1 c.x (.ins T.bh c.dx (ax "leads_read" (.int ((S.read:Int)+1)) iK)) p=some (HO.tup [V.bl (fh t),V.ref l]):=by rw [aj hpx]; exact hp
 have cf:upd H1 c.x (.ins T.bh c.dx (ax "leads_read" (.int ((S.read:Int)+1)) iK)) l=some (.lst (PV (told (Tx.words 47 t) t))):=by rw [aj hlx]; exact iV
 generalize upd H1 c.x (.ins T.bh c.dx (ax "leads_read" (.int ((S.read:Int)+1)) iK))=H2 at v2 cg cf ⊢;obtain ⟨kf,o7,cz,jr,cB⟩:=v2.fld;left;refine (fI cz cB rfl ?_);simp only [v2.od];have v3:=v2.Xf k;refine ⟨oq (by simp; omega),ah ?_⟩;have nl0:l≠c.rd:=fun e=>by rw [e] at hl0; rw [v.od] at hl0; cases hl0
 have ee:upd H2 c.rd (.lst (nV S.bo++[V.int (k:Int)])) p=some (HO.tup [V.bl (fh t),V.ref l]):=by rw [aj (sB (bU v2.od cg (by nofun)))]; exact cg
 have jO:upd H2 c.rd (.lst (nV S.bo++[V.int (k:Int)])) l=some (.lst (PV (told (Tx.words 47 t) t))):=by rw [aj nl0]; exact cf
 dsimp only at v3;generalize upd H2 c.rd (.lst (nV S.bo++[V.int (k:Int)]))=H3 at v3 ee jO ⊢;obtain ⟨jk,ph,eL,hV,fe⟩:=v3.fld;left;refine (fI eL fe rfl ?_);simp only [v3.ol];have v4:=v3.Vw k;refine ⟨wn (On _) (Cj (by simp; omega)),ah ?_⟩;have lX:upd H3 lf (.lst (S.left.map dZ++[V.int (k:Int)])) p=some (HO.tup [V.bl (fh t),V.ref l]):=by rw [aj (sB (bU v3.ol ee (by nofun)))]; exact ee
 have nll:l≠lf:=fun e=>by rw [e] at hl0; rw [v.ol] at hl0; cases hl0
 have ku:upd H3 lf (.lst (S.left.map dZ++[V.int (k:Int)])) l=some (.lst (PV (told (Tx.words 47 t) t))):=by rw [aj nll]; exact jO
 dsimp only at v4;generalize upd H3 lf (.lst (S.left.map dZ++[V.int (k:Int)]))=H4 at v4 lX ku ⊢;obtain ⟨rL,LX,gB,oU,pq⟩:=v4.fld;left;refine (fI gB pq rfl ?_);simp only [v4.ol];unfold Af;left;simp only [bj,lX,lC];refine ⟨l,_,rfl,aD.of ku,fun l5 ic=>?_⟩;rw [Pn,show (List.map V.str (List.map Tx.S (told (Tx.words 47 t) t))).reverse=(cq (jI t)).map dZ from (HQ _).symm];refine eY ic fun H5 s5 b5=>?_;have v5:=v4.same s5;have e5:H5 lf=some (.lst ((S.left++[Sum.inl k]).map dZ)):=v5.ol;simp only [e5,b5];have pe:(cq (jI t)).length<=124:=by unfold cq; simpa using ME
 refine ⟨Cj (by simp at hl pe ⊢; omega),?_⟩;have v6:=v5.VR (cq (jI t));have nu:=s5 _ _ lX;have uX:upd H5 lf (.lst ((S.left++[Sum.inl k]).map dZ++(cq (jI t)).map dZ)) p=some (HO.tup [V.bl (fh t),V.ref l]):=by rw [aj (sB (bU v5.ol nu (by nofun)))]; exact nu
 dsimp only at v6;generalize upd H5 lf (.lst ((S.left++[Sum.inl k]).map dZ++(cq (jI t)).map dZ))=H6 at v6 uX ⊢;simp only [uX,e8];cases hrt:fh t with
 | false =>
  rw [hrt] at q;exact aQ (q _ v6)
 | true =>
  rw [hrt] at q;refine aV ?_;obtain ⟨fs6,pv6,rS,hfl6,MJ⟩:=v6.fld;refine (fI rS MJ rfl (fI rS MJ rfl ⟨c.A,c.L,c.M,c.root,b,r,ar,tr,v6.m,rfl,rfl,har,nh,aM,fun H7 s7=>?_⟩));obtain ⟨fs7,EA,hfl7,_,v7⟩:=(v6.same s7).put "here" _ (tm S k (jI t) (dz b r)) .aw _;exact ⟨c.x,_,_,rfl,EA,hfl7,q _ v7⟩
def cU {b:Bool} {A B:Prop} {i:Decidable (b=true)} (h:b=false) (hb:B):if b=true then A else B:=by rw [xL (by rw [h]; decide)]; exact hb
def dC {b:Bool} {A B:Prop} {i:Decidable (b=true)} (h:b=true) (hb:A):if b=true then A else B:=by rw [AC h]; exact hb
section
variable {T:Tx K mg} {H:Hp} {A:Ad} {L:List Ta} {M:Hs}
def Kj {z s:Str} {k:Nat} {t:Th} {Q:VK} {E:XK} (i:aE T.aH T.aL T.aU H A L M) (hz:(aG (sD M.ro) (.inr z)).isSome=true) (hs:j0 (.str s)=true) (ht:M.ts[k]?=some t) (q:Q (.bl (cI s (dk t z))) H):J5 T.aH T.aL T.aU T.bY T.cb T.gR [.ref A.a,.str z,.int k,.str s] H Q E:=by
 refine ⟨A,L,M,i,rfl,⟨_,rfl⟩,⟨_,rfl⟩,⟨_,rfl⟩,fun h=>(by rw [h z rfl] at hz; cases hz),fun z' e _=>?_⟩;cases e;refine ⟨fun h=>(by rw [hs] at h; cases h),fun s' e _=>?_⟩;cases e;have bK:=(sw.mp ht).1;refine ⟨fun h=>absurd bK (h k rfl),fun k' t' e ht'=>?_⟩;cases e;rw [ht] at ht';cases ht';exact q
end
def PZ {k:Nat} {l:List Nat} (h:k∈l):gd k l=true:=List.any_eq_true.mpr ⟨k,h,by simp⟩
def GI {k:Nat} {l:List Nat} (h:k ∉ l):gd k l=false:=by
 unfold gd;rw [List.any_eq_false];intro x hx e;exact h (by rw [<- eq_of_beq e]; exact hx)
inductive rW (c:Wd) (S:Ws) (k:Nat):Ws->Option Tl->Prop
 | ring:k∈S.bo->rW c S k S (some (.ring (mO (S.bo.drop (S.bo.idxOf k)))))
 | many:k ∉ S.bo->S.read=40->rW c S k S (some (.fail "many"))
 | read {S'}:k ∉ S.bo->S.read≠40->tP c S k S'->rW c S k S' none
def Qh (N:Cn):Sp:=mS fun x n H Q _=>X6 fun c S lf (k:Nat) S' o=>A7 (c.x=x) (n=(k:Int)) (aZ N c S H lf .aw) (S.left.length<=8000) (S.bo.length<=400) (rW c.toWd S k S' o) (tR N c S' lf o (Q .aw))
def acy:T.uE.k P w mg base 8 (Qh T.cn):=by
 refine T.uE.F.ok P0 (fun _ _ _ _ h=>c8 h fun _ _ _=>rfl) fun ao A outer s H vs Q E hr h=>c8 h fun x n h=>?_;obtain ⟨c,S,lf,k,S',o,rfl,rfl,v,hl,gQ,hR,q⟩:=h;refine bJ (b:=bb B9) ((ai (aX (bB (wG (K:=K) rfl) (ac 1) (ap T.aJ T.qj (ac 0))) (ai (bA T.aJ T.ot (ac 0) (jp T.TY (V6 T) hr.m T.ZH T.uy.b .nil az (aa (bi (aaW T) hr.m T.pz.m T.pz.F.kp T.pz.b .nil az (aa (li (uH (K:=K) rfl) (ap T.aJ T.qj (ac 0)) (tO (iQ _L PySem.F.type_list_index (Lm (K:=K) rfl) (ap T.aJ T.qj (ac 0)) (aa (ac 1) ae))) uO) ae)) ae)))) (ai (aX (bB eZ (ap T.aJ T.Ap (ac 0)) (dL (.int 40) T.OS ⟨_,rfl⟩)) (ai (aW (bw T.aJ T.g8.h (se T) hr.m T.g8.b .nil az (ac 0) (aa al ae)))) (ai (aW (bw T.aJ T.tQ.h (Z2 T) hr.m T.tQ.b .nil az (ac 0) (aa (ac 1) ae))))))))) ?_;refine stI [some (V.ref c.x),some (V.int (k:Int))] ?_;obtain ⟨fs,pv,hx,aY,sf⟩:=v.fld;left;refine (fI hx sf rfl ⟨_,.inl (aD.of v.od),rfl,by simp [dq],?_⟩);rw [tX];cases hR with
 | many hk hm =>
  rw [GI hk];refine aQ (fI hx sf rfl ?_);refine dC (wP (by omega)) (mI hx sf ⟨c,S,lf,rfl,v,q⟩)
 | read hk hm hR =>
  rw [GI hk];refine aQ (fI hx sf rfl ?_);refine cU (pc (by omega)) (mI hx sf ⟨c,S,lf,k,_,rfl,rfl,v,hl,by omega,hR,q.n rfl⟩)
 | ring hk =>
  rw [PZ hk];refine aV (fI hx sf rfl (fI hx sf rfl ?_));simp only [v.od];refine ⟨_,aD.of (by rw [v.od,K6]),mem_cast hk,nV S.bo,aD.of v.od,fun p hp=>?_⟩;rw [Aw,KH];have e1:List.drop (S.bo.idxOf k) (nV S.bo)=nV (S.bo.drop (S.bo.idxOf k)):=by unfold nV; rw [List.map_drop]
  rw [e1];refine eY hp fun H1 s1 b1=>?_;have hj:S.bo.idxOf k < S.bo.length:=List.idxOf_lt_length_iff.mpr hk;refine ⟨_,b1,fun e=>by have:=Ps List.length e; simp at this; omega,by simp; omega,fun l2 H2 s2 l20 cf=>?_⟩;intro fd bx bW hdfd nfd;have v2:=(v.same s1).same s2;have s4:=(ag.upd (o:=.own fd) hdfd).trans (ag.upd (p:=fd) (o:=.ins T.fZ bx []) (by rw [aj (sB nfd)]; exact bW));have b4:upd (upd H2 bx (.own fd)) fd (.ins T.fZ bx []) fd=some (.ins T.fZ bx []):=au;generalize upd (upd H2 bx (.own fd)) fd (.ins T.fZ bx [])=H4 at s4 b4 ⊢;refine ⟨bx,_,b4,s4 _ _ cf,fun rl gN=>?_⟩;have s5:=s4.trans (ag.upd (o:=.lst (nV (mO (S.bo.drop (S.bo.idxOf k))))) gN);have b5:upd H4 rl (.lst (nV (mO (S.bo.drop (S.bo.idxOf k))))) fd=some (.ins T.fZ bx []):=by rw [aj (aI b4 gN)]; exact b4
  have c5:upd H4 rl (.lst (nV (mO (S.bo.drop (S.bo.idxOf k))))) rl=some (.lst (nV (mO (S.bo.drop (S.bo.idxOf k))))):=au;have nr:=aI b4 gN;generalize upd H4 rl (.lst (nV (mO (S.bo.drop (S.bo.idxOf k)))))=H5 at s5 b5 c5 ⊢;obtain ⟨yA,oT,ic,v6,f0,nx⟩:=v2.tells (t:=.ring []) (F:=ax "leads" (.ref rl) []) bW s5 b5;have nrx:rl≠c.x:=fun e=>by rw [e] at c5; obtain ⟨fs7,pv7,EA,_⟩:=(v2.same s5).fld; rw [EA] at c5; cases c5
  exact ⟨rfl,c.x,_,_,rfl,oT,ic,q.y _ rfl fd _ v6 ⟨f0,bx,rl,by rw [aj (sB nx),au],by rw [aj nrx,aj (sB nr)]; exact c5⟩⟩
inductive rb (c:Wd) (S:Ws) (t:Th) (p:Str):Ws->Option Tl->Prop
 | no:aG (sD t.aR) (.inr p)=none->rb c S t p { S with look:=S.look+1 } (some (.fail "none"))
 | folder {k a tc b r}:aG (sD t.aR) (.inr p)=some (.int ((k:Nat):Int))->c.L[k]?=some a->c.M.ts[k]?=some tc->tc.kd=("folder" : Str)->d6 c.M k b r->rb c S t p { S with look:=S.look+1,here:=dz b r } none
 | fin {k a tc}:aG (sD t.aR) (.inr p)=some (.int ((k:Nat):Int))->c.L[k]?=some a->c.M.ts[k]?=some tc->tc.kd≠("folder" : Str)->(tc.kd=("file" : Str)\/S.left=[]/\c.last=false)->rb c S t p { S with look:=S.look+1,place:=some (S.here,p),here:=k } none
 | lead {k a tc S' o}:aG (sD t.aR) (.inr p)=some (.int ((k:Nat):Int))->c.L[k]?=some a->c.M.ts[k]?=some tc->tc.kd≠("folder" : Str)->tc.kd≠("file" : Str)->¬ (S.left=[]/\c.last=false)->rW c { S with look:=S.look+1 } k S' o->rb c S t p S' o
def zR {T:Tx K mg} {c:Wc} {S:Ws} {H:Hp} {lf:Addr} {k:Nat} {nm:Str} {v3:Option V} {R:Hp->Prop} {Q:VK} (v2:aZ T.cn c S H lf .aw) (q:∀ H',aZ T.cn c { S with place:=some (S.here,nm),here:=k } H' lf .aw->R H') :
  nK (tZ T.bh "place" (iY 0) (xJ (oi (wJ T.bh "here" (iY 0)) (oi (iY 1) jE)))) (tZ T.bh "here" (iY 0) (iY 2)) { nx:=fun _ H'=>R H',rt:=Q } [some (V.ref c.x),some (V.str nm),some (V.int (k:Int)),v3] H:=by
 obtain ⟨kf,o7,cz,jr,cB⟩:=v2.fld;right;refine (fI cz cB rfl ⟨fits (by simp),fun p hp=>?_⟩);have w3:=v2.same (ag.upd (o:=.tup [V.int (S.here:Int),V.str nm]) hp);have b3:upd H p (.tup [V.int (S.here:Int),V.str nm]) p=some (.tup [V.int (S.here:Int),V.str nm]):=au;have p0:=v2.fresh hp;generalize upd H p (.tup [V.int (S.here:Int),V.str nm])=H3 at w3 b3 ⊢;obtain ⟨jk,eL,hV,v4⟩:=w3.placed p0 b3;refine ⟨c.x,_,_,rfl,eL,hV,?_⟩;generalize upd H3 c.x _=H4 at v4 ⊢;obtain ⟨rL,gB,oU,_,v5⟩:=v4.put "here" (.int (k:Int)) { S with place:=some (S.here,nm),here:=k } .aw _;exact ⟨c.x,_,_,rfl,gB,oU,q _ v5⟩
def aaY (N:Cn):Sp:=jN fun x nm H Q _=>X7 fun c S lf a t S' o=>BB (c.x=x) (aZ N c S H lf .aw) (c.L[S.here]?=some a) (c.M.ts[S.here]?=some t) (fG (.str nm)=true) (nm.length<=1000) (S.left.length<=8000) (S.bo.length<=400) (rb c.toWd S t nm S' o) (tR N c S' lf o (Q .aw))
def QQ:T.uM.k P w mg base 9 (aaY T.cn):=by
 refine T.uM.F.ok zk (fun _ _ _ _ h=>fk h fun _ _ _=>rfl) fun ao A outer s H vs Q E hr h=>fk h fun x nm h=>?_;obtain ⟨c,S,lf,a,t,S',o,rfl,v,ha,aS,hn,uY,u6,gQ,hb,q⟩:=h;refine bJ (b:=bb zt) ((ad (mJ T.aJ T.Gn mV (ac 0) am)
 (ad (aP 2 zk.nd (bw T.aO T.kS.h (zW T) hr.m T.kS.b .nil az (ap T.aJ T.fU (ac 0)) (aa (ap T.aJ T.fN (ac 0)) (aa (ac 1) ae))))
 (ad (aX (bB tS (ac 2) aw) (ad (aW (bw T.aJ T.g8.h (se T) hr.m T.g8.b .nil az (ac 0) (aa al ae)))
 (ai HV)) bn)
 (ad (aP 3 zk.nd (bw T.aO T.lB.h (B8 T) hr.m T.lB.b .nil az (ap T.aJ T.fU (ac 0)) (aa (ac 2) ae)))
 (ai (aX (bB eZ (ac 3) (dL (.str "folder") T.wN ⟨_,rfl⟩)) (ai (bA T.aJ T.fN (ac 0) (bi (vV T) hr.m T.gy.m T.gy.F.kp T.gy.b .nil az (aa (ap T.aJ T.fU (ac 0)) (aa (ac 2) ae))))) (ai (aX (fF (ii (bB eZ (ac 3) (dL (.str "file") T.Ct ⟨_,rfl⟩)) (iF (fF (kt (bB (abg (K:=K) rfl hr.sR) (ap T.aJ T.nT (ac 0)) (cr ae)) (sr (dW (bO (ap T.aJ T.LD (ac 0)))))))))) (ad (bA T.aJ T.wM (ac 0) (em (aa (ap T.aJ T.fN (ac 0)) (aa (ac 1) ae))))
 (ai (bA T.aJ T.fN (ac 0) (ac 2)))) (ai (aW (bw T.aJ T.uE.h (acy T) hr.m T.uE.b .nil az (ac 0) (aa (ac 2) ae))))))))))))) ?_
 refine stI [some (V.ref c.x),some (V.str nm),none,none] ?_;obtain ⟨fs,hx,aY,lM,v1⟩:=v.put "looked_up" (.int ((S.look:Int)+1)) { S with look:=S.look+1 } .aw _;right;refine ⟨c.x,_,_,_,rfl,hx,lM,_,_,rfl,rfl,_,_,hx,aY,ah ?_⟩;generalize upd H c.x (.ins T.bh c.dx (ax "looked_up" (.int ((S.look:Int)+1)) fs))=H1 at v1 ⊢;obtain ⟨iK,yg,bu,jo,dO⟩:=v1.fld;obtain ⟨lL,hc,hh,vv,jm⟩:=v1.m.h;left;refine (fI bu dO rfl (mI hh jm (fI bu dO rfl ⟨c.A,c.L,c.M,S.here,a,t,v1.m,rfl,rfl,ha,aS,hn,uY,fun H2 s2=>?_⟩)));have v2:=v1.same s2;obtain ⟨kf,o7,cz,jr,cB⟩:=v2.fld;obtain ⟨hfs2,Fd,NY,hhl2,hsf2⟩:=v2.m.h;by_cases hno:aG (sD t.aR) (.inr nm)=none
 ·have he:S'={ S with look:=S.look+1 }/\o=some (.fail "none"):=by
   cases hb with
   | no _=>exact ⟨rfl,rfl⟩
   | folder h1=>rw [hno] at h1; cases h1
   | fin h1=>rw [hno] at h1; cases h1
   | lead h1=>rw [hno] at h1; cases h1
  obtain ⟨rfl,rfl⟩:=he;rw [hno];right;refine ⟨by trivial,aV ?_⟩;right;exact (mI cz cB ⟨c,_,lf,rfl,v2,q⟩)
 obtain ⟨k,ak,tc,hv,oY,oV⟩:∃ k a tc,aG (sD t.aR) (.inr nm)=some (.int ((k:Nat):Int))/\c.L[k]?=some a/\c.M.ts[k]?=some tc:=by
  cases hb with
  | no h=>exact absurd h hno
  | folder h1 h2 h3=>exact ⟨_,_,_,h1,h2,h3⟩
  | fin h1 h2 h3=>exact ⟨_,_,_,h1,h2,h3⟩
  | lead h1 h2 h3=>exact ⟨_,_,_,h1,h2,h3⟩
 rw [hv];right;refine ⟨by trivial,?_⟩;rw [pc (by nofun)];refine aQ ?_;right;refine (fI cz cB rfl (mI NY hsf2 ⟨c.A,c.L,c.M,k,ak,tc,v2.m,rfl,rfl,oY,oV,?_⟩));simp only [vA];cases hb with
 | no h=>exact absurd h hno
 | folder h1 h2 h3 eg aM =>
  rw [hv] at h1; cases rV h1; rw [oV] at h3; cases h3;simp only [eg,decide_true];left;refine (fI cz cB rfl ⟨c.A,c.L,c.M,k,_,_,ak,_,v2.m,rfl,rfl,oY,oV,aM,fun H3 s3=>?_⟩);obtain ⟨jk,eL,hV,_,v3⟩:=(v2.same s3).put "here" _ { S with look:=S.look+1,here:=dz _ _ } .aw _;exact ⟨c.x,_,_,rfl,eL,hV,q.n rfl _ v3⟩
 | fin h1 h2 h3 eg hf =>
  rw [hv] at h1; cases rV h1; rw [oV] at h3; cases h3;rw [pc eg];refine aQ ?_;left;rcases hf with hf | ⟨hle,hla⟩
  ·exact dC (wP hf) ((AC trivial).mpr (zR v2 (q.n rfl)))
  ·by_cases hf:tc.kd=("file" : Str)
   ·exact dC (wP hf) ((AC trivial).mpr (zR v2 (q.n rfl)))
   refine cU (pc hf) (fI cz cB rfl ⟨fits (by simp),fun d hd=>?_⟩);have v3:=v2.same (ag.upd (o:=.lst []) hd);have b3:upd H2 d (.lst []) d=some (.lst []):=au;generalize upd H2 d (.lst [])=H3 at v3 b3 ⊢;obtain ⟨jk,ph,eL,hV,fe⟩:=v3.fld;refine ⟨_,[],aD.of v3.ol,aD.of b3,.inl ⟨rfl,?_⟩⟩;refine dC (by rw [show ({ S with look:=S.look+1 }:Ws).left=[] from hle]; rfl) (fI eL fe rfl (dC (by rw [hla]; rfl) (zR v3 (q.n rfl))))
 | lead h1 h2 h3 eg uW uY hm =>
  rw [hv] at h1; cases rV h1; rw [oV] at h3; cases h3;rw [pc eg];refine aQ ?_;left;refine cU (pc uW) (fI cz cB rfl ⟨fits (by simp),fun d hd=>?_⟩);have v3:=v2.same (ag.upd (o:=.lst []) hd);have b3:upd H2 d (.lst []) d=some (.lst []):=au;generalize upd H2 d (.lst [])=H3 at v3 b3 ⊢;obtain ⟨jk,ph,eL,hV,fe⟩:=v3.fld;refine ⟨_,[],aD.of v3.ol,aD.of b3,.inl ⟨rfl,?_⟩⟩;by_cases hle:S.left=[]
  ·refine dC (by rw [show ({ S with look:=S.look+1 }:Ws).left=[] from hle]; rfl) (fI eL fe rfl ?_);refine cU (by cases hb:c.last with | false=>exact absurd ⟨hle,hb⟩ uY | true=>rfl) ?_;exact (mI eL fe ⟨c,_,lf,k,S',o,rfl,rfl,v3,u6,gQ,hm,q⟩)
  ·refine cU (by cases h:S.left with | nil=>exact absurd h hle | cons _ _=>rfl) (aQ ?_);exact (mI eL fe ⟨c,_,lf,k,S',o,rfl,rfl,v3,u6,gQ,hm,q⟩)
structure BE (c:Wd) (S:Ws) (t:Th):Prop where
 l:∃ a,c.L[S.here]?=some a
 e:c.M.ts[S.here]?=some t
 k:t.kd=("folder" : Str)
 g:cI ("g" : Str) (dk t c.z)=true
def dP (S:Ws):Ws:={ S with step:=S.step+1,asked:=S.asked++[S.here] }
inductive gI (c:Wd) (S:Ws) (p:Str):Ws->Option Tl->Prop
 | flat {a t}:c.L[S.here]?=some a->c.M.ts[S.here]?=some t->t.kd≠("folder" : Str)->gI c S p { S with step:=S.step+1 } (some (.fail "flat"))
 | uw {a t}:c.L[S.here]?=some a->c.M.ts[S.here]?=some t->t.kd=("folder" : Str)->cI ("g" : Str) (dk t c.z)=false->gI c S p (dP S) (some (.fail "shut"))
 | dot {t}:BE c S t->p=("." : Str)->gI c S p (dP S) none
 | up {t h}:BE c S t->p=(".." : Str)->wY c S.here h->gI c S p { dP S with here:=h } none
 | go {t S' o}:BE c S t->p≠(".." : Str)->p≠("." : Str)->fG (.str p)=true->p.length<=1000->rb c (dP S) t p S' o->gI c S p S' o
def P2 (N:Cn):Sp:=jN fun x p H Q _=>X5 fun c S lf S' o=>A7 (c.x=x) (aZ N c S H lf .aw) (S.asked.length<=8000) (S.left.length<=8000) (S.bo.length<=400) (gI c.toWd S p S' o) (tR N c S' lf o (Q .aw))
def We:T.tD.k P w mg base 10 (P2 T.cn):=by
 refine T.tD.F.ok abB (fun _ _ _ _ h=>fk h fun _ _ _=>rfl) fun ao A outer s H vs Q E hr h=>fk h fun x p h=>?_;obtain ⟨c,S,lf,S',o,rfl,v,hn,u6,gQ,hp,q⟩:=h;obtain ⟨a,t,ha,aS⟩:∃ a t,c.L[S.here]?=some a/\c.M.ts[S.here]?=some t:=by
  cases hp with
  | flat h1 h2=>exact ⟨_,_,h1,h2⟩
  | uw h1 h2=>exact ⟨_,_,h1,h2⟩
  | dot h=>obtain ⟨a,e⟩:=h.l; exact ⟨a,_,e,h.e⟩
  | up h=>obtain ⟨a,e⟩:=h.l; exact ⟨a,_,e,h.e⟩
  | go h=>obtain ⟨a,e⟩:=h.l; exact ⟨a,_,e,h.e⟩
 refine bJ (b:=bb AY) ((ad (mJ T.aJ T.zU mV (ac 0) am)
 (ad (aX (bB iG (bw T.aO T.lB.h (B8 T) hr.m T.lB.b .nil az (ap T.aJ T.fU (ac 0)) (aa (ap T.aJ T.fN (ac 0)) ae)) (dL (.str "folder") T.wN ⟨_,rfl⟩)) (ad (aW (bw T.aJ T.g8.h (se T) hr.m T.g8.b .nil az (ac 0) (aa al ae)))
 (ai HV)) bn)
 (ad (aW (iQ IR KB l8 (ap T.aJ T.JH (ac 0)) (aa (ap T.aJ T.fN (ac 0)) ae)))
 (ai (aX (dW (bO (eE T.aO T.oj.h (Jv T) hr.m T.oj.b .nil gW (ap T.aJ T.fU (ac 0)) (aa (ap T.aJ T.sd (ac 0)) (aa (ap T.aJ T.fN (ac 0)) (aa al ae)))))) (ai (aW (bw T.aJ T.g8.h (se T) hr.m T.g8.b .nil az (ac 0) (aa al ae)))) (ai (aX (bB eZ (ac 1) al) (ai (aW (my T.aJ T.uD.h (Vc T) hr.m T.uD.b .nil az (ac 0)))) (ai (aX (bB iG (ac 1) al) (ai (aW (bw T.aJ T.uM.h (QQ T) hr.m T.uM.b .nil az (ac 0) (aa (ac 1) ae)))) bn)))))))))) ?_
 refine stI [some (V.ref c.x),some (V.str p)] ?_;obtain ⟨fs,hx,aY,lM,v1⟩:=v.put "step" (.int ((S.step:Int)+1)) { S with step:=S.step+1 } .aw _;right;refine ⟨c.x,_,_,_,rfl,hx,lM,_,_,rfl,rfl,_,_,hx,aY,ah ?_⟩;generalize upd H c.x (.ins T.bh c.dx (ax "step" (.int ((S.step:Int)+1)) fs))=H1 at v1 ⊢;obtain ⟨iK,yg,bu,jo,dO⟩:=v1.fld;obtain ⟨lL,hc,hh,vv,jm⟩:=v1.m.h;left;refine (fI bu dO rfl (mI hh jm (fI bu dO rfl ⟨c.A,c.L,c.M,S.here,a,t,v1.m,rfl,rfl,ha,aS,?_⟩)));simp only [vA];by_cases eg:t.kd=("folder" : Str)
 ·simp only [eg,decide_true];refine aQ ?_;right;refine (fI bu dO rfl ?_);simp only [v1.oa];refine (fI bu dO rfl ?_);have v2:=v1.S7 S.here;refine ⟨wn (On _) (Cj (by simp; omega)),?_⟩;dsimp only at v2;generalize upd H1 c.av (.lst (nV S.asked++[.int (S.here:Int)]))=H2 at v2 ⊢;obtain ⟨kf,o7,cz,jr,cB⟩:=v2.fld;obtain ⟨fX,gc,gh,f6,bP⟩:=v2.m.h;refine (fI cz cB rfl (mI gh bP (fI cz cB rfl (fI cz cB rfl (Kj v2.m (by rw [v2.hz]; rfl) (by symm) aS ?_)))));cases hp with
  | flat h1 h2 h3=>rw [aS] at h2; cases h2; exact absurd eg h3
  | uw h1 h2 h3 h4 =>
   rw [aS] at h2; cases h2;rw [h4];exact aV (mI cz cB ⟨c,_,lf,rfl,v2,q⟩)
  | dot hA h5 =>
   have h2:=hA.e; rw [aS] at h2; cases h2;subst h5;rw [hA.g];exact aQ (cU (pc (by symm)) (cU (by rw [wP rfl]; rfl) (q.n rfl _ v2)))
  | up hA h5 hu =>
   have h2:=hA.e; rw [aS] at h2; cases h2;subst h5;rw [hA.g];exact aQ (dC (wP rfl) (mI cz cB ⟨c,_,lf,_,rfl,v2,hu,q.n rfl⟩))
  | go hA h5 h6 h7 h8 hb =>
   have h2:=hA.e; rw [aS] at h2; cases h2;rw [hA.g];exact aQ (cU (pc h5) (dC (by rw [pc h6]; rfl) (mI cz cB ⟨c,_,lf,a,_,_,_,rfl,v2,ha,aS,h7,h8,u6,gQ,hb,q⟩)))
 ·refine dC (by rw [pc eg]; rfl) ?_;right;have hf:S'={ S with step:=S.step+1 }/\o=some (.fail "flat"):=by
   cases hp with
   | flat h1 h2 h3=>exact ⟨rfl,rfl⟩
   | uw h1 h2 h3 h4=>rw [aS] at h2; cases h2; exact absurd h3 eg
   | dot hA=>have h2:=hA.e; rw [aS] at h2; cases h2; exact absurd hA.k eg
   | up hA=>have h2:=hA.e; rw [aS] at h2; cases h2; exact absurd hA.k eg
   | go hA=>have h2:=hA.e; rw [aS] at h2; cases h2; exact absurd hA.k eg
  obtain ⟨rfl,rfl⟩:=hf;exact (mI bu dO ⟨c,_,lf,rfl,v1,q⟩)
def K0 (c:Nat):∀ (ns:List Str) (n:Nat),(∀ s∈ns,s.length<=8)->ns.foldl (fun n z=>n+z.length+c) n<=n+(8+c) * ns.length
 | [],n,_=>by simp
 | y::r,n,h=>by
  have h1:=h y (by simp);have h2:=K0 c r (n+y.length+c) fun s hs=>h s (by simp [hs]);rw [List.foldl_cons,Gc,Nat.mul_add];omega
def Z8 {ns:List Str} (h:∀ s∈ns,s.length<=8) (hl:ns.length<=100):ns.foldl (fun n z=>n+z.length+(Str.ofString "/").length) 0<=900/\(Str.join (Str.ofString "/") ns).length<=900:=by
 have lj:(Str.ofString "/").length=1:=by symm
 have h1:=K0 1 ns 0 h;have h2:=StrLaws.join_length_le (Str.ofString "/") ns;have h3:(ns.map (·.length)).sum<=8 * ns.length:=by
  clear h1 h2 hl
  induction ns with
  | nil=>simp
  | cons y r ih =>
   have:=ih fun s hs=>h s (by simp [hs]);have h4:=h y (by simp);rw [Ch,List.sum_cons,Gc];omega
 rw [lj] at h2 ⊢;omega
def Jd (ns:List Str):Str:=Str.ofString "/" ++ Str.join (Str.ofString "/") ns
def XZ (N:Cn):Sp:=ja fun x H Q _=>X9 fun c S lf (f:Nat) (a:Ta) (t:Th) (ns:List Str) (cZ:List Str) (told:V)=>A9 (c.x=x) (aZ N c S H lf told) (c.L[S.here]?=some a) (c.M.ts[S.here]?=some t) (t.kd=("folder" : Str)/\f=S.here/\cZ=[]\/t.kd≠("folder" : Str)/\∃ nm:Str,S.place=some (f,nm)/\cZ=[nm]/\nm.length<=8) (∃ m,jK c.M c.L c.root m f ns) (ns.length<=99) (∀ s∈ns,s.length<=8) (∀ H',ag H H'->Q (.str (Jd (ns++cZ))) H')
def Z7:T.sx.k P w mg base 7 (XZ T.cn):=by
 refine T.sx.F.ok sH (fun _ _ _ _ h=>dv h fun _ _=>rfl) fun ao A outer s H vs Q E hr h=>dv h fun x h=>?_;obtain ⟨c,S,lf,f,a,t,ns,cZ,told,rfl,v,ha,aS,hk,eB,hl100,hn8,q⟩:=h;refine bJ (b:=bb B4) ((ad (aP 1 sH.nd (cr ae))
 (ad (aP 2 sH.nd (ap T.aJ T.fN (ac 0)))
 (ad (aX (bB iG (bw T.aO T.lB.h (B8 T) hr.m T.lB.b .nil az (ap T.aJ T.fU (ac 0)) (aa (ap T.aJ T.fN (ac 0)) ae)) (dL (.str "folder") T.wN ⟨_,rfl⟩)) (ad (aP 2 sH.nd (ci (bD (K:=K) rfl) (ap T.aJ T.wM (ac 0)) am))
 (ai (aP 1 sH.nd (cr (aa (ci (bD (K:=K) rfl) (ap T.aJ T.wM (ac 0)) am) ae))))) bn)
 (ai (aK (bv cW al (kF PySem.F.slot_str_join PySem.F.type_str_join (TQ (K:=K) rfl) al (aa (bv cW (bi (Vh T) hr.m T.qm.m T.qm.F.kp T.qm.b .nil az (aa (ap T.aJ T.fU (ac 0)) (aa (ap T.aJ T.sd (ac 0)) (aa (ac 2) ae)))) (ac 1)) ae))))))))) ?_
 refine stI [some (V.ref c.x),none,none] ?_;right;refine ⟨fits (by simp),fun ln kj=>?_⟩;refine eY kj fun H1 s1 b1=>?_;have v1:=v.same s1;obtain ⟨fs,pv,hx,aY,MU,sf⟩:=v1.o;obtain ⟨lL,hc,hh,vv,jm⟩:=v1.m.h;right;refine (fI hx sf rfl ?_);refine ck (fun σ' H'=>∃ ln',σ'=[some (V.ref c.x),some (V.ref ln'),some (V.int (f:Int))]/\ag H H'/\H' ln'=some (.lst (cZ.map V.str))/\cZ.length<=1/\∀ s∈cZ,s.length<=8) ?_ ?_
 ·left;refine (fI hx sf rfl (mI hh jm (fI hx sf rfl ⟨c.A,c.L,c.M,S.here,a,t,v1.m,rfl,rfl,ha,aS,?_⟩)));simp only [vA];rcases hk with ⟨eg,rfl,rfl⟩ | ⟨eg,nm,bN,rfl,bT⟩
  ·refine cU (by rw [wP eg]; rfl) ?_;exact ⟨ln,rfl,s1,b1,by simp,fun s hs=>(by cases hs)⟩
  ·refine dC (by rw [pc eg]; rfl) ?_;rw [bN] at MU;obtain ⟨p,rfl,p0,hp⟩:=MU;right;refine (fI hx sf rfl ?_);simp only [bj,hp,e8];refine (fI hx sf rfl ?_);simp only [hp,lC];exact ⟨fits (by simp),fun p2 cg=>⟨p2,rfl,s1.trans (ag.upd cg),by rw [au]; rfl,by simp,fun s hs=>by rw [FM.mp hs]; exact bT⟩⟩
 rintro σ' H2 ⟨l2,rfl,s2,b2,iV,h8⟩;have v2:=v.same s2;obtain ⟨kf,o7,cz,jr,cB⟩:=v2.fld;left;refine (fI cz cB rfl (fI cz cB rfl ⟨c.A,c.L,c.M,f,c.root,ns,v2.m,rfl,rfl,v2.hz,eB,by omega,fun l H3 s3 hl=>?_⟩));have c3:=s3 _ _ b2;simp only [hl,c3];have hn8':∀ s∈ns++cZ,s.length<=8:=fun s hs=>by
  rcases Uf.mp hs with hs | hs
  ·exact hn8 s hs
  ·exact h8 s hs
 obtain ⟨rK,yD⟩:=Z8 hn8' (by rw [wE]; omega);have lj:(Str.ofString "/").length=1:=by symm
 refine ⟨fits (by simp only [pp]; omega),fun p hp=>?_⟩;refine ⟨_,aD.of au,ns++cZ,by simp,?_⟩;exact ⟨fits (by omega),fits (by omega),q _ ((s2.trans s3).trans (ag.upd hp))⟩
structure Bd (S:Ws):Prop where
 a:S.asked.length<=S.step
 p:S.step+S.left.length+125 * (40 - S.read)<=8000
 r:S.bo.length<=S.read
 q:S.read<=40
def IM (ps:List Str):(cq ps).length=ps.length:=by unfold cq; simp
def tP.bd {c:Wd} {S S':Ws} {k:Nat} (h:tP c S k S') (a:S.asked.length<=S.step) (p:S.step+S.left.length+125 * (40 - S.read)<=8000) (r:S.bo.length<=S.read) (q:S.read < 40):Bd S':=by
 cases h with
 | @mk _ _ t _ _ _ _ h1 h2 h3 h4 h5 h6 h7 _ _ _ =>
  have e:=IM (jI t);refine ⟨a,?_,by unfold tm; simp; omega,by unfold tm; simp; omega⟩;unfold tm;simp only [wE,Gc,_7,e];omega
def gI.QL {c:Wd} {S S1:Ws} {p:Str} {o:Option Tl} (ba:S.asked.length<=S.step) (bp:S.step+1+S.left.length+125 * (40 - S.read)<=8000) (br:S.bo.length<=S.read) (bq:S.read<=40) (h:gI c S p S1 o):Bd S1:=by
 cases h with
 | flat=>exact ⟨by dsimp only; omega,by dsimp only; omega,br,bq⟩
 | uw=>exact ⟨by unfold dP; simp; omega,by unfold dP; dsimp only; omega,br,bq⟩
 | dot=>exact ⟨by unfold dP; simp; omega,by unfold dP; dsimp only; omega,br,bq⟩
 | up=>exact ⟨by unfold dP; simp; omega,by unfold dP; dsimp only; omega,br,bq⟩
 | go _ _ _ _ _ hb =>
  have a2:(dP S).asked.length<=(dP S).step:=by unfold dP; simp; omega
  have p2:(dP S).step+(dP S).left.length+125 * (40 - (dP S).read)<=8000:=by unfold dP; dsimp only; omega
  cases hb with
  | no=>exact ⟨a2,p2,br,bq⟩
  | folder=>exact ⟨a2,p2,br,bq⟩
  | fin=>exact ⟨a2,p2,br,bq⟩
  | lead _ _ _ _ _ _ hm =>
   cases hm with
   | ring=>exact ⟨a2,p2,br,bq⟩
   | many=>exact ⟨a2,p2,br,bq⟩
   | read _ h40 hr=>exact hr.bd a2 p2 br (Nat.lt_of_le_of_ne bq h40)
def gI.bd {c:Wd} {S S1:Ws} {l:List (Sum Nat Str)} {p:Str} {o:Option Tl} (b:Bd S) (e:S.left=l++[.inr p]) (h:gI c { S with left:=l } p S1 o):Bd S1:=by
 have bp:=b.p;rw [e,wE] at bp;have e1:[Sum.inr (α:=Nat) p].length=1:=rfl;exact gI.QL (S:={ S with left:=l }) b.a (by dsimp only; omega) b.r b.q h
inductive eS (c:Wd):Nat->Ws->Ws->Option Tl->Prop
 | done {S}:S.left=[]->eS c 0 S S none
 | pop {n S k l r j S' o}:S.left=l++[.inl k]->S.bo=r++[j]->eS c n { S with left:=l,bo:=r } S' o->eS c (n+1) S S' o
 | step {n S p l S1 S' o}:S.left=l++[.inr p]->gI c { S with left:=l } p S1 none->eS c n S1 S' o->eS c (n+1) S S' o
 | fail {S p l S1 y}:S.left=l++[.inr p]->gI c { S with left:=l } p S1 (some y)->eS c 0 S S1 (some y)
abbrev C6 (k:Nat) (ns:List Str):List (Str×V):=ax "way" (.str (Jd ns)) (ax "number" (.int (k:Int)) [])
def vW (M:Hs) (L:List Ta) (root:Nat) (S:Ws) (ns cZ:List Str):Prop:=∃ (f:Nat) (a:Ta) (t:Th),L[S.here]?=some a/\M.ts[S.here]?=some t /\
   (t.kd=("folder" : Str)/\f=S.here/\cZ=[]\/t.kd≠("folder" : Str)/\∃ nm:Str,S.place=some (f,nm)/\cZ=[nm]/\nm.length<=8)/\(∃ m,jK M L root m f ns)/\ns.length<=99/\(∀ s∈ns,s.length<=8)
def Wv (N:Cn):Sp:=ja fun x H Q _=>X6 fun c S lf n S' o=>A6 (c.x=x) (aZ N c S H lf .aw) (Bd S) (eS c.toWd n S S' o) (∀ y,o=some y->∀ fd H',aZ N c S' H' lf (.ref fd)->uL N c.H0 H' S'.step fd y->Q .aw H') (o=none->∃ ns cZ,vW c.M c.L c.root S' ns cZ/\∀ fd bx H',aZ N c S' H' lf (.ref fd)->c.H0 fd=none->H' fd=some (.ins N.CG bx (C6 S'.here (ns++cZ)))->Q .aw H')
def Zf:T.sO.k P w mg base 11 (Wv T.cn):=by
 refine T.sO.F.ok Kq (fun _ _ _ _ h=>dv h fun _ _=>rfl) fun ao A outer s H vs Q E hr h=>dv h fun x h=>?_;obtain ⟨c,S,lf,n,S',o,rfl,v,f7,ke,q1,q2⟩:=h;refine bJ (b:=bb Ah) ((ad (uF WF (fF (kt (bB tS (ap T.aJ T.ot (ac 0)) aw) (sr (bB (Pj (K:=K) rfl hr.sR) (ap T.aJ T.nT (ac 0)) (cr ae))))) (ad (aP 1 Kq.nd (Gj PySem.F.slot_list_pop PySem.F.type_list_pop Gm (ap T.aJ T.nT (ac 0))))
 (ai (aX (bO (bi (Ju T) hr.m T.kQ.m T.kQ.F.kp T.kQ.b .nil az (aa (ac 1) ae))) (ai (aW (Gj PySem.F.slot_list_pop PySem.F.type_list_pop Gm (ap T.aJ T.qj (ac 0))))) (ai (aW (bw T.aJ T.tD.h (We T) hr.m T.tD.b .nil az (ac 0) (aa (ac 1) ae))))))))
 (ai (aX (bB tS (ap T.aJ T.ot (ac 0)) aw) (ai (bA T.aJ T.ot (ac 0) (jp T.PD (TF T) hr.m T.Co T.uu.b .nil az (aa (ap T.aJ T.fN (ac 0)) (aa (my T.aJ T.sx.h (Z7 T) hr.m T.sx.b .nil az (ac 0)) ae))))) bn)))) ?_
 refine stI [some (V.ref c.x),none] ?_;obtain ⟨PV,lJ⟩:∃ PV:Nat->St->Hp->Prop,PV=fun m σ' H'=>∃ pv:Option V,σ'=[some (V.ref c.x),pv] /\
   ((∃ n S,m=n+1/\aZ T.cn c S H' lf .aw/\Bd S/\eS c.toWd n S S' o) \/
     (∃ y fd,m=0/\o=some y/\aZ T.cn c S' H' lf (.ref fd)/\uL T.cn c.H0 H' S'.step fd y)):=⟨_,rfl⟩
 refine ah ?_;refine ⟨PV,⟨n+1,by rw [lJ]; exact ⟨none,rfl,.inl ⟨n,S,rfl,v,f7,ke⟩⟩⟩,?_⟩;clear v f7 ke;intro m σ' H' hI;rw [lJ] at hI;obtain ⟨pv,rfl,⟨n,S,hm,v1,f7,ke⟩ | ⟨y,fd,hm,ho,v1,bW⟩⟩:=hI
 ·left;obtain ⟨iK,yg,bu,jo,dO⟩:=v1.fld;refine (fI bu dO rfl ⟨by trivial,aV ?_⟩);refine (fI bu dO rfl ⟨fits (by simp),fun d hd=>?_⟩);have v2:=v1.same (ag.upd (o:=.lst []) hd);have b2:upd H' d (.lst []) d=some (.lst []):=au;generalize upd H' d (.lst [])=H2 at v2 b2 ⊢;obtain ⟨kf,o7,cz,jr,cB⟩:=v2.fld;refine ⟨_,[],aD.of v2.ol,aD.of b2,.inl ⟨rfl,?_⟩⟩;cases ke with
  | done hle =>
   refine cU (by rw [hle]; rfl) ?_;refine (fI cz cB rfl ⟨by trivial,aV ?_⟩);obtain ⟨ns,cZ,⟨f,a,t,h1,h2,h3,h4,h5,h6⟩,q⟩:=q2 rfl;refine (fI cz cB rfl (mI cz cB ⟨c,_,lf,f,a,t,ns,cZ,_,rfl,v2,h1,h2,h3,h4,h5,h6,fun H3 s3=>?_⟩));intro fd bx bW hdfd nfd;have s4:=(ag.upd (o:=.own fd) hdfd).trans (ag.upd (p:=fd) (o:=.ins T.eM bx []) (by rw [aj (sB nfd)]; exact bW));have b4:upd (upd H3 bx (.own fd)) fd (.ins T.eM bx []) fd=some (.ins T.eM bx []):=au;generalize upd (upd H3 bx (.own fd)) fd (.ins T.eM bx [])=H4 at s4 b4 ⊢;refine ⟨bx,b4,rfl,?_⟩;obtain ⟨yA,oT,ic,v6,f0,nx⟩:=(v2.same s3).tells (t:=.ring []) (F:=C6 S'.here (ns++cZ)) bW s4 b4;exact ⟨c.x,_,_,rfl,oT,ic,q fd bx _ v6 f0 (by rw [aj (sB nx)]; exact au)⟩
  | @pop n _ k l r j _ _ hle je ke =>
   refine dC (by rw [hle]; cases l <;> rfl) ⟨_,fun _ _ h=>h,?_⟩;right;refine (fI cz cB rfl ?_);simp only [v2.ol];refine ⟨l.map dZ,V.int (k:Int),by rw [hle,Ev]; rfl,?_⟩;have v3:=v2.uk l;generalize upd H2 lf (.lst (l.map dZ))=H3 at v3 ⊢;obtain ⟨jk,ph,eL,hV,fe⟩:=v3.fld;refine ⟨⟨_,rfl⟩,aV ?_⟩;refine (fI eL fe rfl ?_);simp only [v3.od];refine ⟨nV r,V.int (j:Int),by rw [je,og]; rfl,n+1,by omega,?_⟩;have v4:=v3.HX r;dsimp only at v4;rw [lJ];have ba:=f7.a; have bp:=f7.p; have br:=f7.r; have bq:=f7.q;rw [hle,wE] at bp;rw [je,wE] at br;exact ⟨_,rfl,.inl ⟨n,_,rfl,v4,⟨ba,by dsimp only; omega,by dsimp only; omega,bq⟩,ke⟩⟩
  | @step n _ p l S1 _ _ hle aM ke =>
   refine dC (by rw [hle]; cases l <;> rfl) ⟨_,fun _ _ h=>h,?_⟩;right;refine (fI cz cB rfl ?_);simp only [v2.ol];refine ⟨l.map dZ,V.str p,by rw [hle,Ev]; rfl,?_⟩;have v3:=v2.uk l;generalize upd H2 lf (.lst (l.map dZ))=H3 at v3 ⊢;obtain ⟨jk,ph,eL,hV,fe⟩:=v3.fld;refine ⟨⟨_,rfl⟩,aQ ?_⟩;have ba:=f7.a; have bp:=f7.p; have br:=f7.r; have bq:=f7.q;rw [hle,wE] at bp;refine (mI eL fe ⟨c,_,lf,_,_,rfl,v3,by dsimp only; omega,by dsimp only; omega,by dsimp only; omega,aM,fun _ H4 v4=>⟨n+1,by omega,?_⟩,fun y hy=>by cases hy⟩);rw [lJ];exact ⟨_,rfl,.inl ⟨n,S1,rfl,v4,aM.bd f7 hle,ke⟩⟩
  | @fail _ p l _ y hle aM =>
   refine dC (by rw [hle]; cases l <;> rfl) ⟨_,fun _ _ h=>h,?_⟩;right;refine (fI cz cB rfl ?_);simp only [v2.ol];refine ⟨l.map dZ,V.str p,by rw [hle,Ev]; rfl,?_⟩;have v3:=v2.uk l;generalize upd H2 lf (.lst (l.map dZ))=H3 at v3 ⊢;obtain ⟨jk,ph,eL,hV,fe⟩:=v3.fld;refine ⟨⟨_,rfl⟩,aQ ?_⟩;have ba:=f7.a; have bp:=f7.p; have br:=f7.r; have bq:=f7.q;rw [hle,wE] at bp;refine (mI eL fe ⟨c,_,lf,_,_,rfl,v3,by dsimp only; omega,by dsimp only; omega,by dsimp only; omega,aM,(fun z=>by cases z),fun y' hy fd H4 v4 hf=>⟨0,by omega,?_⟩⟩);cases hy;rw [lJ];exact ⟨_,rfl,.inr ⟨y,fd,rfl,rfl,v4,hf⟩⟩
 ·left;obtain ⟨iK,yg,bu,jo,dO⟩:=v1.fld;refine (fI bu dO rfl ⟨by trivial,?_⟩);refine cU (pc (by nofun)) ?_
  first
   | exact (fI bu dO rfl ⟨by trivial,cU (pc (by nofun)) (q1 y ho fd _ v1 bW)⟩)
   | exact aQ (fI bu dO rfl ⟨by trivial,cU (pc (by nofun)) (q1 y ho fd _ v1 bW)⟩)
   | (left; exact (fI bu dO rfl ⟨by trivial,cU (pc (by nofun)) (q1 y ho fd _ v1 bW)⟩))
inductive Res
 | found (k:Nat) (ns:List Str)
 | failed (k:Nat) (y:Str)
 | ring (ns:List Nat)
structure End where
 asked:List Nat
 res:Res
def kM (N:Cn) (H:Hp) (fd:Addr):Res->Prop
 | .found k ns=>∃ bx,H fd=some (.ins N.CG bx (C6 k ns))
 | .failed k y=>∃ bx,H fd=some (.ins N.CF bx (B1 k y))
 | .ring ns=>∃ bx rl,H fd=some (.ins N.CR bx (ax "leads" (.ref rl) []))/\H rl=some (.lst (nV ns))
def kM.same {N:Cn} {H H':Hp} {fd:Addr} (s:ag H H'):∀ {r:Res},kM N H fd r->kM N H' fd r
 | .found _ _,⟨d,e⟩=>⟨d,s _ _ e⟩
 | .failed _ _,⟨d,e⟩=>⟨d,s _ _ e⟩
 | .ring _,⟨d,l,e,f⟩=>⟨d,l,s _ _ e,s _ _ f⟩
def BY (step:Nat):Tl->Res
 | .fail y=>.failed step y
 | .ring ns=>.ring ns
def uL.r {N:Cn} {H0 H:Hp} {k:Nat} {fd:Addr}:∀ {t:Tl},uL N H0 H k fd t->kM N H fd (BY k t)
 | .fail _,⟨_,d,e⟩=>⟨d,e⟩
 | .ring _,⟨_,d,l,e,f⟩=>⟨d,l,e,f⟩
structure sL (d:Wd) (fr:Bool) (h:Nat):Prop where
 z:aG (sD d.M.ro) (.inr d.z)=some (.int (d.root:Int))
 ex:∃ (st b:Nat) (r:List Nat) (a:Ta) (t:Th),(fr=true/\st=d.root\/fr=false/\aG (sD d.M.st) (.inr d.z)=some (.int (st:Int)))/\d.L[st]?=some a/\d.M.ts[st]?=some t/\d6 d.M st b r/\(∃ m,kR d.M d.L d.root m (dz b r) true)/\h=dz b r
inductive ir (d:Wd) (fr:Bool) (ps:List Str):End->Prop
 | told {h n S' t}:sL d fr h->ps.length<=2500->eS d n ⟨h,none,0,[],cq ps,[],0,0⟩ S' (some t)->ir d fr ps ⟨S'.asked,BY S'.step t⟩
 | found {h n S' ns cZ}:sL d fr h->ps.length<=2500->eS d n ⟨h,none,0,[],cq ps,[],0,0⟩ S' none->vW d.M d.L d.root S' ns cZ->ir d fr ps ⟨S'.asked,.found S'.here (ns++cZ)⟩
def aaB (N:Cn) (H H':Hp) (e:End) (x:Addr):Prop:=ag H H'/\∃ dx gs fd av,H' x=some (.ins N.CW dx gs)/\gs.lookup ("told" : Str)=some (.ref fd)/\kM N H' fd e.res/\gs.lookup ("asked" : Str)=some (.ref av)/\H' av=some (.lst (nV e.asked))
def ZT (N:Cn):Sp:=F4 fun h z fr lp last H Q _=>X6 fun A L M root ps e=>A5 (aE N.CH N.CS N.CT H A L M) (A.a=h) (H lp=some (.lst (ps.map V.str))) (ir ⟨L,M,z,last,root⟩ fr ps e) (∀ x H',aaB N H H' e x->Q (.ref x) H')
def Sa:T.qY.k P w base 12 (ZT T.cn):=by
 refine T.qY.F.ok IG (fun _ _ _ _ h=>JM h fun _ _ _ _ _ _=>rfl) fun ao A outer s H vs Q E hr h=>JM h fun hh z fr lp last h=>?_;obtain ⟨AA,L,M,root,ps,e,i,rfl,pe,g,q⟩:=h;obtain ⟨nq,bz,hb,ME,n,S',o,ke,f1,f2⟩:∃ h,aG (sD M.ro) (.inr z)=some (.int (root:Int))/\sL ⟨L,M,z,last,root⟩ fr h/\ps.length<=2500/\∃ n S' o,eS ⟨L,M,z,last,root⟩ n ⟨h,none,0,[],cq ps,[],0,0⟩ S' o/\(∀ y,o=some y->e=⟨S'.asked,BY S'.step y⟩)/\(o=none->∃ ns cZ,vW M L root S' ns cZ/\e=⟨S'.asked,.found S'.here (ns++cZ)⟩):=by
  cases g with
  | told b hp hr=>exact ⟨_,b.z,b,hp,_,_,_,hr,fun y hy=>(by cases hy; rfl),fun z=>(by cases z)⟩
  | found b hp hr ht=>exact ⟨_,b.z,b,hp,_,_,_,hr,fun y hy=>(by cases hy),fun _=>⟨_,_,ht,rfl⟩⟩
 obtain ⟨st,b,r,a,t,aM,ha,ht,Et,Es,rfl⟩:=hb.ex;refine bJ (b:=bb C5) ((ad (aP 5 IG.nd (jp T.Xy (Sq T) hr.m T.Sj T.ud.b .nil az (aa (ac 0) (aa (ac 1) (aa (ac 4) ae)))))
 (ad (aW (bw T.aJ T.sJ.h (Zg T) hr.m T.sJ.b .nil az (ac 5) (aa (ac 2) (aa (ac 3) ae))))
 (ad (aW (my T.aJ T.sO.h (Zf T) hr.m T.sO.b .nil az (ac 5)))
 (ai (aK (ac 5))))))) ?_
 refine stI [some (V.ref AA.a),some (V.str z),some (V.bl fr),some (V.ref lp),some (V.bl last),none] ?_;right;intro x dx hx lT ndx;have s1:=(ag.upd (o:=.own x) lT).trans (ag.upd (p:=x) (o:=.ins T.bh dx []) (by rw [aj (sB ndx)]; exact hx));have b1:upd (upd H dx (.own x)) x (.ins T.bh dx []) x=some (.ins T.bh dx []):=au;generalize upd (upd H dx (.own x)) x (.ins T.bh dx [])=H1 at s1 b1 ⊢;refine ⟨AA,L,M,dx,H,root,i,rfl,b1,s1,hx,bz,fun av lf rd H2 v2=>?_⟩;refine ⟨rfl,ah ?_⟩;left;obtain ⟨kf,o7,cz,jr,cB⟩:=v2.fld;refine (mI cz cB ⟨_,_,lf,st,b,ps,r,a,t,true,rfl,v2,v2.s _ _ pe,aM,ha,ht,Et,Es,fun _ lf' H3 v3=>ah ?_,fun z=>by cases z⟩);left;obtain ⟨jk,ph,eL,hV,fe⟩:=v3.fld;refine (mI eL fe ⟨_,_,lf',n,S',o,rfl,v3,⟨Cl _,by have:=IM ps; dsimp only; omega,Cl _,Cl _⟩,ke,fun y hy fd H4 v4 bW=>?_,fun ho=>?_⟩)
 ·obtain ⟨rL,LX,gB,oU,pq⟩:=v4.fld;have he:=f1 y hy;exact q x H4 ⟨v4.s,dx,rL,fd,av,gB,(pq _).trans rfl,by rw [he]; exact bW.r,(pq _).trans rfl,by rw [he]; exact v4.oa⟩
 ·obtain ⟨ns,cZ,ht,he⟩:=f2 ho;refine ⟨ns,cZ,ht,fun fd bx H4 v4 f0 bW=>?_⟩;obtain ⟨rL,LX,gB,oU,pq⟩:=v4.fld;exact q x H4 ⟨v4.s,dx,rL,fd,av,gB,(pq _).trans rfl,by rw [he]; exact ⟨bx,bW⟩,(pq _).trans rfl,by rw [he]; exact v4.oa⟩
structure pK (d:Wd) (t:List Nat) (e:End):Prop where
 l1:1<=t.length
 l2:t.length<=2000
 all:(Tx.words 47 t).all dD=true
 g:ir d (fh t) (jI t) e
inductive Rf
 | cP (y:Str)
 | way (r:Res)
def fS (N:Cn) (H:Hp) (E:XK):Rf->Prop
 | .cP y=>∀ d H',ag H H'->H' d=some (.xd [("reason",.str y)])->E (.ref N.CD) (some d) H'
 | .way r=>∀ fd d H',ag H H'->kM N H' fd r->H' d=some (.xd [("told",.ref fd)])->E (.ref N.CN) (some d) H'
def fS.of {N:Cn} {H H1:Hp} {E:XK} {r:Rf} (s:ag H H1) (h:fS N H E r):fS N H1 E r:=by
 cases r with
 | cP y=>exact fun d H' s' e=>h d H' (s.trans s') e
 | way k=>exact fun fd d H' s' e1 e2=>h fd d H' (s.trans s') e1 e2
def fS.raise {N:Cn} {H H1:Hp} {E:XK} {y:Str} {d:Addr} (h:fS N H E (.cP y)) (s:ag H H1) (hd:H1 d=none):E (.ref N.CD) (some d) (upd H1 d (.xd [("reason",.str y)])):=h d _ (s.trans (ag.upd hd)) au
def Cg:T.nW.k P w mg base 1 (mm T.cw "reason"):=by
 refine T.nW.F.ok ab0 (fun vs H Q E h=>?_) (fun ao A outer s H vs Q E hr h=>?_)
 ·unfold mm at h;split at h
  ·rfl
  ·exact h.elim
 ·unfold mm at h;split at h
  ·rename_i ea y;obtain ⟨he,q⟩:=h;refine ⟨_,((ai (JK T.sv (ac 0) (ac 1)))).h,?_⟩;refine stI [some (.ref ea),some y] ?_;walk_at "rd";exact ⟨ea,rfl,he,q⟩
  ·exact h.elim
def abw:T.sS.k P w mg base 1 (mm T.cu "told"):=by
 refine T.sS.F.ok aab (fun vs H Q E h=>?_) (fun ao A outer s H vs Q E hr h=>?_)
 ·unfold mm at h;split at h
  ·rfl
  ·exact h.elim
 ·unfold mm at h;split at h
  ·rename_i ea y;obtain ⟨he,q⟩:=h;refine ⟨_,((ai (JK T.Dq (ac 0) (ac 1)))).h,?_⟩;refine stI [some (.ref ea),some y] ?_;walk_at "rd";exact ⟨ea,rfl,he,q⟩
  ·exact h.elim
def XS (N:Cn):Sp:=ja fun fd H Q E=>X1 fun r=>A3 (kM N H fd r) (∀ k ns,r=.found k ns->Q (.int (k:Int)) H) ((∀ k ns,r≠.found k ns)->fS N H E (.way r))
def O1:aA P w K mg base (bI P w) 3 T.qG.f T.qG.d ["told"] (XS T.cn):=by
 refine T.qG.F.dJ abk (fun _ _ _ _ h=>dv h fun _ _=>rfl) fun ao A outer s H vs Q E hr h=>dv h fun fd h=>?_;obtain ⟨r,bW,q1,q2⟩:=h;refine bJ (b:=bb y1) ((ad (aX (dW (bO (bL (gf (K:=K) rfl) T.dm dE (aa (ac 0) (aa (dL (.ref T.eM) T.Co rfl) ae))))) (ai (xk vC rfl rfl T.Gw T.Dq T.Rr (abw T) hr.m T.sS.b (aa (ac 0) ae))) bn)
 (ai (aK (ap T.rh T.AG (ac 0)))))) ?_
 refine stI [some (V.ref fd)] ?_;right;cases r with
 | found k ns =>
  obtain ⟨bx,hf⟩:=bW;exact ⟨_,_,_,.of (.ins hf T.rh T.q1 T.q2 T.q3 T.q4),.cls T.q5,aQ ⟨fd,bx,_,_,rfl,hf,rfl,q1 k ns rfl⟩⟩
 | failed k y =>
  obtain ⟨bx,hf⟩:=id bW;exact ⟨_,_,_,.of (.ins hf T.oy T.q6 T.q2 T.q3 T.q7),.cls T.q8,aV ⟨_,rfl,fun d hd=>q2 (by nofun) fd d _ (ag.upd hd) (bW.same (ag.upd hd)) au⟩⟩
 | ring ns =>
  obtain ⟨bx,rl,hf,hl⟩:=id bW;exact ⟨_,_,_,.of (.ins hf T.By T.SY T.q2 T.q3 T.q16),.cls T.Td,aV ⟨_,rfl,fun d hd=>q2 (by nofun) fd d _ (ag.upd hd) (bW.same (ag.upd hd)) au⟩⟩
inductive jJ (ps:List (List Nat)):Option (List (List Nat)×List Nat)->Prop
 | nil:ps=[]->jJ ps none
 | fD {q nm}:ps=q++[nm]->isNm nm=false->nm.length<=8->jJ ps none
 | eQ {q nm}:ps=q++[nm]->isNm nm=true->jJ ps (some (q,nm))
structure dj (t:List Nat):Prop where
 l1:1<=t.length
 l2:t.length<=2000
 all:(Tx.words 47 t).all dD=true
def Ts (N:Cn):Sp:=jL fun pt H Q E=>X2 fun t r=>A5 (pt=Tx.S t) (dj t) (jJ (told (Tx.words 47 t) t) r) (∀ x,r=some x->∀ H',ag H H'->Q .aw H') (r=none->fS N H E (.cP "dots"))
def qh {w:List Nat} (h:isNm w=true):47 ∉ w/\w≠[]/\1<=w.length/\w.length<=8:=by
 have hp:dD w=true:=by unfold dD; rw [h]; simp
 obtain ⟨h1,h2,_⟩:=Ln h;exact ⟨(AQ hp).1,(AQ hp).2.1,h1,h2⟩
def Jn {w:List Nat} {b:Bool} (h:isNm w=b):fG (.str (Tx.S w))=b:=by
 show isNm (Tx.S w).cps.toList=b;rw [Tx.iS]; exact h
def ua {w:List Nat} (h:isNm w=true):fG (.str (Tx.S w))=true:=Jn h
def VU:aA P w K mg base (bI P w) 4 T.pN.f T.pN.d ["path"] (Ts T.cn):=by
 refine T.pN.F.dJ Hl (fun _ _ _ _ h=>fq h fun _ _=>rfl) fun ao A outer s H vs Q E hr h=>fq h fun pt h=>?_;obtain ⟨t,r,rfl,sp,hs,q1,q2⟩:=h;refine bJ (b:=bb Du) ((ad (aP 1 Hl.nd (ci (bD (K:=K) rfl) (bi (iT T) hr.m T.bX.m T.bX.F.kp T.bX.b .nil az (aa (ac 0) ae)) am))
 (ai (aX (fF (ii (bB (W2 hr.sR) (ac 1) (cr ae)) (iF (dW (bO (bi (De T) hr.m T.iD.m T.iD.F.kp T.iD.b .nil az (aa (ci (bD (K:=K) rfl) (ac 1) (io mR am)) ae))))))) (ai (xk vC rfl rfl T.xm T.sv T.Bq (Cg T) hr.m T.nW.b (aa al ae))) bn)))) ?_
 refine stI [some (V.str (Tx.S t)),none] ?_;right;refine ⟨t,rfl,sp.l1,sp.l2,sp.all,fun H1 l p s1 _ hl hp=>?_⟩;simp only [bj,hp];rw [show dI [V.bl (fh t),V.ref l] 1=some (V.ref l) from rfl];refine ⟨fits (by simp),fun d hd=>?_⟩;refine eY hd fun H2 s2 b2=>?_;have cf:=s2 _ _ hl;cases hs with
 | nil e =>
  rw [e] at cf;exact ⟨[],[],cf,b2,dC (wP rfl) ⟨_,rfl,fun d' hd'=>(q2 rfl).raise (s1.trans s2) hd'⟩⟩
 | @fD qs nm e hn u6 =>
  rw [e] at cf;have jO:H2 l=some (.lst (PV qs++[V.str (Tx.S nm)])):=by rw [cf]; simp [PV]
  refine ⟨qs.map Tx.S++[Tx.S nm],[],by rw [jO]; simp [PV],b2,?_⟩;rw [pc (by simp)];refine aQ ?_;simp only [jO,mF];refine ⟨⟨_,rfl⟩,by show (Tx.S nm).length<=1000; rw [Tx.cC]; omega,fun H3 s3=>?_⟩;rw [Jn hn];exact aV ⟨_,rfl,fun d' hd'=>(q2 rfl).raise ((s1.trans s2).trans s3) hd'⟩
 | @eQ qs nm e hn =>
  rw [e] at cf;obtain ⟨h1,h2,h3,h4⟩:=qh hn;have jO:H2 l=some (.lst (PV qs++[V.str (Tx.S nm)])):=by rw [cf]; simp [PV]
  refine ⟨qs.map Tx.S++[Tx.S nm],[],by rw [jO]; simp [PV],b2,?_⟩;rw [pc (by simp)];refine aQ ?_;simp only [jO,mF];refine ⟨⟨_,rfl⟩,by show (Tx.S nm).length<=1000; rw [Tx.cC]; omega,fun H3 s3=>?_⟩;rw [ua hn];exact aQ (q1 _ rfl _ ((s1.trans s2).trans s3))
def Y3 {H H':Hp} {x:Addr} (s:ag H H') (h:H' x=none):H x=none:=by
 cases e:H x with
 | none=>rfl
 | some o=>rw [s _ _ e] at h; cases h
abbrev xO (f:Nat) (nm:List Nat):List (Str×V):=ax "name" (.str (Tx.S nm)) (ax "folder" (.int (f:Int)) [])
inductive jf (d:Wd) (t:List Nat):Sum Rf (Nat×List Nat)->Prop
 | fD:jJ (told (Tx.words 47 t) t) none->jf d t (.inl (.cP "dots"))
 | way {q nm e}:jJ (told (Tx.words 47 t) t) (some (q,nm))->q.length<=900->ir d (fh t) (q.map Tx.S++[("." : Str)]) e->(∀ k ns,e.res≠.found k ns)->jf d t (.inl (.way e.res))
 | jQ {q nm e f ns}:jJ (told (Tx.words 47 t) t) (some (q,nm))->q.length<=900->ir d (fh t) (q.map Tx.S++[("." : Str)]) e->e.res=.found f ns->jf d t (.inr (f,nm))
def aaQ (N:Cn):Sp:=we fun h z pt H Q E=>X6 fun A L M root t r=>A7 (pt=Tx.S t) (dj t) (aE N.CH N.CS N.CT H A L M) (A.a=h) (jf ⟨L,M,z,true,root⟩ t r) (∀ x,r=.inl x->fS N H E x) (∀ f nm,r=.inr (f,nm)->∀ x dx H',H x=none->ag H H'->H' x=some (.ins N.CE dx (xO f nm))->Q (.ref x) H')
def Xg:aA P w K mg base (bI P w) 13 T.qk.f T.qk.d ["house","asker","path"] (aaQ T.cn):=by
 refine T.qk.F.dJ BF (fun _ _ _ _ h=>rm h fun _ _ _ _=>rfl) fun ao A outer s H vs Q E hr h=>rm h fun hh z pt h=>?_;obtain ⟨AA,L,M,root,t,r,rfl,sp,i,rfl,g,q1,q2⟩:=h;refine bJ (b:=bb BK) ((ad (aW (cL (VU T) hr.m T.pN.m T.pN.F.kp T.pN.b .nil bS (aa (ac 2) ae)))
 (ad (aP 3 BF.nd (bi (iT T) hr.m T.bX.m T.bX.F.kp T.bX.b .nil az (aa (ac 2) ae)))
 (ad (aP 4 BF.nd (bi (Sa T) hr.m T.qY.m T.qY.F.kp T.qY.b .nil az (aa (ac 0) (aa (ac 1) (aa (ci (bD (K:=K) rfl) (ac 3) am) (aa (bv cW (li (uH (K:=K) rfl) (ci (bD (K:=K) rfl) (ac 3) am) uO (tO (io mR am))) (cr (aa al ae))) (aa f8 ae)))))))
 (ai (aK (jp T.YK (VJ T) hr.m T.OG T.sM.b .nil az (aa (cL (O1 T) hr.m T.qG.m T.qG.F.kp T.qG.b .nil bS (aa (ap T.aJ T.ot (ac 4)) ae)) (aa (ci (bD (K:=K) rfl) (ci (bD (K:=K) rfl) (ac 3) am) (io mR am)) ae))))))))) ?_
 refine stI [some (V.ref AA.a),some (V.str z),some (V.str (Tx.S t)),none,none] ?_;right;have hs:(r=.inl (.cP "dots")/\jJ (told (Tx.words 47 t) t) none)\/∃ qs nm e,jJ (told (Tx.words 47 t) t) (some (qs,nm))/\qs.length<=900/\ir ⟨L,M,z,true,root⟩ (fh t) (qs.map Tx.S++[("." : Str)]) e/\((∀ k ns,e.res≠.found k ns)->r=.inl (.way e.res))/\∀ f ns,e.res=.found f ns->r=.inr (f,nm):=by
  cases g with
  | fD h=>exact .inl ⟨rfl,h⟩
  | way h1 h2 h3 h4=>exact .inr ⟨_,_,_,h1,h2,h3,fun _=>rfl,fun f ns e=>absurd e (h4 f ns)⟩
  | jQ h1 h2 h3 h4=>exact .inr ⟨_,_,_,h1,h2,h3,fun k=>absurd h4 (k _ _),fun f ns e=>by rw [h4] at e; cases e; rfl⟩
 rcases hs with ⟨rfl,hs⟩ | ⟨qs,nm,e,hs,hq,g,r1,r2⟩
 ·exact ⟨t,none,rfl,sp,hs,(fun x e=>by cases e),fun _=>q1 _ rfl⟩
 refine ⟨t,_,rfl,sp,hs,fun x _ H1 s1=>ah ?_,fun e=>by cases e⟩;have he:told (Tx.words 47 t) t=qs++[nm]:=by cases hs; assumption
 left;refine ⟨t,rfl,sp.l1,sp.l2,sp.all,fun H2 l p s2 _ hl hp=>ah ?_⟩;rw [he,show PV (qs++[nm])=PV qs++[V.str (Tx.S nm)] from by simp [PV]] at hl;left;simp only [bj,hp];rw [show dI [V.bl (fh t),V.ref l] 1=some (V.ref l) from rfl,show dI [V.bl (fh t),V.ref l] 0=some (V.bl (fh t)) from rfl]
 try dsimp only
 refine ⟨_,aD.of hl,fun p1 DO=>?_⟩;rw [RN];refine ⟨fits (by simp),fun p2 cg=>?_⟩;have s3:=(ag.upd (o:=.lst (PV qs)) DO).trans (ag.upd (o:=.lst [V.str "."]) cg);have n12:p1≠p2:=aI (au (o:=.lst (PV qs))) cg;have b3:upd (upd H2 p1 (.lst (PV qs))) p2 (.lst [V.str "."]) p1=some (.lst (PV qs)):=by rw [aj n12,au]
 have b4:upd (upd H2 p1 (.lst (PV qs))) p2 (.lst [V.str "."]) p2=some (.lst [V.str "."]):=au;generalize upd (upd H2 p1 (.lst (PV qs))) p2 (.lst [V.str "."])=H3 at s3 b3 b4 ⊢;simp only [b3,b4];refine ⟨fits (by simp; omega),fun p3 ee=>?_⟩;have s4:=s3.trans (ag.upd (o:=.lst (PV qs++[V.str "."])) ee);have b5:upd H3 p3 (.lst (PV qs++[V.str "."])) p3=some (.lst (PV qs++[V.str "."])):=au;generalize upd H3 p3 (.lst (PV qs++[V.str "."]))=H4 at s4 b5 ⊢;refine ⟨AA,L,M,root,qs.map Tx.S++[("." : Str)],e,i.same ((s1.trans s2).trans s4),rfl,by rw [b5]; simp [PV],g,?_⟩;rintro x H5 ⟨s5,dx,gs,fd,av,hx,hgs,bW,BQ,u4⟩;have EX:=((s1.trans s2).trans s4).trans s5;refine ⟨x,_,_,_,rfl,hx,hgs,_,bW,fun k ns hk=>?_,fun hk=>(q1 _ (r1 hk)).of EX⟩
 ·have nu:=(s4.trans s5) _ _ hp;have ic:=(s4.trans s5) _ _ hl;simp only [nu];rw [show dI [V.bl (fh t),V.ref l] 1=some (V.ref l) from rfl];simp only [ic,mF]
  try dsimp only
  intro y dy hy hdy ndy;refine ⟨dy,au,rfl,?_⟩;rw [mj];exact q2 _ _ (r2 _ _ hk) y dy _ (Y3 EX hy) (EX.trans ((ag.upd (o:=.own y) hdy).trans (ag.upd (p:=y) (by rw [aj (sB ndy)]; exact hy)))) au
def VX (N:Cn):Sp:=Hy fun h z n r y H Q E=>X5 fun A L M t (k:Nat)=>A8 (n=(k:Int)) (aE N.CH N.CS N.CT H A L M) (A.a=h) ((aG (sD M.ro) (.inr z)).isSome=true) (j0 (.str r)=true) (M.ts[k]?=some t) (cI r (dk t z)=true->Q .aw H) (cI r (dk t z)=false->fS N H E (.cP y))
def Zt:aA P w K mg base (bI P w) 4 T.pX.f T.pX.d ["house","asker","number","right","reason"] (VX T.cn):=by
 refine T.pX.F.dJ R3 (fun _ _ _ _ h=>HZ h fun _ _ _ _ _ _=>rfl) fun ao A outer s H vs Q E hr h=>HZ h fun hh z n r rs h=>?_;obtain ⟨AA,L,M,t,k,rfl,i,rfl,hz,hJ,ht,q1,q2⟩:=h;obtain ⟨fX,gc,gh,f6,bP⟩:=i.h;refine bJ (b:=bb yK) ((ai (aX (dW (bO (eE T.aO T.oj.h (Jv T) hr.m T.oj.b .nil bS (ac 0) (aa (ac 1) (aa (ac 2) (aa (ac 3) ae)))))) (ai (xk vC rfl rfl T.xm T.sv T.Bq (Cg T) hr.m T.nW.b (aa (ac 4) ae))) bn))) ?_;refine stI [some (V.ref AA.a),some (V.str z),some (V.int (k:Int)),some (V.str r),some (V.str rs)] ?_;left;refine (mI gh bP (Kj i hz hJ ht ?_));cases hm:cI r (dk t z) with
 | true=>exact aQ (q1 hm)
 | false=>exact aV ⟨_,rfl,fun d hd=>(q2 hm).raise (fun _ _ e=>e) hd⟩
def YR (N:Cn):Sp:=rX fun h z n H Q E=>X5 fun A L M t (k:Nat)=>A7 (n=(k:Int)) (aE N.CH N.CS N.CT H A L M) (A.a=h) ((aG (sD M.ro) (.inr z)).isSome=true) (M.ts[k]?=some t) (cI ("w" : Str) (dk t z)=true->Q .aw H) (cI ("w" : Str) (dk t z)=false->fS N H E (.cP "kept"))
def VC:aA P w K mg base (bI P w) 5 T.qz.f T.qz.d ["house","asker","folder"] (YR T.cn):=by
 refine T.qz.F.dJ acp (fun _ _ _ _ h=>jY h fun _ _ _ _=>rfl) fun ao A outer s H vs Q E hr h=>jY h fun hh z n h=>?_;obtain ⟨AA,L,M,t,k,rfl,i,rfl,hz,ht,q1,q2⟩:=h;refine bJ (b:=bb B2) ((ai (aW (cL (Zt T) hr.m T.pX.m T.pX.F.kp T.pX.b .nil bS (aa (ac 0) (aa (ac 1) (aa (ac 2) (aa al (aa al ae))))))))) ?_;refine stI [some (V.ref AA.a),some (V.str z),some (V.int (k:Int))] ?_;left;exact ⟨AA,L,M,t,k,rfl,i,rfl,hz,by symm,ht,q1,q2⟩
def Sf (N:Cn):Sp:=pT fun h x H Q _=>X8 fun A L M a t dx nm (k:Nat)=>A7 (aE N.CH N.CS N.CT H A L M) (A.a=h) (H x=some (.ins N.CE dx (xO k nm))) (isNm nm=true) (L[k]?=some a) (M.ts[k]?=some t) (∀ H',ag H H'->Q ((aG (sD t.aR) (.inr (Tx.S nm))).getD .aw) H')
def Qi:T.pH.k P w base 5 (Sf T.cn):=by
 refine T.pH.F.ok Ud (fun _ _ _ _ h=>jS h fun _ _ _=>rfl) fun ao A outer s H vs Q E hr h=>jS h fun hh x h=>?_;obtain ⟨AA,L,M,a,t,dx,nm,k,i,rfl,hx,hn,ha,ht,q⟩:=h;obtain ⟨fX,gc,gh,f6,bP⟩:=i.h;obtain ⟨h1,h2,h3,h4⟩:=qh hn;refine bJ (b:=bb B6) ((ai (aK (bw T.aO T.kS.h (zW T) hr.m T.kS.b .nil az (ac 0) (aa (ap T.oJ T.xb (ac 1)) (aa (ap T.oJ T.Bs (ac 1)) ae)))))) ?_;refine stI [some (V.ref AA.a),some (V.ref x)] ?_;left;exact (mI gh bP ⟨x,_,_,_,rfl,hx,rfl,x,_,_,_,rfl,hx,rfl,AA,L,M,k,a,t,i,rfl,rfl,ha,ht,ua hn,by rw [Tx.cC]; omega,q⟩)
def Wa (N:Cn):Sp:=pT fun h x H Q E=>X8 fun A L M a t dx nm (k:Nat)=>A8 (aE N.CH N.CS N.CT H A L M) (A.a=h) (H x=some (.ins N.CE dx (xO k nm))) (isNm nm=true) (L[k]?=some a) (M.ts[k]?=some t) (aG (sD t.aR) (.inr (Tx.S nm))=none->∀ H',ag H H'->Q .aw H') (∀ c:Int,aG (sD t.aR) (.inr (Tx.S nm))=some (.int c)->fS N H E (.cP "there"))
def Dn {l:List (Str×Nat)} {z:Key} {v:V} (h:aG (sD l) z=some v):∃ c:Nat,v=.int (c:Int):=by
 unfold aG at h;obtain ⟨kv,h1,rfl⟩:=PP.mp h;obtain ⟨e,_,rfl⟩:=EQ.mp (_D h1);exact ⟨_,rfl⟩
def Rj:aA P w K mg base (bI P w) 6 T.qb.f T.qb.d ["house","seat"] (Wa T.cn):=by
 refine T.qb.F.dJ Pz (fun _ _ _ _ h=>jS h fun _ _ _=>rfl) fun ao A outer s H vs Q E hr h=>jS h fun hh x h=>?_;obtain ⟨AA,L,M,a,t,dx,nm,k,i,rfl,hx,hn,ha,ht,q1,q2⟩:=h;refine bJ (b:=bb Ar) ((ai (aX (bB CK (bi (Qi T) hr.m T.pH.m T.pH.F.kp T.pH.b .nil az (aa (ac 0) (aa (ac 1) ae))) aw) (ai (xk vC rfl rfl T.xm T.sv T.Bq (Cg T) hr.m T.nW.b (aa al ae))) bn))) ?_;refine stI [some (V.ref AA.a),some (V.ref x)] ?_;left;refine ⟨AA,L,M,a,t,dx,nm,k,i,rfl,hx,hn,ha,ht,fun H1 s1=>?_⟩;cases hv:aG (sD t.aR) (.inr (Tx.S nm)) with
 | none=>exact ⟨by trivial,aQ (q1 hv H1 s1)⟩
 | some v =>
  obtain ⟨c,rfl⟩:=Dn hv;exact ⟨by trivial,aV ⟨_,rfl,fun d hd=>(q2 _ hv).raise s1 hd⟩⟩
inductive nX (d:Wd) (t:List Nat):Sum Rf (Nat×List Nat)->Prop
 | no {x}:jf d t (.inl x)->nX d t (.inl x)
 | kept {f nm tf}:jf d t (.inr (f,nm))->d.M.ts[f]?=some tf->cI ("w" : Str) (dk tf d.z)=false->nX d t (.inl (.cP "kept"))
 | there {f nm a tf c}:jf d t (.inr (f,nm))->isNm nm=true->d.L[f]?=some a->d.M.ts[f]?=some tf->cI ("w" : Str) (dk tf d.z)=true->aG (sD tf.aR) (.inr (Tx.S nm))=some (.int (c:Int))->nX d t (.inl (.cP "there"))
 | free {f nm a tf}:jf d t (.inr (f,nm))->isNm nm=true->d.L[f]?=some a->d.M.ts[f]?=some tf->cI ("w" : Str) (dk tf d.z)=true->aG (sD tf.aR) (.inr (Tx.S nm))=none->nX d t (.inr (f,nm))
def Wo (N:Cn):Sp:=we fun h z pt H Q E=>X6 fun A L M root t r=>A8 (pt=Tx.S t) (dj t) (aE N.CH N.CS N.CT H A L M) (A.a=h) ((aG (sD M.ro) (.inr z)).isSome=true) (nX ⟨L,M,z,true,root⟩ t r) (∀ x,r=.inl x->fS N H E x) (∀ f nm,r=.inr (f,nm)->∀ x dx H',H x=none->ag H H'->H' x=some (.ins N.CE dx (xO f nm))->Q (.ref x) H')
def pI:aA P w K mg base (bI P w) 14 T.eG.f T.eG.d ["house","asker","path"] (Wo T.cn):=by
 refine T.eG.F.dJ Hu (fun _ _ _ _ h=>rm h fun _ _ _ _=>rfl) fun ao A outer s H vs Q E hr h=>rm h fun hh z pt h=>?_;obtain ⟨AA,L,M,root,t,r,rfl,sp,i,rfl,ED,g,q1,q2⟩:=h;refine bJ (b:=bb AF) ((ad (aP 3 Hu.nd (cL (Xg T) hr.m T.qk.m T.qk.F.kp T.qk.b .nil bS (aa (ac 0) (aa (ac 1) (aa (ac 2) ae)))))
 (ad (aW (cL (VC T) hr.m T.qz.m T.qz.F.kp T.qz.b .nil bS (aa (ac 0) (aa (ac 1) (aa (ap T.oJ T.xb (ac 3)) ae)))))
 (ad (aW (cL (Rj T) hr.m T.qb.m T.qb.F.kp T.qb.b .nil bS (aa (ac 0) (aa (ac 3) ae))))
 (ai (aK (ac 3))))))) ?_
 refine stI [some (V.ref AA.a),some (V.str z),some (V.str (Tx.S t)),none] ?_;right;cases g with
 | no g=>exact ⟨AA,L,M,root,t,_,rfl,sp,i,rfl,g,fun x e=>(by cases e; exact q1 _ rfl),fun f nm e=>by cases e⟩
 | kept g pw hw =>
  refine ⟨AA,L,M,root,t,_,rfl,sp,i,rfl,g,fun x e=>(by cases e),fun f nm e=>?_⟩;cases e;intro x dx H1 fx s1 hx;right;exact ⟨x,_,_,_,rfl,hx,rfl,AA,L,M,_,_,rfl,i.same s1,rfl,ED,pw,fun e=>(by rw [hw] at e; cases e),fun _=>(q1 _ rfl).of s1⟩
 | there g hn EZ pw hw hv =>
  refine ⟨AA,L,M,root,t,_,rfl,sp,i,rfl,g,fun x e=>(by cases e),fun f nm e=>?_⟩;cases e;intro x dx H1 fx s1 hx;right;refine ⟨x,_,_,_,rfl,hx,rfl,AA,L,M,_,_,rfl,i.same s1,rfl,ED,pw,fun _=>ah ?_,fun e=>by rw [hw] at e; cases e⟩;left;exact ⟨AA,L,M,_,_,dx,_,_,i.same s1,rfl,hx,hn,EZ,pw,fun e=>(by rw [hv] at e; cases e),fun _ _=>(q1 _ rfl).of s1⟩
 | free g hn EZ pw hw hv =>
  refine ⟨AA,L,M,root,t,_,rfl,sp,i,rfl,g,fun x e=>(by cases e),fun f nm e=>?_⟩;cases e;intro x dx H1 fx s1 hx;right;refine ⟨x,_,_,_,rfl,hx,rfl,AA,L,M,_,_,rfl,i.same s1,rfl,ED,pw,fun _=>ah ?_,fun e=>by rw [hw] at e; cases e⟩;left;exact ⟨AA,L,M,_,_,dx,_,_,i.same s1,rfl,hx,hn,EZ,pw,fun _ H2 s2=>q2 _ _ rfl x dx H2 fx (s1.trans s2) (s2 _ _ hx),fun _ e=>by rw [hv] at e; cases e⟩
def OB:Sp:=jL fun z H Q _=>z.length<=60/\Q (.bl true) H
def Vj:Sp:=jL fun z H Q _=>z.length<=60/\Q .aw H
def Ob:T.ij.k P w base 1 OB:=by
 refine T.ij.F.ok HJ (fun _ _ _ _ h=>fq h fun _ _=>rfl) fun ao A outer s H vs Q E hr h=>fq h fun z h=>?_;obtain ⟨hz,q⟩:=h;refine ⟨_,((ai (aK (nH (bL iR T.dm dE (aa (ac 0) (aa (iB (.ty "str") T.lI lH rfl) ae))) (im (gl lx (bL (g9 (K:=K) rfl) T.g7 LT (aa (ac 0) ae)) (dL (.int 60) T.JG ⟨_,rfl⟩))))))).h,?_⟩;refine stI [some (V.str z)] ?_;left;refine ⟨by decide,aV ⟨fits (by omega),?_⟩⟩;rw [wP (show (z.length:Int)<=60 by omega)];exact q
def Ly:T.il.k P w base 2 Vj:=by
 refine T.il.F.ok IE (fun _ _ _ _ h=>fq h fun _ _=>rfl) fun ao A outer s H vs Q E hr h=>fq h fun z h=>?_;obtain ⟨hz,q⟩:=h;refine ⟨_,((ai (aX (dW (bO (bi (Ob T) hr.m T.ij.m T.ij.F.kp T.ij.b .nil az (aa (ac 0) ae)))) (ai i0) bn))).h,?_⟩;refine stI [some (V.str z)] ?_;left;exact ⟨hz,aQ q⟩
def Hc:T.nF.k P w mg base 4 (VE T.aL T.aU):=by
 refine T.nF.F.ok WH (fun _ _ _ _ h=>Jq h fun _ _ _ _ _ _=>rfl) fun ao A outer s H vs Q E hr h=>Jq h fun x ow tx mi re h=>?_;obtain ⟨dt,ml,rs,at',gN,q⟩:=h;obtain ⟨fs,c,hx,aY,sf⟩:=at'.o;refine ⟨_,((ai (aK (bw T.cm T.kE.h (Cr T) hr.m T.kE.b .nil az (ac 0) (aa (dL (.str "file") T.Ct ⟨_,rfl⟩) (aa (ac 1) (aa (ac 3) (aa (ac 4) (aa (ac 2) ae))))))))).h,?_⟩;refine stI [some (.ref x),some ow,some tx,some mi,some re] ?_;left;exact ⟨x,dt,fs,rfl,hx,(sf _).trans rfl,dt,ml,rs,at',gN,q⟩
def W4:T.sC.k P w mg base 3 (lb T.aH T.aL T.aU Ad.a Il):=by
 refine T.sC.F.ok XG (fun _ _ _ _ h=>c8 h fun _ _ _=>rfl) fun ao A outer s H vs Q E hr h=>c8 h fun x n h=>?_;obtain ⟨AA,L,M,k,a,t,i,rfl,rfl,ha,aS,q⟩:=h;obtain ⟨fs,c,hx,aY,sf⟩:=i.h;obtain ⟨gs,c2,ht,eO,sg⟩:=i.t;have dG:=fL i ha aS;obtain ⟨ks,ho,ki,so⟩:=dG.o;refine ⟨_,((ai (aK (ap T.ej T.C3 (eE T.cm T.ed.h (jU T) hr.m T.ed.b .nil gW (ap T.aO T.fv (ac 0)) (aa (ac 1) ae)))))).h,?_⟩;refine stI [some (V.ref AA.a),some (V.int (k:Int))] ?_;left;exact ⟨AA.a,_,_,.ref AA.t,rfl,hx,(sf _).trans rfl,AA.t,_,_,rfl,ht,(sg _).trans rfl,kX i ha aS (fI ho so rfl q)⟩
section
variable {CH CS CT:Addr} {H H':Hp} {A:Ad} {L:List Ta} {M:Hs}
def aE.some (i:aE CH CS CT H A L M):∀ b∈A.w++L.flatMap Ta.l,∃ o,H b=.some o:=fun b hb=>by
 rcases Uf.mp hb with h | h
 ·simp only [Ad.w,mo,nn,xz] at h;rcases h with rfl | rfl | rfl | rfl | rfl | rfl | rfl | rfl
  ·obtain ⟨_,_,e,_⟩:=i.h; exact ⟨_,e⟩
  ·obtain ⟨_,_,e,_⟩:=i.t; exact ⟨_,e⟩
  ·exact ⟨_,i.ml⟩
  ·exact ⟨_,i.ro⟩
  ·exact ⟨_,i.st⟩
  ·exact ⟨_,i.tr⟩
  ·exact ⟨_,i.ov⟩
  ·exact ⟨_,i.un⟩
 ·obtain ⟨a,ha,hb⟩:=List.mem_flatMap.mp h;obtain ⟨k,hk⟩:=_4 ha;have bK:k < M.ts.length:=by rw [<- i.len]; exact (sw.mp hk).1
  obtain ⟨a',e1,t⟩:=i.th k _ (ss bK);rw [hk] at e1;cases e1;simp only [Ta.l,mo,nn,xz] at hb;rcases hb with rfl | rfl | rfl
  ·obtain ⟨_,e,_⟩:=t.o; exact ⟨_,e⟩
  ·exact ⟨_,t.nm⟩
  ·exact ⟨_,t.pl⟩
def aE.add {th dS nm pl:Addr} {ks:List (Str×V)} {kd ow mi re tx:Str} (i:aE CH CS CT H A L M) (f1:H th=none) (f2:H nm=none) (f3:H pl=none) (at':kH CS H' A.t A.dt A.ml ((L.map fun a=>V.ref a.th)++[.ref th])) (aS:H' th=Option.some (.ins CT dS ks)) (kl:ks.length<=40)
  (sk:dN ks (uP (.int (L.length:Nat)) (.str kd) (.str ow) (.str mi) (.str re) (.str tx) (.ref nm) (.ref pl))) (bT:H' nm=Option.some (.dK [])) (bN:H' pl=Option.some (.dT [])) (kp:Kp [A.t,A.ml] H H') :
  aE CH CS CT H' A (L++[⟨th,dS,nm,pl⟩]) { M with ts:=M.ts++[⟨kd,ow,mi,re,tx,[],[]⟩] }:=by
 have nd:=i.nd;have sm:=i.some;have nw:∀ b∈A.w++L.flatMap Ta.l,b≠th/\b≠nm/\b≠pl:=fun b hb=>by
  obtain ⟨o,e⟩:=sm b hb;exact ⟨aI e f1,aI e f2,aI e f3⟩
 have h12:th≠nm:=bU aS bT (by nofun);have h13:th≠pl:=bU aS bN (by nofun);have h23:nm≠pl:=bU bT bN (by nofun);have n0:=nd;rw [Id] at n0;obtain ⟨n1,n2,n3⟩:=n0;simp only [Ad.w,Do,mo,nn,xz,_v] at n1;have kA:∀ b∈[A.a,A.ro,A.st,A.tr,A.ov,A.un],b ∉ [A.t,A.ml]:=by
  intro b hb hm;simp only [mo,nn,xz] at hb hm;rcases hb with rfl | rfl | rfl | rfl | rfl | rfl <;> rcases hm with h | h
  ·exact n1.1.1 h
  ·exact n1.1.2.1 h
  ·exact n1.2.1.2.1 h.symm
  ·exact n1.2.2.1.1 h.symm
  ·exact n1.2.1.2.2.1 h.symm
  ·exact n1.2.2.1.2.1 h.symm
  ·exact n1.2.1.2.2.2.1 h.symm
  ·exact n1.2.2.1.2.2.1 h.symm
  ·exact n1.2.1.2.2.2.2.1 h.symm
  ·exact n1.2.2.1.2.2.2.1 h.symm
  ·exact n1.2.1.2.2.2.2.2 h.symm
  ·exact n1.2.2.1.2.2.2.2 h.symm
 refine ⟨?_,at'.o,?_,by simp [i.len],fun j t e=>?_,kp _ _ (kA _ (by simp)) i.ro,kp _ _ (kA _ (by simp)) i.st,kp _ _ (kA _ (by simp)) i.tr,kp _ _ (kA _ (by simp)) i.ov,kp _ _ (kA _ (by simp)) i.un,?_⟩
 ·obtain ⟨fs,c,e,r⟩:=i.h;exact ⟨fs,c,kp _ _ (kA _ (by simp)) e,r⟩
 ·rw [at'.ml]; simp
 ·have e':(M.ts++[(⟨kd,ow,mi,re,tx,[],[]⟩:Th)])[j]?=.some t:=e;by_cases hj:j < M.ts.length
  ·rw [Db hj] at e';obtain ⟨a,e1,h1⟩:=i.th j t e';refine ⟨a,by rw [Db (by rw [i.len]; exact hj)]; exact e1,h1.keep kp fun b hb hm=>?_⟩;have gA:=kI e1 hb;simp only [mo,nn,xz] at hm;rcases hm with rfl | rfl
   ·exact n3 _ (by simp [Ad.w]) _ gA rfl
   ·exact n3 _ (by simp [Ad.w]) _ gA rfl
  ·rw [AT (by omega)] at e';have hj0:j - M.ts.length=0:=by
    rcases Nat.eq_zero_or_pos (j - M.ts.length) with h | h
    ·exact h
    ·rw [_U (by simp; omega)] at e'; cases e'
   rw [hj0] at e';cases e';have hjl:j=L.length:=by rw [i.len]; omega
   subst hjl;exact ⟨_,by rw [AT (sK _),Nat.sub_self]; rfl,⟨⟨ks,aS,kl,sk⟩,bT,bN⟩⟩
 ·rw [List.flatMap_append,<- _w,Id];refine ⟨nd,?_,fun b hb c hc e=>?_⟩
  ·simp only [ST,List.flatMap_nil,_5,Ta.l,Do,mo,nn,xz,_v,_R,_P,and_true];exact ⟨⟨h12,h13⟩,h23⟩
  ·obtain ⟨q1,q2,q3⟩:=nw b hb;simp only [ST,List.flatMap_nil,_5,Ta.l,mo,nn,xz] at hc;rcases hc with h | h | h
   ·exact q1 (e.trans h)
   ·exact q2 (e.trans h)
   ·exact q3 (e.trans h)
end
def JP (CH CS CT CE:Addr):Sp:=LA fun h x n H Q _=>LC fun A L M (f:Nat) (k:Nat) af tf ak tk dx nm=>BH (aE CH CS CT H A L M) (A.a=h) (H x=some (.ins CE dx (ax "name" (.str nm) (ax "folder" (.int (f:Int)) [])))) (n=(k:Int)) (L[f]?=some af) (M.ts[f]?=some tf) (L[k]?=some ak) (M.ts[k]?=some tk) (f≠k) (aG (sD tf.aR) (.inr nm)=none) (tf.aR.length<=500) (tk.cQ=[]) (∀ H',aE CH CS CT H' A L { M with ts:=(M.ts.set f { tf with aR:=tf.aR++[(nm,k)] }).set k { tk with cQ:=[(f,nm)] } }->Kp [A.t,af.nm,ak.pl] H H'->Q (.int (k:Int)) H')
def pO:T.eI.k P w base 6 (JP T.aH T.aL T.aU T.lW):=by
 refine T.eI.F.ok PQ (fun _ _ _ _ h=>J3 h fun _ _ _ _=>rfl) fun ao A outer s H vs Q E hr h=>J3 h fun hh x n h=>?_;obtain ⟨AA,L,M,f,k,af,tf,ak,tk,dx,nm,i,rfl,hx,rfl,iM,cY,gM,eP,dY,hv,hl,bN,q⟩:=h;obtain ⟨fX,gc,gh,f6,bP⟩:=i.h;obtain ⟨gs,c2,ht,eO,sg⟩:=i.t;refine bJ (b:=bb zZ) ((ad (aW (bw T.cm T.rZ.h (Yp T) hr.m T.rZ.b .nil az (ap T.aO T.fv (ac 0)) (aa (ap T.oJ T.xb (ac 1)) (aa (ap T.oJ T.Bs (ac 1)) (aa (ac 2) ae)))))
 (ai (aK (ac 2))))) ?_
 refine stI [some (V.ref AA.a),some (V.ref x),some (V.int (k:Int))] ?_;right;exact (fI gh bP rfl (mI ht sg ⟨x,_,_,_,rfl,hx,rfl,x,_,_,_,rfl,hx,rfl,AA,L,M,f,k,af,tf,ak,tk,i,rfl,rfl,rfl,iM,cY,gM,eP,dY,hv,hl,bN,q⟩))
def tJ (CH CS CT:Addr) (A:Ad) (L:List Ta) (M:Hs) (f:Nat) (t0:Th) (a0:Ta) (nm kd ow mi re tx:Str) (H:Hp) (Q:VK):Prop :=
 ∀ a H',aE CH CS CT H' A (L++[a]) { M with ts:=M.ts.set f { t0 with aR:=t0.aR++[(nm,M.ts.length)] }++[⟨kd,ow,mi,re,tx,[],[(f,nm)]⟩] }->Kp [A.t,A.ml,a0.nm] H H'->Q (.int (M.ts.length:Nat)) H'
def HL {α:Type} {y b:α}:∀ r:List α,(r++[y]).set r.length b=r++[b]
 | []=>rfl
 | c::r=>by simp only [List.cons_append,Gc,List.set_cons_succ]; rw [HL r]
def O0 {α:Type}:∀ {xs:List α} {f:Nat} {y a b:α},f < xs.length->((xs++[y]).set f a).set xs.length b=xs.set f a++[b]:=fun {xs f y a b} h=>by
 rw [List.set_append_left _ _ h];have:=HL (y:=y) (b:=b) (xs.set f a)
 rwa [List.length_set] at this
def zG {CH CS CT CE:Addr} {H:Hp} {A:Ad} {L:List Ta} {M:Hs} {f:Nat} {z nm kd mi re tx:Str} {a0:Ta} {t0:Th} {x dx:Addr} {Q:VK} {E:XK} (i:aE CH CS CT H A L M) (da:L[f]?=some a0) (gL:M.ts[f]?=some t0) (hx:H x=some (.ins CE dx (ax "name" (.str nm) (ax "folder" (.int (f:Int)) [])))) (hv:aG (sD t0.aR) (.inr nm)=none) (hl:t0.aR.length<=400)
  (nx1:x≠A.t) (mp:tJ CH CS CT A L M f t0 a0 nm kd z mi re tx H Q):uv CS CT A.t A.dt A.ml (L.map fun a=>V.ref a.th) (.str kd) (.str z) (.str mi) (.str re) (.str tx) H (fun v H'=>JP CH CS CT CE [.ref A.a,.ref x,v] H' Q E):=by
 intro th dS nm' pl ks H' f1 f2 f3 at' aS kl sk bT bN kp;have nx2:x≠A.ml:=bU hx i.ml (by nofun);have hlen:(L.map fun a=>V.ref a.th).length=L.length:=pp _;rw [hlen] at sk ⊢;have i2:=i.add f1 f2 f3 at' aS kl sk bT bN kp;have h0:f < M.ts.length:=(sw.mp gL).1;have DG:=i.len;have e0:(M.ts++[(⟨kd,z,mi,re,tx,[],[]⟩:Th)])[f]?=some t0:=by rw [Db h0]; exact gL
 have ek:(M.ts++[(⟨kd,z,mi,re,tx,[],[]⟩:Th)])[L.length]?=some ⟨kd,z,mi,re,tx,[],[]⟩:=by rw [DG,AT (sK _),Nat.sub_self]; rfl
 refine ⟨A,L++[⟨th,dS,nm',pl⟩],_,f,L.length,a0,t0,⟨th,dS,nm',pl⟩,⟨kd,z,mi,re,tx,[],[]⟩,dx,nm,i2,rfl,kp _ _ (by simp [nx1,nx2]) hx,rfl,by rw [Db (by omega)]; exact da,e0,by rw [AT (sK _),Nat.sub_self]; rfl,ek,by omega,hv,by omega,rfl,fun H2 i3 k3=>?_⟩;have:=mp ⟨th,dS,nm',pl⟩ H2 (by
  have e:=i3;dsimp only at e;rw [DG] at e;rw [O0 h0] at e;exact e) (fun b o hb e=>?_)
 ·rw [DG]; exact this
 ·simp only [mo,nn,xz,_v] at hb;have nbp:b≠pl:=aI e f3;exact k3 _ _ (by simp [hb.1,hb.2.2,nbp]) (kp _ _ (by simp [hb.1,hb.2.1]) e)
def B7 {CH CS CT:Addr} {H:Hp} {A:Ad} {L:List Ta} {M:Hs} (i:aE CH CS CT H A L M):kH CS H A.t A.dt A.ml (L.map fun a=>V.ref a.th):=⟨i.t,i.ml⟩
def tJ.of {CH CS CT:Addr} {H H1:Hp} {A:Ad} {L:List Ta} {M:Hs} {f:Nat} {t0:Th} {a0:Ta} {nm kd ow mi re tx:Str} {Q:VK} (s:ag H H1) (m:tJ CH CS CT A L M f t0 a0 nm kd ow mi re tx H Q):tJ CH CS CT A L M f t0 a0 nm kd ow mi re tx H1 Q:=fun a H' i k=>m a H' i ((Kp.of s).trans k)
def Z3 (K:ν):Sp:=jL fun pt H Q _=>X1 fun t=>A4 (pt=Tx.S t) (dj t) (t.length<=120) (∀ H',ag H H'->Q .aw H')
def HC:T.iw.k P w base 4 (Z3 K):=by
 refine T.iw.F.ok F2 (fun _ _ _ _ h=>fq h fun _ _=>rfl) fun ao A outer s H vs Q E hr h=>fq h fun pt h=>?_;obtain ⟨t,rfl,pt,hl,q⟩:=h;refine bJ (b:=bb xn) ((ad (aW (bi (iT T) hr.m T.bX.m T.bX.F.kp T.bX.b .nil az (aa (ac 0) ae)))
 (ai (aX (bB yT (bL (g9 (K:=K) rfl) T.g7 LT (aa (ac 0) ae)) (dL (.int 120) T.JB ⟨_,rfl⟩)) (ai i0) bn)))) ?_
 refine stI [some (V.str (Tx.S t))] ?_;right;refine ⟨t,rfl,pt.l1,pt.l2,pt.all,fun H1 l p s1 _ _ _=>?_⟩;left;refine ⟨by rw [Tx.cC]; exact fits (by omega),?_⟩;rw [Tx.cC,pc (show ¬ (t.length:Int) > 120 by omega)];exact aQ (q _ s1)
def HK:T.oG.k P w mg base 4 (aaf T.aL T.aU):=by
 refine T.oG.F.ok RA (fun _ _ _ _ h=>mD h fun _ _ _ _=>rfl) fun ao A outer s H vs Q E hr h=>mD h fun x ow tx h=>?_;obtain ⟨dt,ml,rs,at',gN,q⟩:=h;obtain ⟨fs,c,hx,aY,sf⟩:=at'.o;refine ⟨_,((ai (aK (bw T.cm T.kE.h (Cr T) hr.m T.kE.b .nil az (ac 0) (aa (dL (.str "lead") T.N8 ⟨_,rfl⟩) (aa (ac 1) (aa al (aa al (aa (ac 2) ae))))))))).h,?_⟩;refine stI [some (.ref x),some ow,some tx] ?_;left;exact ⟨x,dt,fs,rfl,hx,(sf _).trans rfl,dt,ml,rs,at',gN,q⟩
structure jR (N:Cn) (H:Hp) (A:Ad) (L:List Ta) (M:Hs) (z:Str) (t:List Nat) (kd mi re tx:Str) (Q:VK) (E:XK):Prop where
 i:aE N.CH N.CS N.CT H A L M
 p:dj t
 hz:(aG (sD M.ro) (.inr z)).isSome=true
 qa:mi∈dg
 je:re∈dg
 hL:L.length<=400
 hl:∀ (f:Nat) t0,M.ts[f]?=some t0->t0.aR.length<=400
 r:∃ root r,nX ⟨L,M,z,true,root⟩ t r/\(∀ x,r=.inl x->fS N H E x)/\∀ f nm a0 t0,r=.inr (f,nm)->L[f]?=some a0->M.ts[f]?=some t0->tJ N.CH N.CS N.CT A L M f t0 a0 (Tx.S nm) kd z mi re tx H Q
def Sy (N:Cn):Sp:=Iv fun h z pt mi re H Q E=>X4 fun A L M t=>A3 (pt=Tx.S t) (jR N H A L M z t "folder" mi re "" Q E) (A.a=h)
def Ol (N:Cn):Sp:=HD fun h z pt tx mi re H Q E=>X4 fun A L M t=>A4 (pt=Tx.S t) (jR N H A L M z t "file" mi re tx Q E) (A.a=h) (tx.length<=60)
def vM:aA P w K mg base (bI P w) 15 T.yz T.rC ["house","asker","path","mine","rest"] (Sy T.cn):=by
 refine T.me.dJ vG (fun vs H Q E h=>?_) (fun ao A outer s H vs Q E hr h=>?_)
 ·exact K4 h fun _ _ _ _ _ _=>rfl
 ·refine K4 h fun hh z pt mi re h=>?_;obtain ⟨AA,L,M,t,rfl,pr,rfl⟩:=h;obtain ⟨fX,gc,gh,f6,bP⟩:=pr.i.h;obtain ⟨root,r,hJ,q1,q2⟩:=pr.r;refine bJ (b:=bb nY) ((ad (aW (eE T.aO T.eC.h (lA T) hr.m T.eC.b .nil bS (ac 0) (aa (ac 1) ae)))
  (ad (aW (bi (iT T) hr.m T.bX.m T.bX.F.kp T.bX.b .nil az (aa (ac 2) ae)))
  (ad (aW (bi (ql T) hr.m T.cN.m T.cN.F.kp T.cN.b .nil az (aa (ac 3) ae)))
  (ad (aW (bi (ql T) hr.m T.cN.m T.cN.F.kp T.cN.b .nil az (aa (ac 4) ae)))
  (ad (aP 5 vG.nd (cL (pI T) hr.m T.eG.m T.eG.F.kp T.eG.b .nil bS (aa (ac 0) (aa (ac 1) (aa (ac 2) ae)))))
  (ai (aK (bi (pO T) hr.m T.eI.m T.eI.F.kp T.eI.b .nil az (aa (ac 0) (aa (ac 5) (aa (bw T.cm T.kG.h (AE T) hr.m T.kG.b .nil az (ap T.aO T.fv (ac 0)) (aa (ac 1) (aa (ac 3) (aa (ac 4) ae)))) ae)))))))))))) ?_
  refine stI [some (V.ref AA.a),some (V.str z),some (V.str (Tx.S t)),some (V.str mi),some (V.str re),none] ?_;right;refine (mI gh bP (iW pr.i pr.hz (ah ?_)));left;refine ⟨t,rfl,pr.p.l1,pr.p.l2,pr.p.all,fun H1 l p s1 _ hl hp=>ah ?_⟩;left;refine ⟨pr.qa,ah ?_⟩;left;refine ⟨pr.je,ah ?_⟩;left;refine ⟨AA,L,M,root,t,r,rfl,pr.p,pr.i.same s1,rfl,pr.hz,hJ,fun x e=>(q1 x e).of s1,fun f nm e x dx H2 fx s2 hx=>?_⟩;left;have i2:=pr.i.same (s1.trans s2);obtain ⟨NC,N1,vo,My,vn⟩:=i2.h;obtain ⟨gs,c2,ht,eO,sg⟩:=i2.t;obtain ⟨_,_,iL,_⟩:=(pr.i.same s1).t;subst e;cases hJ with
  | free g hn da gL hw hv =>
   refine (fI vo vn rfl (mI ht sg ⟨AA.dt,AA.ml,_,B7 i2,by rw [pp]; have:=pr.hL; omega,zG i2 da gL hx hv (pr.hl _ _ gL) (sB (aI iL fx)) ((q2 _ _ _ _ rfl da gL).of (s1.trans s2))⟩))
def Ke:aA P w K mg base (bI P w) 15 T.yp T.rq ["house","asker","path","text","mine","rest"] (Ol T.cn):=by
 refine T.pB.dJ vP (fun vs H Q E h=>?_) (fun ao A outer s H vs Q E hr h=>?_)
 ·exact JU h fun _ _ _ _ _ _ _=>rfl
 ·refine JU h fun hh z pt tx mi re h=>?_;obtain ⟨AA,L,M,t,rfl,pr,rfl,rG⟩:=h;obtain ⟨fX,gc,gh,f6,bP⟩:=pr.i.h;obtain ⟨root,r,hJ,q1,q2⟩:=pr.r;refine bJ (b:=bb oM) ((ad (aW (eE T.aO T.eC.h (lA T) hr.m T.eC.b .nil bS (ac 0) (aa (ac 1) ae)))
  (ad (aW (bi (iT T) hr.m T.bX.m T.bX.F.kp T.bX.b .nil az (aa (ac 2) ae)))
  (ad (aW (bi (ql T) hr.m T.cN.m T.cN.F.kp T.cN.b .nil az (aa (ac 4) ae)))
  (ad (aW (bi (ql T) hr.m T.cN.m T.cN.F.kp T.cN.b .nil az (aa (ac 5) ae)))
  (ad (aW (bi (Ly T) hr.m T.il.m T.il.F.kp T.il.b .nil az (aa (ac 3) ae)))
  (ad (aP 6 vP.nd (cL (pI T) hr.m T.eG.m T.eG.F.kp T.eG.b .nil bS (aa (ac 0) (aa (ac 1) (aa (ac 2) ae)))))
  (ai (aK (bi (pO T) hr.m T.eI.m T.eI.F.kp T.eI.b .nil az (aa (ac 0) (aa (ac 6) (aa (bw T.cm T.nF.h (Hc T) hr.m T.nF.b .nil az (ap T.aO T.fv (ac 0)) (aa (ac 1) (aa (ac 3) (aa (ac 4) (aa (ac 5) ae))))) ae))))))))))))) ?_
  refine stI [some (V.ref AA.a),some (V.str z),some (V.str (Tx.S t)),some (V.str tx),some (V.str mi),some (V.str re),none] ?_;right;refine (mI gh bP (iW pr.i pr.hz (ah ?_)));left;refine ⟨t,rfl,pr.p.l1,pr.p.l2,pr.p.all,fun H1 l p s1 _ hl hp=>ah ?_⟩;left;refine ⟨pr.qa,ah ?_⟩;left;refine ⟨pr.je,ah ?_⟩;left;refine ⟨rG,ah ?_⟩;left;refine ⟨AA,L,M,root,t,r,rfl,pr.p,pr.i.same s1,rfl,pr.hz,hJ,fun x e=>(q1 x e).of s1,fun f nm e x dx H2 fx s2 hx=>?_⟩;left;have i2:=pr.i.same (s1.trans s2);obtain ⟨NC,N1,vo,My,vn⟩:=i2.h;obtain ⟨gs,c2,ht,eO,sg⟩:=i2.t;obtain ⟨_,_,iL,_⟩:=(pr.i.same s1).t;subst e;cases hJ with
  | free g hn da gL hw hv =>
   refine (fI vo vn rfl (mI ht sg ⟨AA.dt,AA.ml,_,B7 i2,by rw [pp]; have:=pr.hL; omega,zG i2 da gL hx hv (pr.hl _ _ gL) (sB (aI iL fx)) ((q2 _ _ _ _ rfl da gL).of (s1.trans s2))⟩))
def OD (N:Cn):Sp:=Hn fun h z pt tx H Q E=>X5 fun A L M t tl=>A6 (pt=Tx.S t) (tx=Tx.S tl) (jR N H A L M z t "lead" "" "" tx Q E) (A.a=h) (dj tl) (tl.length<=120)
def abJ:aA P w K mg base (bI P w) 15 T.kJ.f T.kJ.d ["house","asker","path","lead"] (OD T.cn):=by
 refine T.kJ.F.dJ xA (fun _ _ _ _ h=>Lv h fun _ _ _ _ _=>rfl) fun ao A outer s H vs Q E hr h=>Lv h fun hh z pt tx h=>?_;obtain ⟨AA,L,M,t,tl,rfl,rfl,pr,rfl,ptl,hl120⟩:=h;obtain ⟨fX,gc,gh,f6,bP⟩:=pr.i.h;obtain ⟨root,r,hJ,q1,q2⟩:=pr.r;refine bJ (b:=bb xR) ((ad (aW (eE T.aO T.eC.h (lA T) hr.m T.eC.b .nil bS (ac 0) (aa (ac 1) ae)))
 (ad (aW (bi (iT T) hr.m T.bX.m T.bX.F.kp T.bX.b .nil az (aa (ac 2) ae)))
 (ad (aW (bi (HC T) hr.m T.iw.m T.iw.F.kp T.iw.b .nil az (aa (ac 3) ae)))
 (ad (aP 4 xA.nd (cL (pI T) hr.m T.eG.m T.eG.F.kp T.eG.b .nil bS (aa (ac 0) (aa (ac 1) (aa (ac 2) ae)))))
 (ai (aK (bi (pO T) hr.m T.eI.m T.eI.F.kp T.eI.b .nil az (aa (ac 0) (aa (ac 4) (aa (bw T.cm T.oG.h (HK T) hr.m T.oG.b .nil az (ap T.aO T.fv (ac 0)) (aa (ac 1) (aa (ac 3) ae))) ae))))))))))) ?_
 refine stI [some (V.ref AA.a),some (V.str z),some (V.str (Tx.S t)),some (V.str (Tx.S tl)),none] ?_;right;refine (mI gh bP (iW pr.i pr.hz (ah ?_)));left;refine ⟨t,rfl,pr.p.l1,pr.p.l2,pr.p.all,fun H1 l p s1 _ hl hp=>ah ?_⟩;left;refine ⟨tl,rfl,ptl,hl120,fun H1' s1'=>ah ?_⟩
 replace s1:=s1.trans s1'
 clear hl hp;generalize H1'=H1 at s1 ⊢;left;refine ⟨AA,L,M,root,t,r,rfl,pr.p,pr.i.same s1,rfl,pr.hz,hJ,fun x e=>(q1 x e).of s1,fun f nm e x dx H2 fx s2 hx=>?_⟩;left;have i2:=pr.i.same (s1.trans s2);obtain ⟨NC,N1,vo,My,vn⟩:=i2.h;obtain ⟨gs,c2,ht,eO,sg⟩:=i2.t;obtain ⟨_,_,iL,_⟩:=(pr.i.same s1).t;subst e;cases hJ with
 | free g hn da gL hw hv =>
  refine (fI vo vn rfl (mI ht sg ⟨AA.dt,AA.ml,_,B7 i2,by rw [pp]; have:=pr.hL; omega,zG i2 da gL hx hv (pr.hl _ _ gL) (sB (aI iL fx)) ((q2 _ _ _ _ rfl da gL).of (s1.trans s2))⟩))
inductive Cd (d:Wd) (t:List Nat):Sum Rf Nat->Prop
 | way {e}:pK d t e->(∀ k ns,e.res≠.found k ns)->Cd d t (.inl (.way e.res))
 | file {e k ns a th}:pK d t e->e.res=.found k ns->d.L[k]?=some a->d.M.ts[k]?=some th->th.kd≠("folder" : Str)->Cd d t (.inl (.cP "file"))
 | ok {e k ns a th}:pK d t e->e.res=.found k ns->d.L[k]?=some a->d.M.ts[k]?=some th->th.kd=("folder" : Str)->Cd d t (.inr k)
inductive Bo (d:Wd) (t:List Nat):Sum Rf Nat->Prop
 | way {e}:pK d t e->(∀ k ns,e.res≠.found k ns)->Bo d t (.inl (.way e.res))
 | qM {e k ns a th}:pK d t e->e.res=.found k ns->d.L[k]?=some a->d.M.ts[k]?=some th->th.ow≠d.z->Bo d t (.inl (.cP "mine"))
 | ok {e k ns a th}:pK d t e->e.res=.found k ns->d.L[k]?=some a->d.M.ts[k]?=some th->th.ow=d.z->Bo d t (.inr k)
def AS:List Str:=["own","guest"]
inductive gr (M:Hs) (r:Nat):Nat->Prop
 | refl:gr M r r
 | up {k f nm t}:M.ts[k]?=some t->t.cQ=[(f,nm)]->gr M r f->gr M r k
structure r8 (M:Hs) (k:Nat) (t:Th):Prop where
 nl:t.aR.length<=M.ts.length
 kd:t.kd=("folder" : Str)\/t.kd=("file" : Str)\/t.kd=("lead" : Str)
 ld:t.kd=("lead" : Str)->∃ tl,t.tx=Tx.S tl/\dj tl/\tl.length<=120
 pl:k=0/\t.cQ=[]\/∃ (f:Nat) (nm:Str) (tf:Th),f < k/\t.cQ=[(f,nm)]/\nm.length<=8/\M.ts[f]?=some tf/\tf.kd=("folder" : Str)
 ch:∀ z v,aG (sD t.aR) (.inr z)=some v->∃ (c:Nat) (tc:Th),v=.int (c:Int)/\M.ts[c]?=some tc/\tc.cQ=[(k,z)]
structure Xv (M:Hs) (z:Str) (r k:Nat):Prop where
 ro:aG (sD M.ro) (.inr z)=some (.int (r:Int))
 st:aG (sD M.st) (.inr z)=some (.int (k:Int))
 b:gr M r k
 tr:∃ t,M.ts[r]?=some t/\t.kd=("folder" : Str)
 tk:∃ t,M.ts[k]?=some t/\t.kd=("folder" : Str)
structure Gd (M:Hs):Prop where
 tr:M.tr=[(("main" : Str),0)]
 ov:M.ov=[]
 un:M.un=[]
 as:∀ z∈AS,∃ r k,Xv M z r k
 rl:M.ro.length<=3
 sl:M.st.length<=3
 t0:∃ t,M.ts[0]?=some t/\t.kd=("folder" : Str)
 th:∀ k t,M.ts[k]?=some t->r8 M k t
def WW (p:Str):Prop:=p=("." : Str)\/p=(".." : Str)\/fG (.str p)=true/\p.length<=8
section
variable {M:Hs} {L:List Ta} {z:Str} {r:Nat}
def adr (hL:L.length=M.ts.length) {k:Nat} {t:Th} (h:M.ts[k]?=some t):∃ a,L[k]?=some a :=
 ⟨_,ss (by rw [hL]; exact (sw.mp h).1)⟩
def Gd.dB (g:Gd M) (k:Nat):d6 M k k [] :=
 ⟨⟨0,by unfold kP; rw [g.un]; exact ⟨rfl,rfl⟩⟩,0,by unfold jz; rw [g.ov]; exact ⟨rfl,rfl⟩,Cl _⟩
def ub {k:Nat}:gd r [k]=decide (k=r):=by
 unfold gd;by_cases h:k=r
 ·simp [h]
 ·simp [h]
def Gd.par (g:Gd M) {k:Nat} {t:Th} (ht:M.ts[k]?=some t) (hb:gr M r k) (hk:k≠r):∃ (f:Nat) (nm:Str) (tf:Th),f < k/\t.cQ=[(f,nm)]/\nm.length<=8/\M.ts[f]?=some tf/\tf.kd=("folder" : Str)/\gr M r f:=by
 cases hb with
 | refl=>exact absurd rfl hk
 | up h1 h2 h3 =>
  rw [ht] at h1; cases h1;rcases (g.th k t ht).pl with ⟨_,e⟩ | ⟨f,nm,tf,hf,hp,hl,cY,uW⟩
  ·rw [e] at h2; cases h2
  ·rw [hp] at h2; cases h2;exact ⟨_,_,tf,hf,hp,hl,cY,uW,h3⟩
def Gd.seen (g:Gd M) (hL:L.length=M.ts.length):∀ (n k:Nat) (t:Th),k<=n->M.ts[k]?=some t->gr M r k->kR M L r n k true
 | n,k,t,hk,ht,hb=>by
  obtain ⟨a,ha⟩:=adr hL ht;unfold kR;refine ⟨k,[],a,t,ha,ht,g.dB k,?_⟩;rw [AC (show k=dz k [] from rfl),ub];by_cases h0:k=r
  ·rw [AC (wP h0)]
  ·rw [xL (by rw [pc h0]; nofun)];obtain ⟨f,nm,tf,hf,hp,_,cY,_,hb'⟩:=g.par ht hb h0;refine ⟨a,t,ha,ht,.inr ⟨f,nm,hp,?_⟩⟩
   match n,hk with
   | 0,hk=>omega
   | n+1,hk=>exact g.seen hL n f tf (by omega) cY hb'
def Gd.nm (g:Gd M) (hL:L.length=M.ts.length):∀ (n k:Nat) (t:Th),k<=n->M.ts[k]?=some t->gr M r k->∃ ns,jK M L r n k ns/\ns.length<=k/\∀ s∈ns,s.length<=8
 | n,k,t,hk,ht,hb=>by
  obtain ⟨a,ha⟩:=adr hL ht;by_cases h0:k=r
  ·refine ⟨[],?_,Cl _,fun _ h=>by cases h⟩;unfold jK;exact ⟨k,[],a,t,ha,ht,g.dB k,by rw [ub,AC (wP h0)]⟩
  ·obtain ⟨f,nm,tf,hf,hp,hl,cY,_,hb'⟩:=g.par ht hb h0
   match n,hk with
   | 0,hk=>omega
   | n+1,hk =>
    obtain ⟨ns,h1,h2,h3⟩:=g.nm hL n f tf (by omega) cY hb';refine ⟨ns++[nm],?_,by rw [wE]; simp; omega,fun s hs=>?_⟩
    ·unfold jK;refine ⟨k,[],a,t,ha,ht,g.dB k,?_⟩;rw [ub,xL (by rw [pc h0]; nofun)];exact ⟨a,t,f,nm,ha,ht,hp,ns,rfl,h1⟩
    ·rcases Uf.mp hs with hs | hs
     ·exact h3 s hs
     ·rw [FM.mp hs]; exact hl
def Fs:fG (.str ("." : Str))=false/\fG (.str (".." : Str))=false:=by symm
end
def Val (M:Hs) (r:Nat) (S:Ws):Prop:=∃ t,M.ts[S.here]?=some t/\(t.kd=("folder" : Str)/\gr M r S.here\/t.kd≠("folder" : Str)/\∃ (f:Nat) (nm:Str) (tf:Th),S.place=some (f,nm)/\nm.length<=8/\M.ts[f]?=some tf/\gr M r f)
def Dm:List (Sum Nat Str)->Nat
 | []=>0
 | .inl _::r=>Dm r+1
 | .inr _::r=>Dm r
structure WOk (d:Wd) (S:Ws):Prop where
 v:Val d.M d.root S
 ps:∀ p,Sum.inr p∈S.left->WW p
 cn:Dm S.left=S.bo.length
 rl:S.read<=40
section
variable {d:Wd}
def XX (g:Gd d.M) (hL:d.L.length=d.M.ts.length) (hn:d.M.ts.length<=90) {S:Ws} (v:Val d.M d.root S):∃ ns cZ,vW d.M d.L d.root S ns cZ:=by
 obtain ⟨t,ht,hk⟩:=v;obtain ⟨a,ha⟩:=adr hL ht;rcases hk with ⟨eg,hb⟩ | ⟨eg,f,nm,tf,hp,h8,cY,hb⟩
 ·obtain ⟨ns,h1,h2,h3⟩:=g.nm hL S.here S.here t (sK _) ht hb;have:=(sw.mp ht).1;exact ⟨ns,[],S.here,a,t,ha,ht,.inl ⟨eg,rfl,rfl⟩,⟨_,h1⟩,by omega,h3⟩
 ·obtain ⟨ns,h1,h2,h3⟩:=g.nm hL f f tf (sK _) cY hb;have:=(sw.mp cY).1;exact ⟨ns,[nm],f,a,t,ha,ht,.inr ⟨eg,nm,hp,rfl,h8⟩,⟨_,h1⟩,by omega,h3⟩
end
section
variable {M:Hs} {L:List Ta} {z:Str} {r:Nat} {last:Bool}
def Gd.lift {M':Hs} (g:Gd M) (h1:M'.ro=M.ro) (h2:M'.st=M.st) (h3:M'.tr=M.tr) (h4:M'.ov=M.ov) (h5:M'.un=M.un) (old:∀ (k:Nat) (t:Th),M.ts[k]?=some t->∃ t':Th,M'.ts[k]?=some t'/\t'.kd=t.kd/\t'.cQ=t.cQ) (th:∀ k t,M'.ts[k]?=some t->r8 M' k t):Gd M':=by
 have bl:∀ {r k},gr M r k->gr M' r k:=fun {r k} b=>by
  induction b with
  | refl=>exact .refl
  | up a1 a2 _ ih =>
   obtain ⟨t',e1,_,e3⟩:=old _ _ a1;exact .up e1 (e3.trans a2) ih
 refine ⟨h3.trans g.tr,h4.trans g.ov,h5.trans g.un,fun z hz=>?_,by rw [h1]; exact g.rl,by rw [h2]; exact g.sl,?_,th⟩
 ·obtain ⟨r,k,a⟩:=g.as z hz;refine ⟨r,k,by rw [h1]; exact a.ro,by rw [h2]; exact a.st,bl a.b,?_,?_⟩
  ·obtain ⟨t,e1,e2⟩:=a.tr;obtain ⟨t',e3,e4,_⟩:=old _ _ e1;exact ⟨t',e3,e4.trans e2⟩
  ·obtain ⟨t,e1,e2⟩:=a.tk;obtain ⟨t',e3,e4,_⟩:=old _ _ e1;exact ⟨t',e3,e4.trans e2⟩
 ·obtain ⟨t,e1,e2⟩:=g.t0;obtain ⟨t',e3,e4,_⟩:=old _ _ e1;exact ⟨t',e3,e4.trans e2⟩
def r8.lift {M':Hs} {k:Nat} {t t':Th} (h:r8 M k t) (hl:M.ts.length<=M'.ts.length) (e1:t'.kd=t.kd) (e2:t'.cQ=t.cQ) (e3:t'.aR=t.aR) (e4:t'.tx=t.tx) (old:∀ (k:Nat) (t:Th),M.ts[k]?=some t->∃ t':Th,M'.ts[k]?=some t'/\t'.kd=t.kd/\t'.cQ=t.cQ):r8 M' k t':=by
 refine ⟨by rw [e3]; exact u8 h.nl hl,by rw [e1]; exact h.kd,by rw [e1,e4]; exact h.ld,?_,fun z v hv=>?_⟩
 ·rcases h.pl with ⟨a,b⟩ | ⟨f,nm,tf,a1,a2,a3,a4,a5⟩
  ·exact .inl ⟨a,e2.trans b⟩
  ·obtain ⟨t2,b1,b2,_⟩:=old _ _ a4;exact .inr ⟨f,nm,t2,a1,e2.trans a2,a3,b1,b2.trans a5⟩
 ·rw [e3] at hv;obtain ⟨c,tc,a1,a2,a3⟩:=h.ch z v hv;obtain ⟨t2,b1,_,b3⟩:=old _ _ a2;exact ⟨c,t2,a1,b1,b3.trans a3⟩
def Gd.make (g:Gd M) {f:Nat} {tf:Th} {nm kd mi re tx:Str} (cY:M.ts[f]?=some tf) (uW:tf.kd=("folder" : Str)) (bT:nm.length<=8) (hvf:aG (sD tf.aR) (.inr nm)=none) (hk:kd=("folder" : Str)\/kd=("file" : Str)\/kd=("lead" : Str)) (uZ:kd=("lead" : Str)->∃ tl,tx=Tx.S tl/\dj tl/\tl.length<=120) :
  Gd { M with ts:=M.ts.set f { tf with aR:=tf.aR++[(nm,M.ts.length)] }++[⟨kd,z,mi,re,tx,[],[(f,nm)]⟩] }:=by
 have hf:=(sw.mp cY).1;have hlen:(M.ts.set f { tf with aR:=tf.aR++[(nm,M.ts.length)] }).length=M.ts.length:=List.length_set;have old:∀ (k:Nat) (t:Th),M.ts[k]?=some t->∃ t':Th,(M.ts.set f { tf with aR:=tf.aR++[(nm,M.ts.length)] }++[(⟨kd,z,mi,re,tx,[],[(f,nm)]⟩:Th)])[k]?=some t'/\t'.kd=t.kd/\t'.cQ=t.cQ:=fun k t ht=>by
  have hk:=(sw.mp ht).1;rw [Db (by rw [hlen]; exact hk)];by_cases e:k=f
  ·subst e;rw [NE hk];rw [cY] at ht; cases ht;exact ⟨_,rfl,rfl,rfl⟩
  ·rw [No (sB e)];exact ⟨t,ht,rfl,rfl⟩
 have new:(M.ts.set f { tf with aR:=tf.aR++[(nm,M.ts.length)] }++[(⟨kd,z,mi,re,tx,[],[(f,nm)]⟩:Th)])[M.ts.length]?=some ⟨kd,z,mi,re,tx,[],[(f,nm)]⟩:=by
  rw [AT (by rw [hlen]; exact sK _),hlen,Nat.sub_self]; rfl
 have ll:M.ts.length<=(M.ts.set f { tf with aR:=tf.aR++[(nm,M.ts.length)] }++[(⟨kd,z,mi,re,tx,[],[(f,nm)]⟩:Th)]).length:=by rw [wE,hlen]; omega
 refine g.lift rfl rfl rfl rfl rfl old fun k t ht=>?_;have ht':(M.ts.set f { tf with aR:=tf.aR++[(nm,M.ts.length)] }++[(⟨kd,z,mi,re,tx,[],[(f,nm)]⟩:Th)])[k]?=some t:=ht;by_cases hk':k < M.ts.length
 ·rw [Db (by rw [hlen]; exact hk')] at ht';by_cases e:k=f
  ·subst e;rw [NE hk'] at ht';cases ht';have h0:=g.th k tf cY;have h:=h0.lift (M':={ M with ts:=M.ts.set k { tf with aR:=tf.aR++[(nm,M.ts.length)] }++[⟨kd,z,mi,re,tx,[],[(k,nm)]⟩] }) (t':=tf) ll rfl rfl rfl rfl old;refine ⟨by show (tf.aR++[(nm,M.ts.length)]).length<=_; rw [wE,wE,hlen]; have:=h0.nl; simp; omega,h.kd,h.ld,h.pl,fun y v hv=>?_⟩;have e:sD (tf.aR++[(nm,M.ts.length)])=sD tf.aR++[(.inr nm,.int ((M.ts.length:Nat):Int))]:=by unfold sD; rw [Ev]; rfl
   have hv':aG (sD (tf.aR++[(nm,M.ts.length)])) (.inr y)=some v:=hv;rw [e,Jc _ _ _ _ hvf] at hv';split at hv'
   ·rename_i he;cases hv';injection he with he;exact ⟨M.ts.length,_,rfl,new,by rw [he]⟩
   ·exact h.ch y v hv'
  ·rw [No (sB e)] at ht';exact (g.th k t ht').lift ll rfl rfl rfl rfl old
 ·have rQ:k < M.ts.length+1:=by
   have:=(sw.mp ht').1;rw [wE,hlen] at this; exact this
  have:k=M.ts.length:=by omega
  subst this;rw [new] at ht';cases ht';obtain ⟨t',e1,e2,_⟩:=old _ _ cY;exact ⟨by show 0<=_; exact Cl _,hk,uZ,.inr ⟨f,nm,t',hf,rfl,bT,e1,e2.trans uW⟩,fun y v hv=>by cases hv⟩
end
def jc {P:Program} {w:World} {K:ν} {mg:Str->Option Value} {base:Heap} {CX:dX} {k:Nat} {f:Addr} {fd:FuncData} {ps:List Str} {sp sp':Sp} (F:aA P w K mg base CX k f fd ps sp) (F':aA P w K mg base CX k f fd ps sp'):aA P w K mg base CX k f fd ps (fun vs H Q E=>sp vs H Q E\/sp' vs H Q E) :=
 ⟨fun vs H Q E h=>h.elim (F.len vs H Q E) (F'.len vs H Q E),fun A outer s H args us vs Q E hr he hb hv h=>h.elim (F.run A outer s H args us vs Q E hr he hb hv) (F'.run A outer s H args us vs Q E hr he hb hv)⟩
def fQ (H:Hp):V->Prop
 | .str z=>z.length=0\/(2000 < z.length/\z.length<=3000)\/(1<=z.length/\z.length<=1000/\(Tx.words 47 z.cps.toList).all dD=false)
 | x=>∃ T,clsName H x=some T
def Yd {H H':Hp} {x:V} (s:ag H H') (h:fQ H x):fQ H' x:=by
 cases x with
 | str z=>exact h
 | _=>obtain ⟨T,h⟩:=h; exact ⟨T,kT s h⟩
def abE {H:Hp} {z:Str} (h1:2000 < z.length) (h2:z.length<=3000):fQ H (.str z):=.inr (.inl ⟨h1,h2⟩)
def abR (C:Addr):Sp:=l9 fun x H _ E=>fQ H x/\∀ H',ag H H'->E (.ref C) none H'
def xB:aA P w K mg base (bI P w) 3 T.bX.f T.bX.d ["path"] (abR T.bZ):=by
 refine T.bX.F.dJ wq (fun _ _ _ _ h=>gD h fun _ _=>rfl) fun ao A outer s H vs Q E hr h=>gD h fun x h=>?_;obtain ⟨Em,q⟩:=h;refine ⟨_,((ad (aX (fF (ii (dW (bO (bL iR T.dm dE (aa (ac 0) (aa (iB (.ty "str") T.lI lH rfl) ae))))) (iF (dW (wx lx lx am (bL (g9 (K:=K) rfl) T.g7 LT (aa (ac 0) ae)) (dL (.int 2000) T.Kr ⟨_,rfl⟩)))))) (ai (mr mh rfl T.wO T.AD (aa al ae))) bn)
 (ad (AH 1 rfl wq.nd (x:=("part" : Str)) (jV (K:=K) rfl (kF _q _r vN (ac 0) (aa al ae))) (fun _ _ _ _=>by exact (wj (bB iG (ac 0) al))) (fun _ _ _ _=>by exact (gq 0 (show List.Nodup (["part"]:List Str) by decide))) (fun _ _ _ _=>by exact (ac 0)) (.of rfl (by exact trivial) (by walk_at "c") rfl (by exact trivial)))
 (ad (aX (dW (bO (bL (Dy (K:=K) rfl rfl) T.zm BG (aa (C8 rfl (x:=("part" : Str)) (jV (K:=K) rfl (ac 1)) (fun _ _ _ _=>by exact qI) (fun _ _ _ _=>by exact (gq 0 (show List.Nodup (["part"]:List Str) by decide))) (fun _ _ _ _=>by exact (bi (J2 T) hr.m T.lz.m T.lz.F.kp T.lz.b .nil az (aa (ac 0) ae))) (.of rfl (by exact trivial) (by walk_at "c") rfl (by exact trivial))) ae)))) (ai (mr mh rfl T.wO T.AD (aa al ae))) bn)
 (ad (aX (fF (kt (bB (Iy hr.sR) (ac 1) (cr ae)) (sr (bO (kF PySem.F.slot_str_endswith PySem.F.type_str_endswith FR (ac 0) (aa al ae)))))) (ai (aW (iQ IR KB l8 (ac 1) (aa al ae)))) bn)
 (ai (aK (em (aa (kF PySem.F.slot_str_startswith PySem.F.type_str_startswith Fx (ac 0) (aa al ae)) (aa (ac 1) ae)))))))))).h,?_⟩
 refine stI [some x,none] ?_;have lY:Str.ofString "/" = Tx.S [47]:=by symm
 have e0:Str.ofString "" = Tx.S []:=by symm
 have u0:∃ T',clsName H x=some T':=by
  cases x with
  | str z=>exact ⟨_,rfl⟩
  | _=>exact Em
 obtain ⟨ty,h1⟩:=u0;by_cases eB:nA x=false
 ·refine ck (fun _ _=>False) ?_ (fun _ _ z=>z.elim);left;simp only [h1,qc h1,eB,Bool.not_false,Ja7];exact ⟨kY _ rfl,fits (by simp),q H (ag.refl H)⟩
 ·obtain ⟨z,rfl⟩:∃ z,x=.str z:=by
   cases x with
   | str z=>exact ⟨z,rfl⟩
   | _=>exact absurd rfl eB
  obtain ⟨t,rfl⟩:∃ t,z=Tx.S t:=⟨_,(Tx.wB z).symm⟩;simp only [fQ,Tx.cC,Tx.iS] at Em;by_cases hlen:t.length=0\/2000 < t.length
  ·refine ck (fun _ _=>False) ?_ (fun _ _ z=>z.elim);left;simp only [Tx.cC];refine ⟨kY _ rfl,aQ ⟨u8 (show t.length<=3000 by omega) (by decide),?_⟩⟩;by_cases h0:t.length=0
   ·rw [pc (show ¬ (1:Int)<=(t.length:Int) by omega)];exact aQ (aV ⟨fits (by simp),q H (ag.refl H)⟩)
   ·rw [wP (show (1:Int)<=(t.length:Int) by omega),pc (show ¬ (t.length:Int)<=2000 by omega)];exact aV (aV ⟨fits (by simp),q H (ag.refl H)⟩)
  ·obtain ⟨t1,t2,m7⟩:1<=t.length/\t.length<=1000/\(Tx.words 47 t).all dD=false:=by
    rcases Em with h | h | h
    ·exact absurd (.inl h) hlen
    ·exact absurd (.inr h.1) hlen
    ·exact h
   right;simp only [Tx.cC,lY,e0];refine ⟨kY _ rfl,aQ ⟨u8 t2 (by decide),?_⟩⟩;rw [wP (show (1:Int)<=(t.length:Int) by omega),wP (show (t.length:Int)<=2000 by omega)];refine aV (aQ (ah ?_));left;have ib:=Tx.sW 47 t;refine ⟨rfl,by rw [Tx.cC]; exact u8 t2 (by decide),?_,?_⟩
   ·rw [Tx.rf,Tx.ji,Tx.qe,Tx.md,pp];exact u8 (show _<=2001 by omega) (by decide)
   intro l hl;rw [Tx.uz t 47 (by decide)];refine eY hl fun H1 s1 b1=>?_;refine ⟨⟨_,aD.of b1⟩,uS nz id (aD.of b1) (by rw [pp,pp]; exact u8 (show _<=2001 by omega) (by decide)) ?_ ?_ ?_⟩
   ·intro x hx H2 _ R hR;obtain ⟨z,_,rfl⟩:=EQ.mp hx;left;exact hR H2 (ag.refl H2)
   ·intro x hx _ H2 _ R hR;left;exact hR H2 (ag.refl H2)
   intro H2 s2 l2 cf;rw [B0];refine eY cf fun H3 s3 b3=>?_;have mX:ag H H3:=(s1.trans s2).trans s3;have m9:(Tx.words 47 t).length<=2001:=u8 (_u _ _) (by omega);refine ck (fun _ _=>False) ?_ (fun _ _ z=>z.elim);left;refine ⟨⟨_,aD.of b3⟩,uS (fun _=>true) t9 (aD.of b3) (by rw [pp,pp]; exact u8 m9 (by decide)) ?_ ?_ ?_⟩
   ·intro x _ H4 _ R hR;exact hR H4 (ag.refl H4)
   ·intro x hx _ H4 _ R hR;obtain ⟨z,hz,rfl⟩:=EQ.mp hx;obtain ⟨w',hw,rfl⟩:=EQ.mp hz;left;refine ⟨w',rfl,u8 (Tx.Ot 47 t w' hw) t2,fun H5 s5=>?_⟩;have:=hR H5 s5;simp only [t9,Tx.iS] at this;exact this
   intro H4 s4 l4 ku;rw [FO];refine ⟨_,aD.of au,_,rfl,?_⟩;have ea:((Tx.words 47 t).map dD).all id=false:=by rw [List.all_map]; exact m7
   rw [ea];exact aV ⟨fits (by simp),q _ ((mX.trans s4).trans (ag.upd ku))⟩
def qd:V->Bool
 | .str z=>dg.contains z
 | _=>false
def Vo (C:Addr):Sp:=l9 fun v H _ E=>A3 (∃ T,clsName H v=some T) (qd v=false) (E (.ref C) none H)
def WM:T.iq.k P w base 1 (fun vs H Q _=>∃ v,vs=[v]/\(∃ T,clsName H v=some T)/\qd v=false/\Q (.bl false) H):=by
 refine T.iq.F.ok Jz (fun vs H Q E h=>?_) (fun ao A outer s H vs Q E hr h=>?_)
 ·obtain ⟨v,rfl,_⟩:=h;rfl
 ·obtain ⟨v,rfl,⟨ty,cy⟩,hv,q⟩:=h;refine ⟨_,((ai (aK (nH (bL iR T.dm dE (aa (ac 0) (aa (iB (.ty "str") T.lI lH rfl) ae))) (im (gl (wG (K:=K) rfl) (ac 0) (dL (.ref T.yG) T.G7 rfl))))))).h,?_⟩;refine stI [some v] ?_;left;simp only [cy,qc cy];refine ⟨kY _ rfl,?_⟩;cases v with
  | str z =>
   simp only [nA,Ja7];refine ⟨_,.inr (T.wL H),rfl,rfl,?_⟩;have e:fO (V.str z) [V.str "",V.str "l",V.str "g",V.str "w",V.str "lg",V.str "lw",V.str "gw",V.str "lgw"]=false:=by
    rw [show [V.str "",V.str "l",V.str "g",V.str "w",V.str "lg",V.str "lw",V.str "gw",V.str "lgw"]=dg.map V.str from rfl];cases h:fO (V.str z) (dg.map V.str) with
    | false=>rfl
    | true =>
     unfold fO at h;rw [List.any_map,List.any_eq_true] at h;obtain ⟨y,hy,he⟩:=h;have he':(y == z)=true:=he;have e2:y=z:=by simpa using he'
     subst e2;have:dg.contains y=true:=List.elem_iff.mpr hy;rw [show qd (V.str y)=dg.contains y from rfl,this] at hv;cases hv
   rw [e];exact q
  | _=>exact q
def Jp:aA P w K mg base (bI P w) 2 T.cN.f T.cN.d ["text"] (Vo T.cb):=by
 refine T.cN.F.dJ Ky (fun _ _ _ _ h=>gD h fun _ _=>rfl) fun ao A outer s H vs Q E hr h=>gD h fun v h=>?_;obtain ⟨hc,hv,q⟩:=h;refine ⟨_,((ai (aX (dW (bO (bi (WM T) hr.m T.iq.m T.iq.F.kp T.iq.b .nil az (aa (ac 0) ae)))) (ai (mr mh rfl T.y3 T.IK (aa al ae))) bn))).h,?_⟩;refine stI [some v] ?_;left;exact ⟨v,rfl,hc,hv,aV ⟨fits (by simp),q⟩⟩
def ur:V->Bool
 | .str z=>decide (60 < z.length) && decide (z.length<=1000)
 | _=>true
def YA (C:Addr):Sp:=l9 fun v H _ E=>A3 (∃ T,clsName H v=some T) (ur v=true) (E (.ref C) none H)
def ZF:T.ij.k P w base 1 (fun vs H Q _=>∃ v,vs=[v]/\(∃ T,clsName H v=some T)/\ur v=true/\Q (.bl false) H):=by
 refine T.ij.F.ok HJ (fun vs H Q E h=>?_) (fun ao A outer s H vs Q E hr h=>?_)
 ·obtain ⟨v,rfl,_⟩:=h;rfl
 ·obtain ⟨v,rfl,⟨ty,cy⟩,hv,q⟩:=h;refine ⟨_,((ai (aK (nH (bL iR T.dm dE (aa (ac 0) (aa (iB (.ty "str") T.lI lH rfl) ae))) (im (gl lx (bL (g9 (K:=K) rfl) T.g7 LT (aa (ac 0) ae)) (dL (.int 60) T.JG ⟨_,rfl⟩))))))).h,?_⟩;refine stI [some v] ?_;left;simp only [cy,qc cy];refine ⟨kY _ rfl,?_⟩;cases v with
  | str z =>
   simp only [nA,Ja7];have hv':(decide (60 < z.length) && decide (z.length<=1000))=true:=hv;simp only [zn,Os] at hv';refine ⟨fits hv'.2,?_⟩;rw [pc (show ¬ (z.length:Int)<=60 by omega)];exact q
  | _=>exact q
def VQ:aA P w K mg base (bI P w) 2 T.il.f T.il.d ["text"] (YA T.cE):=by
 refine T.il.F.dJ IE (fun _ _ _ _ h=>gD h fun _ _=>rfl) fun ao A outer s H vs Q E hr h=>gD h fun v h=>?_;obtain ⟨hc,hv,q⟩:=h;refine ⟨_,((ai (aX (dW (bO (bi (ZF T) hr.m T.ij.m T.ij.F.kp T.ij.b .nil az (aa (ac 0) ae)))) (ai (mr mh rfl T.Fp T.Qy (aa al ae))) bn))).h,?_⟩;refine stI [some v] ?_;left;exact ⟨v,rfl,hc,hv,aV ⟨fits (by simp),q⟩⟩
def la (H:Hp) (v:V):Prop:=fQ H v\/∃ t,v=.str (Tx.S t)/\dj t/\120 < t.length/\t.length<=1000
def Of:aA P w K mg base (bI P w) 4 T.iw.f T.iw.d ["path"] (fun vs H Q E=>∃ v,vs=[v]/\la H v/\∀ H',ag H H'->E (.ref T.bZ) none H'):=by
 have o6:=jc (iT (P:=P) (w:=w) (base:=base) T).cx (xB (P:=P) (w:=w) (base:=base) T);refine T.iw.F.dJ F2 (fun vs H Q E h=>?_) (fun ao A outer s H vs Q E hr h=>?_)
 ·obtain ⟨v,rfl,_⟩:=h;rfl
 ·obtain ⟨v,rfl,hb,q⟩:=h;refine bJ (b:=bb xn) ((ad (aW (cL o6 hr.m T.bX.m T.bX.F.kp T.bX.b .nil bS (aa (ac 0) ae)))
   (ai (aX (bB yT (bL (g9 (K:=K) rfl) T.g7 LT (aa (ac 0) ae)) (dL (.int 120) T.JB ⟨_,rfl⟩)) (ai (mr mh rfl T.wO T.AD (aa al ae))) bn)))) ?_
  refine stI [some v] ?_;rcases hb with hb | ⟨t,rfl,pt,hl,cf⟩
  ·refine ck (fun _ _=>False) ?_ (fun _ _ z=>z.elim);left;exact .inr ⟨hb,q⟩
  ·right;refine .inl ⟨t,rfl,pt.l1,pt.l2,pt.all,fun H1 l p s1 _ _ _=>?_⟩;left;refine ⟨by rw [Tx.cC]; exact fits (by omega),?_⟩;rw [Tx.cC,wP (show (t.length:Int) > 120 by omega)];exact aV ⟨fits (by simp),q _ s1⟩
section
variable (T:Tx K mg) (H:Hp) (M:Hs)
inductive uG (va vp:V):Addr->Prop
 | kb:(∃ ty,clsName H va=some ty)->(∀ z,va=.str z->aG (sD M.ro) (.inr z)=none)->uG va vp T.bY
 | path {z}:va=.str z->(aG (sD M.ro) (.inr z)).isSome=true->fQ H vp->uG va vp T.bZ
structure wm (va vp:V) (z:Str) (t:List Nat):Prop where
 a:va=.str z
 z:(aG (sD M.ro) (.inr z)).isSome=true
 p:vp=.str (Tx.S t)
 t:dj t
inductive qP (vm vr:V):Prop
 | qM:(∃ ty,clsName H vm=some ty)->qd vm=false->qP vm vr
 | rest {y}:vm=.str y->y∈dg->(∃ ty,clsName H vr=some ty)->qd vr=false->qP vm vr
end
def Qb:aA P w K mg base (bI P w) 15 T.yz T.rC ["house","asker","path","mine","rest"] (fun vs H Q E=>∃ A L M va vp vm vr C,vs=[.ref A.a,va,vp,vm,vr]/\aE T.aH T.aL T.aU H A L M/\(uG T H M va vp C\/∃ z t,wm M va vp z t/\qP H vm vr/\C=T.cb)/\∀ H',ag H H'->E (.ref C) none H'):=by
 have o6:=jc (iT (P:=P) (w:=w) (base:=base) T).cx (xB (P:=P) (w:=w) (base:=base) T);have u9:=jc (ql (P:=P) (w:=w) (base:=base) T).cx (Jp (P:=P) (w:=w) (base:=base) T);refine T.me.dJ vG (fun vs H Q E h=>?_) (fun ao A outer s H vs Q E hr h=>?_)
 ·obtain ⟨_,_,_,_,_,_,_,_,rfl,_⟩:=h;rfl
 ·obtain ⟨AA,L,M,va,vp,vm,vr,C,rfl,i,hb,q⟩:=h;obtain ⟨fX,gc,gh,f6,bP⟩:=i.h;refine bJ (b:=bb nY) ((ad (aW (eE T.aO T.eC.h (lA T) hr.m T.eC.b .nil bS (ac 0) (aa (ac 1) ae)))
   (ad (aW (cL o6 hr.m T.bX.m T.bX.F.kp T.bX.b .nil bS (aa (ac 2) ae)))
   (ad (aW (cL u9 hr.m T.cN.m T.cN.F.kp T.cN.b .nil bS (aa (ac 3) ae)))
   (ad (aW (cL u9 hr.m T.cN.m T.cN.F.kp T.cN.b .nil bS (aa (ac 4) ae)))
   (ad (aP 5 vG.nd (cL (pI T) hr.m T.eG.m T.eG.F.kp T.eG.b .nil bS (aa (ac 0) (aa (ac 1) (aa (ac 2) ae)))))
   (ai (aK (bi (pO T) hr.m T.eI.m T.eI.F.kp T.eI.b .nil az (aa (ac 0) (aa (ac 5) (aa (bw T.cm T.kG.h (AE T) hr.m T.kG.b .nil az (ap T.aO T.fv (ac 0)) (aa (ac 1) (aa (ac 3) (aa (ac 4) ae)))) ae)))))))))))) ?_
  refine stI [some (V.ref AA.a),some va,some vp,some vm,some vr,none] ?_;rcases hb with (⟨hc,hn⟩ | ⟨rfl,hz,hb⟩) | ⟨z,t,⟨rfl,hz,rfl,pt⟩,hb,rfl⟩
  ·refine ck (fun _ _=>False) ?_ (fun _ _ z=>z.elim);left;exact (mI gh bP ⟨AA,L,M,i,rfl,hc,fun z e hz=>(by rw [hn z e] at hz; cases hz),fun _=>q H (ag.refl H)⟩)
  ·right;refine (mI gh bP (iW i hz ?_));refine ck (fun _ _=>False) ?_ (fun _ _ z=>z.elim);left;exact .inr ⟨hb,q⟩
  ·right;refine (mI gh bP (iW i hz (ah ?_)));left;refine .inl ⟨t,rfl,pt.l1,pt.l2,pt.all,fun H1 l p s1 _ _ _=>?_⟩;rcases hb with ⟨⟨ty,hc⟩,hm⟩ | ⟨rfl,hm,⟨ty,hc⟩,hr'⟩
   ·refine ck (fun _ _=>False) ?_ (fun _ _ z=>z.elim);left;exact .inr ⟨⟨ty,kT s1 hc⟩,hm,q _ s1⟩
   ·right;refine .inl ⟨hm,?_⟩;refine ck (fun _ _=>False) ?_ (fun _ _ z=>z.elim);left;exact .inr ⟨⟨ty,kT s1 hc⟩,hr',q _ s1⟩
def T8:aA P w K mg base (bI P w) 15 T.yp T.rq ["house","asker","path","text","mine","rest"] (fun vs H Q E=>∃ A L M va vp vx vm vr C,vs=[.ref A.a,va,vp,vx,vm,vr]/\aE T.aH T.aL T.aU H A L M/\(uG T H M va vp C\/∃ z t,wm M va vp z t/\(qP H vm vr/\C=T.cb\/∃ y y',vm=.str y/\y∈dg/\vr=.str y'/\y'∈dg/\(∃ ty,clsName H vx=some ty)/\ur vx=true/\C=T.cE))/\∀ H',ag H H'->E (.ref C) none H'):=by
 have o6:=jc (iT (P:=P) (w:=w) (base:=base) T).cx (xB (P:=P) (w:=w) (base:=base) T);have u9:=jc (ql (P:=P) (w:=w) (base:=base) T).cx (Jp (P:=P) (w:=w) (base:=base) T);have G_check_text:=jc (Ly (P:=P) (w:=w) (base:=base) T).cx (VQ (P:=P) (w:=w) (base:=base) T);refine T.pB.dJ vP (fun vs H Q E h=>?_) (fun ao A outer s H vs Q E hr h=>?_)
 ·obtain ⟨_,_,_,_,_,_,_,_,_,rfl,_⟩:=h;rfl
 ·obtain ⟨AA,L,M,va,vp,vx,vm,vr,C,rfl,i,hb,q⟩:=h;obtain ⟨fX,gc,gh,f6,bP⟩:=i.h;refine bJ (b:=bb oM) ((ad (aW (eE T.aO T.eC.h (lA T) hr.m T.eC.b .nil bS (ac 0) (aa (ac 1) ae)))
   (ad (aW (cL o6 hr.m T.bX.m T.bX.F.kp T.bX.b .nil bS (aa (ac 2) ae)))
   (ad (aW (cL u9 hr.m T.cN.m T.cN.F.kp T.cN.b .nil bS (aa (ac 4) ae)))
   (ad (aW (cL u9 hr.m T.cN.m T.cN.F.kp T.cN.b .nil bS (aa (ac 5) ae)))
   (ad (aW (cL G_check_text hr.m T.il.m T.il.F.kp T.il.b .nil bS (aa (ac 3) ae)))
   (ad (aP 6 vP.nd (cL (pI T) hr.m T.eG.m T.eG.F.kp T.eG.b .nil bS (aa (ac 0) (aa (ac 1) (aa (ac 2) ae)))))
   (ai (aK (bi (pO T) hr.m T.eI.m T.eI.F.kp T.eI.b .nil az (aa (ac 0) (aa (ac 6) (aa (bw T.cm T.nF.h (Hc T) hr.m T.nF.b .nil az (ap T.aO T.fv (ac 0)) (aa (ac 1) (aa (ac 3) (aa (ac 4) (aa (ac 5) ae))))) ae))))))))))))) ?_
  refine stI [some (V.ref AA.a),some va,some vp,some vx,some vm,some vr,none] ?_;rcases hb with (⟨hc,hn⟩ | ⟨rfl,hz,hb⟩) | ⟨z,t,⟨rfl,hz,rfl,pt⟩,hb⟩
  ·refine ck (fun _ _=>False) ?_ (fun _ _ z=>z.elim);left;exact (mI gh bP ⟨AA,L,M,i,rfl,hc,fun z e hz=>(by rw [hn z e] at hz; cases hz),fun _=>q H (ag.refl H)⟩)
  ·right;refine (mI gh bP (iW i hz ?_));refine ck (fun _ _=>False) ?_ (fun _ _ z=>z.elim);left;exact .inr ⟨hb,q⟩
  ·right;refine (mI gh bP (iW i hz (ah ?_)));left;refine .inl ⟨t,rfl,pt.l1,pt.l2,pt.all,fun H1 l p s1 _ _ _=>?_⟩;rcases hb with ⟨⟨⟨ty,hc⟩,hm⟩ | ⟨rfl,hm,⟨ty,hc⟩,hr'⟩,rfl⟩ | ⟨y,y',rfl,hm,rfl,hr',⟨ty,hc⟩,hx,rfl⟩
   ·refine ck (fun _ _=>False) ?_ (fun _ _ z=>z.elim);left;exact .inr ⟨⟨ty,kT s1 hc⟩,hm,q _ s1⟩
   ·right;refine .inl ⟨hm,?_⟩;refine ck (fun _ _=>False) ?_ (fun _ _ z=>z.elim);left;exact .inr ⟨⟨ty,kT s1 hc⟩,hr',q _ s1⟩
   ·right;refine .inl ⟨hm,ah ?_⟩;left;refine .inl ⟨hr',?_⟩;refine ck (fun _ _=>False) ?_ (fun _ _ z=>z.elim);left;exact .inr ⟨⟨ty,kT s1 hc⟩,hx,q _ s1⟩
def OW:aA P w K mg base (bI P w) 15 T.kJ.f T.kJ.d ["house","asker","path","lead"] (fun vs H Q E=>∃ A L M va vp vl C,vs=[.ref A.a,va,vp,vl]/\aE T.aH T.aL T.aU H A L M/\(uG T H M va vp C\/∃ z t,wm M va vp z t/\la H vl/\C=T.bZ)/\∀ H',ag H H'->E (.ref C) none H'):=by
 have o6:=jc (iT (P:=P) (w:=w) (base:=base) T).cx (xB (P:=P) (w:=w) (base:=base) T);have G_check_lead:=jc (HC (P:=P) (w:=w) (base:=base) T).cx (Of (P:=P) (w:=w) (base:=base) T);refine T.kJ.F.dJ xA (fun vs H Q E h=>?_) (fun ao A outer s H vs Q E hr h=>?_)
 ·obtain ⟨_,_,_,_,_,_,_,rfl,_⟩:=h;rfl
 ·obtain ⟨AA,L,M,va,vp,vl,C,rfl,i,hb,q⟩:=h;obtain ⟨fX,gc,gh,f6,bP⟩:=i.h;refine bJ (b:=bb xR) ((ad (aW (eE T.aO T.eC.h (lA T) hr.m T.eC.b .nil bS (ac 0) (aa (ac 1) ae)))
   (ad (aW (cL o6 hr.m T.bX.m T.bX.F.kp T.bX.b .nil bS (aa (ac 2) ae)))
   (ad (aW (cL G_check_lead hr.m T.iw.m T.iw.F.kp T.iw.b .nil bS (aa (ac 3) ae)))
   (ad (aP 4 xA.nd (cL (pI T) hr.m T.eG.m T.eG.F.kp T.eG.b .nil bS (aa (ac 0) (aa (ac 1) (aa (ac 2) ae)))))
   (ai (aK (bi (pO T) hr.m T.eI.m T.eI.F.kp T.eI.b .nil az (aa (ac 0) (aa (ac 4) (aa (bw T.cm T.oG.h (HK T) hr.m T.oG.b .nil az (ap T.aO T.fv (ac 0)) (aa (ac 1) (aa (ac 3) ae))) ae))))))))))) ?_
  refine stI [some (V.ref AA.a),some va,some vp,some vl,none] ?_;rcases hb with (⟨hc,hn⟩ | ⟨rfl,hz,hb⟩) | ⟨z,t,⟨rfl,hz,rfl,pt⟩,hb,rfl⟩
  ·refine ck (fun _ _=>False) ?_ (fun _ _ z=>z.elim);left;exact (mI gh bP ⟨AA,L,M,i,rfl,hc,fun z e hz=>(by rw [hn z e] at hz; cases hz),fun _=>q H (ag.refl H)⟩)
  ·right;refine (mI gh bP (iW i hz ?_));refine ck (fun _ _=>False) ?_ (fun _ _ z=>z.elim);left;exact .inr ⟨hb,q⟩
  ·right;refine (mI gh bP (iW i hz (ah ?_)));left;refine .inl ⟨t,rfl,pt.l1,pt.l2,pt.all,fun H1 l p s1 _ _ _=>?_⟩;refine ck (fun _ _=>False) ?_ (fun _ _ z=>z.elim);left;refine .inr ⟨vl,rfl,?_,fun H' s'=>q _ (s1.trans s')⟩;rcases hb with hb | hb
   ·exact .inl (Yd s1 hb)
   ·exact .inr hb
def S0:T.tY.k P w mg base 3 (lb T.aH T.aL T.aU Ad.t AW):=by
 refine T.tY.F.ok UR (fun _ _ _ _ h=>c8 h fun _ _ _=>rfl) fun ao A outer s H vs Q E hr h=>c8 h fun x n h=>?_;obtain ⟨AA,L,M,k,a,t,i,rfl,rfl,ha,aS,q⟩:=h;obtain ⟨fs,c,hx,aY,sf⟩:=i.h;obtain ⟨gs,c2,ht,eO,sg⟩:=i.t;have dG:=fL i ha aS;obtain ⟨ks,ho,ki,so⟩:=dG.o;refine ⟨_,((ai (aK (bL (YE (K:=K) rfl rfl) T.aai Vr (aa (ap T.ej T.wA (eE T.cm T.ed.h (jU T) hr.m T.ed.b .nil gW (ac 0) (aa (ac 1) ae))) ae))))).h,?_⟩;refine stI [some (V.ref AA.t),some (V.int (k:Int))] ?_;left;refine (mI ht sg (kX i ha aS ⟨a.th,_,_,.ref a.nm,rfl,ho,(so _).trans rfl,.inr (.inl ⟨a.nm,_,t.aR.map (·.1),rfl,dG.nm,by unfold sD; rw [Tm,Tm]; rfl,by rw [pp]; exact q.1,q.2⟩)⟩))
def HS:T.oQ.k P w mg base 4 (lb T.aH T.aL T.aU Ad.a AW):=by
 refine T.oQ.F.ok WD (fun _ _ _ _ h=>c8 h fun _ _ _=>rfl) fun ao A outer s H vs Q E hr h=>c8 h fun x n h=>?_;obtain ⟨AA,L,M,k,a,t,i,rfl,rfl,ha,aS,q⟩:=h;obtain ⟨fs,c,hx,aY,sf⟩:=i.h;obtain ⟨gs,c2,ht,eO,sg⟩:=i.t;have dG:=fL i ha aS;obtain ⟨ks,ho,ki,so⟩:=dG.o;refine ⟨_,((ai (aK (bw T.cm T.tY.h (S0 T) hr.m T.tY.b .nil az (ap T.aO T.fv (ac 0)) (aa (ac 1) ae))))).h,?_⟩;refine stI [some (V.ref AA.a),some (V.int (k:Int))] ?_;left;exact ⟨AA.a,_,_,.ref AA.t,rfl,hx,(sf _).trans rfl,AA.t,_,_,rfl,ht,(sg _).trans rfl,AA,L,M,k,a,t,i,rfl,rfl,ha,aS,q⟩
def aa6:Sp:=GR fun _ _ H Q _=>∀ r:Int,0<=r->Q (.int r) H
def Xo:T.qV.k P w base 1 aa6:=by
 refine T.qV.F.ok yN (fun _ _ _ _ h=>Lg h fun _ _ _=>rfl) fun ao A outer s H vs Q E hr h=>Lg h fun y z h=>?_;refine ⟨_,((ad (aP 2 yN.nd (bv ox (bv jX (bv cW (bv cW (ac 0) (bv jX am (ac 1))) am) am) am))
 (ad (aP 2 yN.nd (bv ox (bv jX (ac 2) (bv cW (bv Dk (ac 2) am) am)) am))
 (ai (aK (bv ox (bv jX (ac 2) (bv cW (bv Dk (ac 2) am) am)) am)))))).h,?_⟩
 refine stI [some (.int y),some (.int z),none] ?_;right;refine ⟨.inl ⟨by decide,by decide⟩,.inr ⟨by decide,by decide⟩,by decide,ah ?_⟩;left;generalize hm:(y+7919 * z+1) * 48271 % 2147483647=m;have m0:0<=m:=by rw [<- hm]; exact _I _ (by decide)
 have m1:m < 2147483647:=by rw [<- hm]; exact _K _ (by decide)
 refine ⟨⟨by decide,by decide⟩,.inl ⟨by omega,by omega⟩,by decide,?_⟩;left;generalize hn:m * (m / 1009+69621) % 2147483647=n;have n0:0<=n:=by rw [<- hn]; exact _I _ (by decide)
 have n1:n < 2147483647:=by rw [<- hn]; exact _K _ (by decide)
 refine ⟨⟨by decide,by decide⟩,.inl ⟨by omega,by omega⟩,by decide,?_⟩;exact h _ (_I _ (by decide))
def Yb:Sp:=GO fun _ H Q _=>∀ l a b c,H l=none->Q (.ref l) (upd H l (.lst [.int a,.int b,.int c]))
def O9:T.pZ.k P w base 1 Yb:=by
 refine T.pZ.F.ok Yr (fun _ _ _ _ h=>Kk h fun _ _=>rfl) fun ao A outer s H vs Q E hr h=>Kk h fun y h=>?_;refine ⟨_,((ad (aX (bB CP (ac 0) (bv acC am am)) (ai (aK (cr (aa am (aa (bv ox (ac 0) am) (aa am ae)))))) bn)
 (ai (aK (cr (aa (ac 0) (aa (bv ox (ac 0) am) (aa am ae)))))))).h,?_⟩
 refine stI [some (.int y)] ?_;right;refine ⟨by constructor <;> decide,qo (fun _=>⟨by decide,fits (by simp),fun p hp=>h _ _ _ _ hp⟩) (fun _=>⟨by decide,fits (by simp),fun p hp=>h _ _ _ _ hp⟩)⟩
def zS:Sp:=mS fun st b H Q _=>X3 fun x y z=>A4 (H st=some (.lst [.int x,.int y,.int z])) (0 < b) (b<=1000) (∀ d x' y' z' H',0<=d->d < b->H' st=some (.lst [.int x',.int y',.int z'])->cJ st H H'->Q (.int d) H')
def nQ:T.dR.k P w base 2 zS:=by
 refine T.dR.F.ok He (fun _ _ _ _ h=>c8 h fun _ _ _=>rfl) fun ao A outer s H vs Q E hr h=>c8 h fun st b h=>?_;obtain ⟨x,y,z,h1,nq,rK,q⟩:=h;refine ⟨_,((ad (aX (bB yT (ci (bD (K:=K) rfl) (ac 0) am) am) (ad (aP 2 He.nd (bv ox (ci (bD (K:=K) rfl) (ac 0) am) (ac 1)))
 (ad (HH (bv Dk (ci (bD (K:=K) rfl) (ac 0) am) (ac 1)) (Jh (ac 0) am JC))
 (ai (aK (ac 2))))) bn)
 (ad (HH (bv cW (ci (bD (K:=K) rfl) (ac 0) am) am) (Jh (ac 0) am JC))
 (ai (aK (bv ox (bi (Xo T) hr.m T.qV.m T.qV.F.kp T.qV.b .nil az (aa (ci (bD (K:=K) rfl) (ac 0) am) (aa (ci (bD (K:=K) rfl) (ac 0) am) ae))) (ac 1))))))).h,?_⟩
 refine stI [some (.ref st),some (.int b),none] ?_;right;simp only [bj,h1,e8];refine qo (fun _=>?_) (fun _=>?_)
 ·right;simp only [bj,h1,e8];refine ⟨nq,ah ?_⟩;left;simp only [bj,h1,e8,Gc,abY,List.set_cons_zero];refine ⟨⟨nq,by omega⟩,?_⟩;exact q _ _ _ _ _ (_I _ (by omega)) (_K _ nq) au cJ.upd
 ·right;simp only [bj,h1,zl,Gc,_7,abx,List.set_cons_zero,List.set_cons_succ];left;simp only [bj,au,lC,zl];intro r r0;refine ⟨nq,?_⟩;exact q _ _ _ _ _ (_I _ (by omega)) (_K _ nq) au cJ.upd
def Dr (st:Addr) (H:Hp):Prop:=∃ x y z:Int,H st=some (.lst [.int x,.int y,.int z])
def Dr.same {st:Addr} {H H':Hp} (h:Dr st H) (s:ag H H'):Dr st H':=let ⟨x,y,z,e⟩:=h; ⟨x,y,z,s _ _ e⟩
def Dr.ne {st p:Addr} {H:Hp} (h:Dr st H) (hp:H p=none):p≠st:=let ⟨x,y,z,e⟩:=h; fun q=>by rw [q,e] at hp; cases hp
def tF {st:Addr} {b:Int} {H:Hp} {Q:VK} {E:XK} (h:Dr st H) (nq:0 < b) (rK:b<=1000) (q:∀ d H',0<=d->d < b->Dr st H'->cJ st H H'->Q (.int d) H'):zS [.ref st,.int b] H Q E:=by
 obtain ⟨x,y,z,e⟩:=h;exact ⟨x,y,z,e,nq,rK,fun d x' y' z' H' d0 d1 e' k=>q d H' d0 d1 ⟨x',y',z',e'⟩ k⟩
def pick {xs:List V} {d:Int} (h0:0<=d) (h1:d < xs.length):∃ v∈xs,dI xs d=some v:=by
 obtain ⟨n,rfl⟩:=_M h0;have hn:n < xs.length:=by omega
 exact ⟨xs[n],_W hn,mK (ss hn)⟩
def zT {H:Hp} {st:Addr} {xs:List V} {Q:VK} {E:XK} {b:Int} (h:Dr st H) (hb:b=xs.length) (hn:xs.length<=1000) (h0:0 < xs.length) (q:∀ v H',v∈xs->Dr st H'->cJ st H H'->Q v H') :
  xs.length<=sizeLine/\∀ p,H p=none->zS [.ref st,.int b] (upd H p (.lst xs)) (fun y H2=>pU K (.ref p) y H2 Q) E:=by
 refine ⟨fits hn,fun p hp=>?_⟩;refine eY hp fun H1 s1 b1=>?_;have np:=h.ne hp;refine tF (h.same s1) (by omega) (by omega) fun d H2 d0 d1 h2 k2=>?_;obtain ⟨v,hv,e⟩:=pick (xs:=xs) d0 (by omega);simp only [pU,bj,k2 _ _ np b1,e];exact q v H2 hv h2 ((s1.keep st).trans k2)
inductive Down (d:Wd):Nat->List Str->Nat->Prop
 | nil {f}:Down d f [] f
 | cons {f nm ns k h t tk}:d.M.ts[f]?=some t->t.kd=("folder" : Str)->cI ("g" : Str) (dk t d.z)=true->fG (.str nm)=true->nm.length<=8->aG (sD t.aR) (.inr nm)=some (.int ((k:Nat):Int))->d.M.ts[k]?=some tk->tk.kd=("folder" : Str)->Down d k ns h->Down d f (nm::ns) h
def jA {nm:Str} {ns:List Str}:cq (nm::ns)=cq ns++[.inr nm]:=by simp [cq]
def aac {d:Wd} {P:Ws->Option Tl->Prop} (g:Gd d.M) (hL:d.L.length=d.M.ts.length) {f h:Nat} {ns:List Str} (D:Down d f ns h):∀ {S:Ws} {l:List (Sum Nat Str)},S.here=f->S.left=l++cq ns ->
  (∀ S1:Ws,S1.here=h->S1.left=l->S1.place=S.place->S1.bo=S.bo->∃ n S' o,eS d n S1 S' o/\P S' o)->∃ n S' o,eS d n S S' o/\P S' o:=by
 induction D with
 | nil=>exact fun e1 e2 k=>k _ e1 (by simpa [cq] using e2) rfl rfl
 | @cons f nm ns k h t tk ht hk hg hn hl hv eP DK D ih =>
  intro S l e1 e2 kk;obtain ⟨a,ha⟩:=adr hL ht;obtain ⟨b,hb⟩:=adr hL eP;rw [jA,<- _w] at e2;have st:gI d { S with left:=l++cq ns } nm { dP { S with left:=l++cq ns } with look:=(dP { S with left:=l++cq ns }).look+1,here:=dz k [] } none :=
   .go (t:=t) ⟨⟨a,by rw [<- e1] at ha; exact ha⟩,by rw [<- e1] at ht; exact ht,hk,hg⟩ (fun z=>by rw [z,Fs.2] at hn; cases hn) (fun z=>by rw [z,Fs.1] at hn; cases hn) hn (by omega) (.folder hv hb eP DK (g.dB k))
  obtain ⟨n,S',o,r,p⟩:=ih (S:={ dP { S with left:=l++cq ns } with look:=(dP { S with left:=l++cq ns }).look+1,here:=dz k [] }) (l:=l) rfl rfl fun S1 a1 a2 a3 a4=>kk S1 a1 a2 (a3.trans rfl) (a4.trans rfl);exact ⟨n+1,S',o,.step e2 st r,p⟩
def abK {d:Wd} {P:Ws->Option Tl->Prop} (hL:d.L.length=d.M.ts.length) {S:Ws} {l:List (Sum Nat Str)} {t:Th} (ht:d.M.ts[S.here]?=some t) (hk:t.kd=("folder" : Str)) (hg:cI ("g" : Str) (dk t d.z)=true) (e2:S.left=l++[.inr ("." : Str)])
  (kk:∀ S1:Ws,S1.here=S.here->S1.left=l->S1.place=S.place->S1.bo=S.bo->∃ n S' o,eS d n S1 S' o/\P S' o):∃ n S' o,eS d n S S' o/\P S' o:=by
 obtain ⟨a,ha⟩:=adr hL ht;obtain ⟨n,S',o,r,p⟩:=kk (dP { S with left:=l }) rfl rfl rfl rfl;exact ⟨n+1,S',o,.step e2 (.dot (t:=t) ⟨⟨a,ha⟩,ht,hk,hg⟩ rfl) r,p⟩
def acv {d:Wd} {P:Ws->Option Tl->Prop} (g:Gd d.M) (hL:d.L.length=d.M.ts.length) {S:Ws} {l:List (Sum Nat Str)} {t:Th} (h0:S.here=d.root) (ht:d.M.ts[S.here]?=some t) (hk:t.kd=("folder" : Str)) (hg:cI ("g" : Str) (dk t d.z)=true) (e2:S.left=l++[.inr (".." : Str)])
  (kk:∀ S1:Ws,S1.here=S.here->S1.left=l->S1.place=S.place->S1.bo=S.bo->∃ n S' o,eS d n S1 S' o/\P S' o):∃ n S' o,eS d n S S' o/\P S' o:=by
 obtain ⟨a,ha⟩:=adr hL ht;obtain ⟨n,S',o,r,p⟩:=kk { dP { S with left:=l } with here:=S.here } rfl rfl rfl rfl;exact ⟨n+1,S',o,.step e2 (.up (t:=t) ⟨⟨a,ha⟩,ht,hk,hg⟩ rfl (.gS ha ht (g.dB _) (by rw [ub,h0]; exact wP rfl))) r,p⟩
def aae {d:Wd} {P:Ws->Option Tl->Prop} (g:Gd d.M) (hL:d.L.length=d.M.ts.length) {S:Ws} {l:List (Sum Nat Str)} {t tf:Th} {f:Nat} {z:Str} (h0:S.here≠d.root) (ht:d.M.ts[S.here]?=some t) (hk:t.kd=("folder" : Str)) (hg:cI ("g" : Str) (dk t d.z)=true) (hp:t.cQ=[(f,z)]) (cY:d.M.ts[f]?=some tf) (e2:S.left=l++[.inr (".." : Str)])
  (kk:∀ S1:Ws,S1.here=f->S1.left=l->S1.place=S.place->S1.bo=S.bo->∃ n S' o,eS d n S1 S' o/\P S' o):∃ n S' o,eS d n S S' o/\P S' o:=by
 obtain ⟨a,ha⟩:=adr hL ht;obtain ⟨b,hb⟩:=adr hL cY;obtain ⟨n,S',o,r,p⟩:=kk { dP { S with left:=l } with here:=dz f [] } rfl rfl rfl rfl;exact ⟨n+1,S',o,.step e2 (.up (t:=t) ⟨⟨a,ha⟩,ht,hk,hg⟩ rfl (.up ha ht (g.dB _) (by rw [ub]; exact pc h0) ha ht hp hb cY (g.dB f))) r,p⟩
inductive Pass (d:Wd):Nat->List Str->Nat->Prop
 | nil {f}:Pass d f [] f
 | down {f ns k ps h}:Down d f ns k->Pass d k ps h->Pass d f (ns++ps) h
 | dot {f t ps h}:d.M.ts[f]?=some t->t.kd=("folder" : Str)->cI ("g" : Str) (dk t d.z)=true->Pass d f ps h->Pass d f (("." : Str)::ps) h
 | Zl {t ps h}:d.M.ts[d.root]?=some t->t.kd=("folder" : Str)->cI ("g" : Str) (dk t d.z)=true->Pass d d.root ps h->Pass d d.root ((".." : Str)::ps) h
 | up {k t tf f z ps h}:k≠d.root->d.M.ts[k]?=some t->t.kd=("folder" : Str)->cI ("g" : Str) (dk t d.z)=true->t.cQ=[(f,z)]->d.M.ts[f]?=some tf->Pass d f ps h->Pass d k ((".." : Str)::ps) h
def V7 {d:Wd} (g:Gd d.M) (hL:d.L.length=d.M.ts.length) {f h:Nat} {ps:List Str} (D:Pass d f ps h):∀ {S:Ws},S.here=f->S.left=cq ps->∃ n S' o,eS d n S S' o/\o=none/\S'.here=h:=by
 induction D with
 | nil=>exact fun e1 e2=>⟨0,_,none,.done (by rw [e2]; rfl),rfl,e1⟩
 | @down f ns k ps h D _ ih =>
  intro S e1 e2;exact aac (P:=fun S' o=>o=none/\S'.here=h) g hL D e1 (l:=cq ps) (by rw [e2]; simp [cq]) fun S1 a1 a2 _ _=>ih a1 a2
 | dot ht hk hg _ ih =>
  intro S e1 e2;subst e1;exact abK (P:=fun S' o=>o=none/\S'.here=_) hL ht hk hg (e2.trans jA) fun S1 a1 a2 _ _=>ih a1 a2
 | Zl ht hk hg _ ih =>
  intro S e1 e2;exact acv (P:=fun S' o=>o=none/\S'.here=_) g hL e1 (by rw [e1]; exact ht) hk hg (e2.trans jA) fun S1 a1 a2 _ _=>ih (a1.trans e1) a2
 | up dY ht hk hg hp cY _ ih =>
  intro S e1 e2;subst e1;exact aae (P:=fun S' o=>o=none/\S'.here=_) g hL dY ht hk hg hp cY (e2.trans jA) fun S1 a1 a2 _ _=>ih a1 a2
def W6 {M:Hs} {L:List Ta} {z:Str} {last fr:Bool} {ps:List Str} {h:Nat} {t0 t:Th} (g:Gd M) (hL:L.length=M.ts.length) (hn:M.ts.length<=90) (h9:aG (sD M.ro) (.inr z)=some (.int ((0:Nat):Int))) (aM:aG (sD M.st) (.inr z)=some (.int ((0:Nat):Int)))
  (jl:M.ts[0]?=some t0) (D:Pass ⟨L,M,z,last,0⟩ 0 ps h) (hl:ps.length<=2500) (ht:M.ts[h]?=some t) (hk:t.kd=("folder" : Str)) (hb:gr M 0 h):∃ e ns,ir ⟨L,M,z,last,0⟩ fr ps e/\e.res=.found h ns:=by
 obtain ⟨n,S',o,r,rfl,hh⟩:=V7 (d:=⟨L,M,z,last,0⟩) g hL D (S:=⟨0,none,0,[],cq ps,[],0,0⟩) rfl rfl;obtain ⟨a0,da⟩:=adr hL jl;have hB:sL ⟨L,M,z,last,0⟩ fr 0:=⟨h9,0,0,[],a0,t0,by cases fr with | true=>exact .inl ⟨rfl,rfl⟩ | false=>exact .inr ⟨rfl,aM⟩,da,jl,g.dB 0,⟨0,g.seen hL 0 0 t0 (sK _) jl .refl⟩,rfl⟩;obtain ⟨ns,cZ,nh⟩:=XX (d:=⟨L,M,z,last,0⟩) g hL hn (S:=S') ⟨t,by rw [hh]; exact ht,.inl ⟨hk,by rw [hh]; exact hb⟩⟩;exact ⟨_,_,.found hB hl r nh,by rw [hh]⟩
def HP {M:Hs} {L:List Ta} {z:Str} {q:List (List Nat)} {nm t:List Nat} {h:Nat} {t0 th:Th} (g:Gd M) (hL:L.length=M.ts.length) (hn:M.ts.length<=90) (h9:aG (sD M.ro) (.inr z)=some (.int ((0:Nat):Int))) (aM:aG (sD M.st) (.inr z)=some (.int ((0:Nat):Int)))
  (jl:M.ts[0]?=some t0) (D:Pass ⟨L,M,z,true,0⟩ 0 (q.map Tx.S++[("." : Str)]) h) (hq:told (Tx.words 47 t) t=q++[nm]) (bT:isNm nm=true) (hl:q.length<=900) (ht:M.ts[h]?=some th) (hk:th.kd=("folder" : Str)) (hb:gr M 0 h):jf ⟨L,M,z,true,0⟩ t (.inr (h,nm)):=by
 obtain ⟨e,ns,ge,he⟩:=W6 (fr:=fh t) g hL hn h9 aM jl D (by simp; omega) ht hk hb;exact .jQ (.eQ hq bT) hl ge he
def cO:List Nat:=[111,112,101,110]
def cK:List Nat:=[107,101,112,116]
def cS:List Nat:=[115,104,117,116]
def cG:List Nat:=[103,111,110,101]
def cF:List Nat:=[102,105,108,101]
def fz:List (List Nat):=[[97],[97,98],[98],[98,97],[110,101,119,110,97,109,101],[122]]
structure Sm where
 t:List Nat
 q:List (List Nat)
 nm:List Nat
def gJ (nm:List Nat):List Sm:=[⟨47::cO++47::nm,[cO],nm⟩,⟨cO++47::47::nm,[cO],nm⟩,⟨47::cO++47::46::47::nm,[cO,[46]],nm⟩,⟨47::cK++47::46::46::47::cO++47::nm,[cK,[46,46],cO],nm⟩]
def jT:List Sm:=[⟨47::cO++47::cF,[cO],cF⟩,⟨cO++47::46::46::47::cO++47::cF,[cO,[46,46],cO],cF⟩,⟨47::47::cO++47::cF,[cO],cF⟩]
def gT (nm:List Nat):List Sm:=[⟨47::cK++47::nm,[cK],nm⟩,⟨cK++47::46::47::nm,[cK,[46]],nm⟩,⟨47::nm,[],nm⟩,⟨47::cK++47::cF,[cK],cF⟩]
def gp (nm:List Nat):List Sm:=[⟨47::cG++47::nm,[cG],nm⟩,⟨47::cS++47::nm,[cS],nm⟩,⟨cO++47::cF++47::nm,[cO,cF],nm⟩,⟨47::cS++47::cF++47::nm,[cS,cF],nm⟩,⟨cG++47::cG++[47,120],[cG,cG],[120]⟩]
def pV:List (List Nat):=[[47],[47,111,112,101,110,47],[46,46],[47,111,112,101,110,47,46,46],[47,103,111,110,101,47,46],[115,104,117,116,47,97,47,46,46],[47,47],[46,47]]
structure wX (x:Sm):Prop where
 w:told (Tx.words 47 x.t) x.t=x.q++[x.nm]
 n:isNm x.nm=true
 l:x.q.length<=4
 p:dj x.t
 c:(Tx.cut 47 x.t).getLast?=some x.nm
def Bl (x:Sm):Bool:=decide (told (Tx.words 47 x.t) x.t=x.q++[x.nm]) && isNm x.nm && decide (x.q.length<=4) && (decide (1<=x.t.length) && decide (x.t.length<=100) && (Tx.words 47 x.t).all dD) && decide ((Tx.cut 47 x.t).getLast?=some x.nm)
def UB {x:Sm} (h:Bl x=true):wX x:=by
 unfold Bl at h;simp only [zn,Os] at h;obtain ⟨⟨⟨⟨h1,h2⟩,h3⟩,⟨h4,h5⟩,h6⟩,h7⟩:=h;exact ⟨h1,h2,h3,⟨h4,by omega,h6⟩,h7⟩
def xC {x:Sm} {nm:List Nat} (hn:nm∈fz) (h:x∈gJ nm++jT++gT nm++gp nm):wX x:=by
 have H:(fz.all fun nm=>(gJ nm++jT++gT nm++gp nm).all Bl)=true:=by symm
 exact UB (At.mp (At.mp H nm hn) x h)
def Pw {t:List Nat} (h:t∈pV):dj t/\jJ (told (Tx.words 47 t) t) none:=by
 have H:(pV.all fun t=>decide (1<=t.length) && decide (t.length<=100) && (Tx.words 47 t).all dD && (decide (told (Tx.words 47 t) t=[]) || (decide (told (Tx.words 47 t) t=(told (Tx.words 47 t) t).dropLast++[(told (Tx.words 47 t) t).getLast?.getD []]) && !isNm ((told (Tx.words 47 t) t).getLast?.getD []) && decide (((told (Tx.words 47 t) t).getLast?.getD []).length<=8))))=true:=by symm
 have:=At.mp H t h;simp only [zn,Bool.or_eq_true,Os,_Q] at this;obtain ⟨⟨⟨h1,h2⟩,h3⟩,h4⟩:=this;refine ⟨⟨h1,by omega,h3⟩,?_⟩;rcases h4 with h4 | ⟨⟨h4,h5⟩,h6⟩
 ·exact .nil h4
 ·exact .fD h4 h5 h6
inductive ly (g:Str->Bool) (t:List Nat):Prop
 | fD:g "dots" = true->t∈pV->ly g t
 | way {nm x}:g "dots" = false->g "way" = true->nm∈fz->x∈gp nm->x.t=t->ly g t
 | kept {nm x}:g "dots" = false->g "way" = false->g "kept" = true->nm∈fz->x∈gT nm->x.t=t->ly g t
 | there {x}:g "dots" = false->g "way" = false->g "kept" = false->g "there" = true->x∈jT->x.t=t->ly g t
 | ID {nm x}:g "dots" = false->g "way" = false->g "kept" = false->g "there" = false->nm∈fz->x∈gJ nm->x.t=t->ly g t
def FW:List Str:=["asker","path","lead","rights","text","dots","way","kept","there"]
def jd (g:Str->Bool) (L:List Str):List (Key×V):=L.map fun z=>(.inr z,.bl (g z))
def LK {g:Str->Bool}:∀ {L:List Str} {z:Str},z∈L->aG (jd g L) (.inr z)=some (.bl (g z))
 | [],_,h=>by cases h
 | y::r,z,h=>by
  unfold jd aG;rw [Ch];by_cases e:y=z
  ·subst e;rw [List.find?_cons_of_pos (by simp)];rfl
  ·rw [List.find?_cons_of_neg (by simp [e])];rcases mo.mp h with rfl | h
   ·exact absurd rfl e
   ·have ih:=LK (g:=g) h;unfold jd aG at ih;exact ih
def eh {H:Hp} {d:Addr} {g:Str->Bool} {z:Str} (e:H d=some (.dK (jd g FW))) (hz:FW.contains z=true):eF H d (.str z) (some (.bl (g z))):=.inl ⟨_,.inr z,.inl e,rfl,(LK (List.elem_iff.mp hz)).symm⟩
def OR:Sp:=pT fun st l H Q _=>X1 fun xs=>A6 (H l=some (.lst xs)) (l≠st) (Dr st H) (0 < xs.length) (xs.length<=1000) (∀ v H',v∈xs->Dr st H'->cJ st H H'->Q v H')
def qr:T.eD.k P w base 3 OR:=by
 refine T.eD.F.ok aah (fun _ _ _ _ h=>jS h fun _ _ _=>rfl) fun ao A outer s H vs Q E hr h=>jS h fun st l h=>?_;obtain ⟨xs,hl,nl,aM,h0,h1,q⟩:=h;refine bJ (b:=bb zV) ((ai (aK (ci (bD (K:=K) rfl) (ac 1) (bi (nQ T) hr.m T.dR.m T.dR.F.kp T.dR.b .nil az (aa (ac 0) (aa (bL (g9 (K:=K) rfl) T.g7 LT (aa (ac 1) ae)) ae))))))) ?_;refine stI [some (V.ref st),some (V.ref l)] ?_;left;simp only [bj,hl];refine tF aM (by omega) (by omega) fun d H2 d0 d1 h2 k2=>?_;obtain ⟨v,hv,e⟩:=pick (xs:=xs) d0 d1;simp only [k2 _ _ nl hl,e];exact q v H2 hv h2 k2
def jM {H:Hp} {z:Str} (h:(decide (1<=z.length) && decide (z.length<=1000) && !(Tx.words 47 z.cps.toList).all dD)=true):fQ H (.str z):=by
 simp only [zn,Os,_Q] at h;exact .inr (.inr ⟨h.1.1,h.1.2,h.2⟩)
def Bu (R:Hp->V->Prop):Sp:=ja fun st H Q _=>Dr st H/\∀ v H',R H' v->Dr st H'->cJ st H H'->Q v H'
def aaL:T.qC.k P w base 4 (Bu fQ):=by
 refine T.qC.F.ok Ib (fun _ _ _ _ h=>dv h fun _ _=>rfl) fun ao A outer s H vs Q E hr h=>dv h fun st h=>?_;obtain ⟨aM,q⟩:=h;refine bJ (b:=bb CQ) ((ad (aP 1 Ib.nd (cr (aa al (aa aw (aa am (aa al (aa al (aa al (aa al (aa al (aa (bv jX al am) (aa f8 (aa (cr (aa al ae)) (aa al (aa al (aa al (aa al ae)))))))))))))))))
 (ai (aK (bi (qr T) hr.m T.eD.m T.eD.F.kp T.eD.b .nil az (aa (ac 0) (aa (ac 1) ae))))))) ?_
 refine stI [some (V.ref st),none] ?_;right;refine ⟨by rw [show Str.ofString "/" = Tx.S [47] by symm]; exact Tx.pF [47] 2001 (by decide) (by decide),fits (by simp),fun p hp=>⟨fits (by simp),fun l hl=>?_⟩⟩;have s1:=ag.upd (o:=.lst [V.str "a"]) hp;have b1:upd H p (.lst [V.str "a"]) p=some (.lst [V.str "a"]):=au;have d1:=aM.same s1;have np:=aM.ne hp;generalize upd H p (.lst [V.str "a"])=H1 at s1 b1 d1 hl ⊢;refine ⟨_,au,d1.ne hl,d1.same (ag.upd hl),by simp,by simp,fun v H' hv d' k'=>q v H' ?_ d' (((s1.trans (ag.upd hl)).keep st).trans k')⟩;have bp:=k' _ _ np ((ag.upd hl) _ _ b1);simp only [mo,nn,xz] at hv;rcases hv with rfl | rfl | rfl | rfl | rfl | rfl | rfl | rfl | rfl | rfl | rfl | rfl | rfl | rfl | rfl
 ·exact .inl (by symm)
 ·exact ⟨_,rfl⟩
 ·exact ⟨_,rfl⟩
 ·exact jM (by symm)
 ·exact jM (by symm)
 ·exact jM (by symm)
 ·exact jM (by symm)
 ·exact jM (by symm)
 ·exact abE (by symm) (by symm)
 ·exact ⟨_,rfl⟩
 ·exact ⟨_,qA bp⟩
 ·exact jM (by symm)
 ·exact jM (by symm)
 ·exact jM (by symm)
 ·exact jM (by symm)
def zA {H:Hp} {z:Str} (h:(decide (1<=z.length) && decide (z.length<=1000) && !(Tx.words 47 z.cps.toList).all dD)=true):la H (.str z):=.inl (jM h)
def Ha {H:Hp} {z:Str} (h:(decide (120 < z.length) && decide (z.length<=1000) && (Tx.words 47 z.cps.toList).all dD)=true):la H (.str z):=by
 simp only [zn,Os] at h;have hl:z.cps.toList.length=z.length:=by
  have:=Tx.cC z.cps.toList;rw [Tx.wB] at this;exact this.symm
 exact .inr ⟨z.cps.toList,by rw [Tx.wB],⟨by omega,by omega,h.2⟩,by omega,by omega⟩
def Ov:T.qp.k P w base 4 (Bu la):=by
 refine T.qp.F.ok Xc (fun _ _ _ _ h=>dv h fun _ _=>rfl) fun ao A outer s H vs Q E hr h=>dv h fun st h=>?_;obtain ⟨aM,q⟩:=h;refine bJ (b:=bb C4) ((ai (aK (bi (qr T) hr.m T.eD.m T.eD.F.kp T.eD.b .nil az (aa (ac 0) (aa (cr (aa al (aa aw (aa (bv cW al al) (aa (bv jX al am) (aa (bv cW (bv jX al am) al) (aa am (aa al (aa al (aa (em (aa al ae)) ae)))))))))) ae)))))) ?_;refine stI [some (V.ref st)] ?_;left;refine ⟨by symm,by rw [show Str.ofString "/a" = Tx.S [47,97] by symm]; exact Tx.pF [47,97] 61 (by decide) (by decide),by rw [show Str.ofString "x/" = Tx.S [120,47] by symm]; exact Tx.pF [120,47] 60 (by decide) (by decide),by symm,fits (by simp),fun p hp=>⟨fits (by simp),fun l hl=>?_⟩⟩;have s1:=ag.upd (o:=.tup [V.str "a"]) hp;have b1:upd H p (.tup [V.str "a"]) p=some (.tup [V.str "a"]):=au;have d1:=aM.same s1;have np:=aM.ne hp;generalize upd H p (.tup [V.str "a"])=H1 at s1 b1 d1 hl ⊢;refine ⟨_,au,d1.ne hl,d1.same (ag.upd hl),by simp,by simp,fun v H' hv d' k'=>q v H' ?_ d' (((s1.trans (ag.upd hl)).keep st).trans k')⟩;have bp:=k' _ _ np ((ag.upd hl) _ _ b1);simp only [mo,nn,xz] at hv;rcases hv with rfl | rfl | rfl | rfl | rfl | rfl | rfl | rfl | rfl
 ·exact .inl (.inl (by symm))
 ·exact .inl ⟨_,rfl⟩
 ·exact zA (by symm)
 ·exact Ha (by symm)
 ·exact Ha (by symm)
 ·exact .inl ⟨_,rfl⟩
 ·exact zA (by symm)
 ·exact zA (by symm)
 ·exact .inl ⟨"tuple",by unfold clsName; dsimp only; rw [bp]⟩
def VG (H:Hp) (v:V):Prop:=(∃ ty,clsName H v=some ty)/\qd v=false
def Gi:T.lD.k P w base 4 (Bu VG):=by
 refine T.lD.F.ok Qo (fun _ _ _ _ h=>dv h fun _ _=>rfl) fun ao A outer s H vs Q E hr h=>dv h fun st h=>?_;obtain ⟨aM,q⟩:=h;refine bJ (b:=bb BM) ((ai (aK (bi (qr T) hr.m T.eD.m T.eD.F.kp T.eD.b .nil az (aa (ac 0) (aa (cr (aa al (aa al (aa aw (aa al (aa al (aa am (aa al (aa al (aa f8 (aa (cr (aa al ae)) (aa al ae)))))))))))) ae)))))) ?_;refine stI [some (V.ref st)] ?_;left;refine ⟨fits (by simp),fun p hp=>⟨fits (by simp),fun l hl=>?_⟩⟩;have s1:=ag.upd (o:=.lst [V.str "l"]) hp;have b1:upd H p (.lst [V.str "l"]) p=some (.lst [V.str "l"]):=au;have d1:=aM.same s1;have np:=aM.ne hp;generalize upd H p (.lst [V.str "l"])=H1 at s1 b1 d1 hl ⊢;refine ⟨_,au,d1.ne hl,d1.same (ag.upd hl),by simp,by simp,fun v H' hv d' k'=>q v H' ?_ d' (((s1.trans (ag.upd hl)).keep st).trans k')⟩;have bp:=k' _ _ np ((ag.upd hl) _ _ b1);simp only [mo,nn,xz] at hv;rcases hv with rfl | rfl | rfl | rfl | rfl | rfl | rfl | rfl | rfl | rfl | rfl
 all_goals first | exact ⟨⟨_,rfl⟩,by symm⟩ | exact ⟨⟨_,qA bp⟩,rfl⟩
def tV (xs:List (List Nat)):List V:=xs.map fun t=>V.str (Tx.S t)
def UN {nm:List Nat} (h:nm∈fz):[V.str (Str.ofString "/open/" ++ Tx.S nm),V.str (Str.ofString "open//" ++ Tx.S nm),V.str (Str.ofString "/open/./" ++ Tx.S nm),V.str (Str.ofString "/kept/../open/" ++ Tx.S nm)]=tV ((gJ nm).map (·.t)):=by
 have H:(fz.all fun nm=>decide ([V.str (Str.ofString "/open/" ++ Tx.S nm),V.str (Str.ofString "open//" ++ Tx.S nm),V.str (Str.ofString "/open/./" ++ Tx.S nm),V.str (Str.ofString "/kept/../open/" ++ Tx.S nm)]=tV ((gJ nm).map (·.t))))=true:=by symm
 exact LE (At.mp H nm h)
def Yu:[V.str "/open/file",V.str "open/../open/file",V.str "//open/file"]=tV (jT.map (·.t)):=by symm
def UE {nm:List Nat} (h:nm∈fz):[V.str (Str.ofString "/kept/" ++ Tx.S nm),V.str (Str.ofString "kept/./" ++ Tx.S nm),V.str (Str.ofString "/" ++ Tx.S nm),V.str "/kept/file"]=tV ((gT nm).map (·.t)):=by
 have H:(fz.all fun nm=>decide ([V.str (Str.ofString "/kept/" ++ Tx.S nm),V.str (Str.ofString "kept/./" ++ Tx.S nm),V.str (Str.ofString "/" ++ Tx.S nm),V.str "/kept/file"]=tV ((gT nm).map (·.t))))=true:=by symm
 exact LE (At.mp H nm h)
def P5 {nm:List Nat} (h:nm∈fz):[V.str (Str.ofString "/gone/" ++ Tx.S nm),V.str (Str.ofString "/shut/" ++ Tx.S nm),V.str (Str.ofString "open/file/" ++ Tx.S nm),V.str (Str.ofString "/shut/file/" ++ Tx.S nm),V.str "gone/gone/x"]=tV ((gp nm).map (·.t)):=by
 have H:(fz.all fun nm=>decide ([V.str (Str.ofString "/gone/" ++ Tx.S nm),V.str (Str.ofString "/shut/" ++ Tx.S nm),V.str (Str.ofString "open/file/" ++ Tx.S nm),V.str (Str.ofString "/shut/file/" ++ Tx.S nm),V.str "gone/gone/x"]=tV ((gp nm).map (·.t))))=true:=by symm
 exact LE (At.mp H nm h)
def Rm:[V.str "/",V.str "/open/",V.str "..",V.str "/open/..",V.str "/gone/.",V.str "shut/a/..",V.str "//",V.str "./"]=tV pV:=by symm
def qQ (g:Str->Bool) (nm:List Nat):List (List Nat):=if g "there" = true then jT.map (·.t) else (gJ nm).map (·.t)
def qy (g:Str->Bool) (nm:List Nat):List (List Nat):=if g "kept" = true then (gT nm).map (·.t) else qQ g nm
def pY (g:Str->Bool) (nm:List Nat):List (List Nat):=if g "way" = true then (gp nm).map (·.t) else qy g nm
def iz (g:Str->Bool) (nm:List Nat):List (List Nat):=if g "dots" = true then pV else pY g nm
def Yo {g:Str->Bool} {nm t:List Nat} (hn:nm∈fz) (h:t∈iz g nm):ly g t:=by
 unfold iz pY qy qQ at h;split at h
 ·rename_i h1; exact .fD h1 h
 rename_i h1;split at h
 ·rename_i h2;obtain ⟨x,hx,e⟩:=EQ.mp h;exact .way (by simpa using h1) h2 hn hx e
 rename_i h2;split at h
 ·rename_i h3;obtain ⟨x,hx,e⟩:=EQ.mp h;exact .kept (by simpa using h1) (by simpa using h2) h3 hn hx e
 rename_i h3;split at h
 ·rename_i h4;obtain ⟨x,hx,e⟩:=EQ.mp h;exact .there (by simpa using h1) (by simpa using h2) (by simpa using h3) h4 hx e
 ·rename_i h4;obtain ⟨x,hx,e⟩:=EQ.mp h;exact .ID (by simpa using h1) (by simpa using h2) (by simpa using h3) (by simpa using h4) hn hx e
def Ki {g:Str->Bool} {nm:List Nat}:0 < (iz g nm).length/\(iz g nm).length<=8:=by
 unfold iz pY qy qQ;split
 ·decide
 split
 ·exact ⟨by simp [gp],by simp [gp]⟩
 split
 ·exact ⟨by simp [gT],by simp [gT]⟩
 split
 ·decide
 ·exact ⟨by simp [gJ],by simp [gJ]⟩
def PY:Sp:=pT fun st fl H Q _=>X1 fun g=>A3 (Dr st H) (H fl=some (.dK (jd g FW))) (∀ t H',ly g t->Dr st H'->cJ st H H'->Q (.str (Tx.S t)) H')
def Q7:T.qK.k P w base 3 PY:=by
 refine T.qK.F.ok oP (fun _ _ _ _ h=>jS h fun _ _ _=>rfl) fun ao A outer s H vs Q E hr h=>jS h fun st fl h=>?_;obtain ⟨g,aM,aY,q⟩:=h;refine bJ (b:=bb yS) ((ad (aP 2 oP.nd (ci (bD (K:=K) rfl) (cr (aa al (aa al (aa al (aa al (aa al (aa al ae))))))) (bi (nQ T) hr.m T.dR.m T.dR.F.kp T.dR.b .nil az (aa (ac 0) (aa am ae)))))
 (ad (aP 3 oP.nd (cr (aa (bv cW al (ac 2)) (aa (bv cW al (ac 2)) (aa (bv cW al (ac 2)) (aa (bv cW al (ac 2)) ae))))))
 (ad (aX (bO (fH (dh hr) (ac 1) al)) (ai (aP 3 oP.nd (cr (aa al (aa al (aa al ae)))))) bn)
 (ad (aX (bO (fH (dh hr) (ac 1) al)) (ai (aP 3 oP.nd (cr (aa (bv cW al (ac 2)) (aa (bv cW al (ac 2)) (aa (bv cW al (ac 2)) (aa al ae))))))) bn)
 (ad (aX (bO (fH (dh hr) (ac 1) al)) (ai (aP 3 oP.nd (cr (aa (bv cW al (ac 2)) (aa (bv cW al (ac 2)) (aa (bv cW al (ac 2)) (aa (bv cW al (ac 2)) (aa al ae)))))))) bn)
 (ad (aX (bO (fH (dh hr) (ac 1) al)) (ai (aP 3 oP.nd (cr (aa al (aa al (aa al (aa al (aa al (aa al (aa al (aa al ae))))))))))) bn)
 (ai (aK (ci (bD (K:=K) rfl) (ac 3) (bi (nQ T) hr.m T.dR.m T.dR.F.kp T.dR.b .nil az (aa (ac 0) (aa (bL (g9 (K:=K) rfl) T.g7 LT (aa (ac 3) ae)) ae))))))))))))) ?_
 refine stI [some (V.ref st),some (V.ref fl),none,none] ?_;right;refine zT aM rfl (by simp) (by simp) fun v H1 hv d1 k1=>?_;have nf:fl≠st:=fun z=>by obtain ⟨_,_,_,d⟩:=aM; rw [z,d] at aY; cases aY
 have f1:=k1 _ _ nf aY;obtain ⟨nm,bT,rfl⟩:∃ nm,nm∈fz/\v=V.str (Tx.S nm):=by
  simp only [mo,nn,xz] at hv;rcases hv with rfl | rfl | rfl | rfl | rfl | rfl
  ·exact ⟨[97],by decide,by symm⟩
  ·exact ⟨[97,98],by decide,by symm⟩
  ·exact ⟨[98],by decide,by symm⟩
  ·exact ⟨[98,97],by decide,by symm⟩
  ·exact ⟨[110,101,119,110,97,109,101],by decide,by symm⟩
  ·exact ⟨[122],by decide,by symm⟩
 have uY:nm.length<=8:=by
  have H:(fz.all fun nm=>decide (nm.length<=8))=true:=by decide
  exact LE (At.mp H nm bT)
 have bd:∀ z:Str,z.length<=20->z.length+(Tx.S nm).length<=sizeLine:=fun z hz=>by rw [Tx.cC]; exact fits (by omega)
 clear hv;refine ck (fun σ' H'=>∃ p,σ'=[some (V.ref st),some (V.ref fl),some (V.str (Tx.S nm)),some (V.ref p)]/\H' p=some (.lst (tV ((gJ nm).map (·.t))))/\ag H1 H') ?_ ?_
 ·left;refine ⟨bd _ (by symm),bd _ (by symm),bd _ (by symm),bd _ (by symm),fits (by simp),fun p hp=>⟨p,by trivial,?_,ag.upd hp⟩⟩;rw [au,UN bT]
 rintro σ' H2 ⟨p,rfl,hp,s2⟩;refine ck (fun σ' H'=>∃ p,σ'=[some (V.ref st),some (V.ref fl),some (V.str (Tx.S nm)),some (V.ref p)]/\H' p=some (.lst (tV (qQ g nm)))/\ag H1 H') ?_ ?_
 ·left;refine ⟨fl,_,rfl,eh (s2 _ _ f1) (by symm),?_⟩;cases hg:g "there" with
  | false =>
   refine aQ ⟨p,rfl,?_,s2⟩;rw [hp]; unfold qQ; rw [hg]; rfl
  | true =>
   refine aV ⟨fits (by simp),fun p2 cg=>⟨p2,by trivial,?_,s2.trans (ag.upd cg)⟩⟩;rw [au,Yu]; unfold qQ; rw [hg]; rfl
 rintro σ' H2 ⟨p,rfl,hp,s2⟩;refine ck (fun σ' H'=>∃ p,σ'=[some (V.ref st),some (V.ref fl),some (V.str (Tx.S nm)),some (V.ref p)]/\H' p=some (.lst (tV (qy g nm)))/\ag H1 H') ?_ ?_
 ·left;refine ⟨fl,_,rfl,eh (s2 _ _ f1) (by symm),?_⟩;cases hg:g "kept" with
  | false =>
   refine aQ ⟨p,rfl,?_,s2⟩;rw [hp]; unfold qy; rw [hg]; rfl
  | true =>
   refine aV ⟨bd _ (by symm),bd _ (by symm),bd _ (by symm),fits (by simp),fun p2 cg=>⟨p2,by trivial,?_,s2.trans (ag.upd cg)⟩⟩;rw [au,UE bT]; unfold qy; rw [hg]; rfl
 rintro σ' H2 ⟨p,rfl,hp,s2⟩;refine ck (fun σ' H'=>∃ p,σ'=[some (V.ref st),some (V.ref fl),some (V.str (Tx.S nm)),some (V.ref p)]/\H' p=some (.lst (tV (pY g nm)))/\ag H1 H') ?_ ?_
 ·left;refine ⟨fl,_,rfl,eh (s2 _ _ f1) (by symm),?_⟩;cases hg:g "way" with
  | false =>
   refine aQ ⟨p,rfl,?_,s2⟩;rw [hp]; unfold pY; rw [hg]; rfl
  | true =>
   refine aV ⟨bd _ (by symm),bd _ (by symm),bd _ (by symm),bd _ (by symm),fits (by simp),fun p2 cg=>⟨p2,by trivial,?_,s2.trans (ag.upd cg)⟩⟩;rw [au,P5 bT]; unfold pY; rw [hg]; rfl
 rintro σ' H2 ⟨p,rfl,hp,s2⟩;refine ck (fun σ' H'=>∃ p,σ'=[some (V.ref st),some (V.ref fl),some (V.str (Tx.S nm)),some (V.ref p)]/\H' p=some (.lst (tV (iz g nm)))/\ag H1 H') ?_ ?_
 ·left;refine ⟨fl,_,rfl,eh (s2 _ _ f1) (by symm),?_⟩;cases hg:g "dots" with
  | false =>
   refine aQ ⟨p,rfl,?_,s2⟩;rw [hp]; unfold iz; rw [hg]; rfl
  | true =>
   refine aV ⟨fits (by simp),fun p2 cg=>⟨p2,by trivial,?_,s2.trans (ag.upd cg)⟩⟩;rw [au,Rm]; unfold iz; rw [hg]; rfl
 rintro σ' H2 ⟨p,rfl,hp,s2⟩;left;simp only [bj,hp];have d2:=d1.same s2;have np:p≠st:=fun z=>by
  obtain ⟨x,y,w',d⟩:=d2;rw [z,d] at hp;have:=Go hp;injection this with this;have:=Ps List.head? this;have hl:=(Ki (g:=g) (nm:=nm)).1;cases hm:iz g nm with
  | nil=>rw [hm] at hl; cases hl
  | cons a r=>rw [hm] at this; cases this
 have ml:=Ki (g:=g) (nm:=nm);have el:(tV (iz g nm)).length=(iz g nm).length:=pp _;refine tF d2 (by rw [el]; omega) (by rw [el]; omega) fun d H3 e0 e1 d3 k3=>?_;obtain ⟨v,hv,e⟩:=pick (xs:=tV (iz g nm)) e0 e1;simp only [k3 _ _ np hp,e];obtain ⟨t,ht,rfl⟩:=EQ.mp hv;exact q t H3 (Yo bT ht) d3 ((k1.trans (s2.keep st)).trans k3)
def gg (h:List Nat):Nat×Str:=if h=cG then (1,"none") else if h=cS then (2,"shut") else (3,"flat")
def RE:Sp:=jL fun z H Q _=>X3 fun t h r=>A4 (z=Tx.S t) (t.length<=100) (Tx.words 47 t=h::r) (∀ p H',ag H H'->H' p=some (.tup [.str "failed",.int ((gg h).1:Int),.str (gg h).2])->Q (.ref p) H')
def VW:T.rj.k P w base 1 RE:=by
 refine T.rj.F.ok Ga (fun _ _ _ _ h=>fq h fun _ _=>rfl) fun ao A outer s H vs Q E hr h=>fq h fun z h=>?_;obtain ⟨t,hd,r,rfl,tl,hw,q⟩:=h;refine bJ (b:=bb Az) ((ad (AH 1 rfl Ga.nd (x:=("_law_part" : Str)) (jV (K:=K) rfl (kF _q _r vN (ac 0) (aa al ae))) (fun _ _ _ _=>by exact (wj (bB iG (ac 0) al))) (fun _ _ _ _=>by exact (gq 0 (show List.Nodup (["_law_part"]:List Str) by decide))) (fun _ _ _ _=>by exact (ac 0)) (.of rfl (by exact trivial) (by walk_at "c") rfl (by exact trivial)))
 (ad (aX (bB eZ (ci (bD (K:=K) rfl) (ac 1) am) al) (ai (aK (em (aa al (aa am (aa al ae)))))) bn)
 (ad (aX (bB eZ (ci (bD (K:=K) rfl) (ac 1) am) al) (ai (aK (em (aa al (aa am (aa al ae)))))) bn)
 (ai (aK (em (aa al (aa am (aa al ae)))))))))) ?_
 refine stI [some (V.str (Tx.S t)),none] ?_;have lY:Str.ofString "/" = Tx.S [47]:=by symm
 have e0:Str.ofString "" = Tx.S []:=by symm
 have ib:=Tx.sW 47 t;right;simp only [lY,e0];refine ⟨rfl,by rw [Tx.cC]; exact fits (by omega),?_,?_⟩
 ·rw [Tx.rf,Tx.ji,Tx.qe,Tx.md,pp];exact fits (by omega)
 intro l hl;rw [Tx.uz t 47 (by decide)];refine eY hl fun H1 s1 b1=>?_;refine ⟨⟨_,aD.of b1⟩,uS nz id (aD.of b1) (by rw [pp,pp]; exact fits (by omega)) ?_ ?_ ?_⟩
 ·intro x hx H2 _ R hR;obtain ⟨z,_,rfl⟩:=EQ.mp hx;left;exact hR H2 (ag.refl H2)
 ·intro x hx _ H2 _ R hR;left;exact hR H2 (ag.refl H2)
 intro H2 s2 l2 cf;rw [B0,hw];have mX:=(s1.trans s2).trans (ag.upd (o:=.lst (PV (hd::r))) cf);have b3:upd H2 l2 (.lst (PV (hd::r))) l2=some (.lst (PV (hd::r))):=au;generalize upd H2 l2 (.lst (PV (hd::r)))=H3 at mX b3 ⊢;clear s1 s2 b1 hl cf ib;have rp:dI (PV (hd::r)) 0=some (V.str (Tx.S hd)):=e8 _ _;have eq:∀ {z:Str} {c:List Nat},z=Tx.S c->decide (Tx.S hd=z)=decide (hd=c):=fun {z c} e=>by
  rw [e];by_cases h:hd=c
  ·rw [h]; simp
  ·rw [pc h,pc (fun e=>h (by have:=Ps (fun z:Str=>z.cps.toList) e; simpa [Tx.iS] using this))]
 right;simp only [bj,b3,rp];rw [eq (show Str.ofString "gone" = Tx.S cG by symm)];refine qo (fun hg=>?_) (fun hg=>ah ?_)
 ·refine ⟨fits (by simp),fun p hp=>q p _ (mX.trans (ag.upd hp)) ?_⟩;unfold gg;rw [AC (LE hg),au];rfl
 left;simp only [bj,b3,rp];rw [eq (show Str.ofString "shut" = Tx.S cS by symm)];have hg':¬ hd=cG:=fun e=>hg (wP e);refine qo (fun hs=>?_) (fun hs=>?_)
 ·refine ⟨fits (by simp),fun p hp=>q p _ (mX.trans (ag.upd hp)) ?_⟩;unfold gg;rw [xL hg',AC (LE hs),au];rfl
 ·refine ⟨fits (by simp),fun p hp=>q p _ (mX.trans (ag.upd hp)) ?_⟩;unfold gg;rw [xL hg',xL (fun e=>hs (wP e)),au];rfl
inductive An where
 | w (s:Str)
 | cP (y:Str)
 | way (k:Nat) (y:Str)
 | told (n:Nat)
def fj (H:Hp) (p:Addr):An->Prop
 | .w s=>H p=some (.tup [.str s,.aw])
 | .cP y=>H p=some (.tup [.str "deed",.str y])
 | .way k y=>∃ q,H p=some (.tup [.str "way",.ref q])/\H q=some (.tup [.str "failed",.int (k:Int),.str y])
 | .told n=>H p=some (.tup [.str "told",.int (n:Int)])
def fj.same {H H':Hp} {p:Addr} {a:An} (h:fj H p a) (s:ag H H'):fj H' p a:=by
 cases a with
 | w=>exact s _ _ h
 | cP=>exact s _ _ h
 | way=>obtain ⟨q,a,b⟩:=h; exact ⟨q,s _ _ a,s _ _ b⟩
 | told=>exact s _ _ h
def GW {H:Hp} {x:V} (h:dq x=true):∀ n,DE K H n x x:=by
 have e:fV x x=true:=by
  cases x <;> first | rfl | (simp [fV]; done) | exact absurd (show false=true from h) wf
 intro n;cases n with
 | zero=>exact ⟨h,h,e⟩
 | succ n=>exact .inl ⟨h,h,e⟩
def tN {H:Hp} {xs:List V} {n:Nat} (h:xs.all dq=true):∀ i (h1:i < xs.length) (h2:i < xs.length),DE K H n xs[i] xs[i]:=fun i h1 _=>GW (At.mp h _ (_W h1)) n
def fj.de {H:Hp} {p p':Addr} {a:An} (h:fj H p a) (h':fj H p' a):∃ c b xs ys,V.ref p=.ref c/\V.ref p'=.ref b/\(aD K H c xs/\aD K H b ys\/bE K H c xs/\bE K H b ys)/\xs.length=ys.length/\(∀ i (h1:i < xs.length) (h2:i < ys.length),DE K H 4 xs[i] ys[i]):=by
 cases a with
 | w=>exact ⟨p,p',_,_,rfl,rfl,.inr ⟨bE.of h,bE.of h'⟩,rfl,tN rfl⟩
 | cP=>exact ⟨p,p',_,_,rfl,rfl,.inr ⟨bE.of h,bE.of h'⟩,rfl,tN rfl⟩
 | told=>exact ⟨p,p',_,_,rfl,rfl,.inr ⟨bE.of h,bE.of h'⟩,rfl,tN rfl⟩
 | way k y =>
  obtain ⟨q,a1,a2⟩:=h;obtain ⟨q',b1,b2⟩:=h';refine ⟨p,p',_,_,rfl,rfl,.inr ⟨bE.of a1,bE.of b1⟩,rfl,fun i h1 h2=>?_⟩
  match i,h1 with
  | 0,_=>exact GW rfl 4
  | 1,_=>exact .inr ⟨q,q',_,_,rfl,rfl,.inr ⟨bE.of a2,bE.of b2⟩,rfl,tN rfl⟩
def aba:gi K T.bY:=⟨T.OK,T.Yz,T.YB,T.RD,T.Ow,T.QX,T.ZZ⟩
def Yc:gi K T.bZ:=⟨T.abt,T.Vn,T.XB,T.acs,T.Ti,T.ZC,T.Tq⟩
def Sb:gi K T.cb:=⟨T.Ux,T.Ze,T.abC,T.U0,T.Oc,T.OA,T.O3⟩
def S6:gi K T.cE:=⟨T.Pp,T.aay,T.aat,T.OT,T.aaj,T.aaX,T.YV⟩
def FY:gi K T.cu:=⟨T.Wg,T.Xz,T.WR,T.Y8,T.ZP,T.Zp,T.Yv⟩
def KR:gi K T.cw:=⟨T.Wf,T.Rz,T.abj,T.YX,T.PJ,T.Z4,T.Xx⟩
structure mz (T:Tx K mg) (C:Addr) (j:Nat):Prop where
 z:gi K C
 l:PySem.W.subIn K (.ref C) (.ref T.kg)=some true
 v:PySem.W.kitOne K (.ref C) (.type "ValueError")=some true
 k0:PySem.W.kitOne K (.ref C) (.ref T.bY)=some (j == 0)
 k1:PySem.W.kitOne K (.ref C) (.ref T.bZ)=some (j == 1)
 k2:PySem.W.kitOne K (.ref C) (.ref T.lK)=some (j == 2)
 k3:PySem.W.kitOne K (.ref C) (.ref T.cb)=some (j == 3)
 k4:PySem.W.kitOne K (.ref C) (.ref T.cE)=some (j == 4)
 k5:PySem.W.kitOne K (.ref C) (.ref T.lZ)=some (j == 5)
 k6:PySem.W.kitOne K (.ref C) (.ref T.gR)=some (j == 6)
 k7:PySem.W.kitOne K (.ref C) (.ref T.lP)=some (j == 7)
 k8:PySem.W.kitOne K (.ref C) (.ref T.lR)=some (j == 8)
 k9:PySem.W.kitOne K (.ref C) (.ref T.cu)=some (j == 9)
 iP:PySem.W.kitOne K (.ref C) (.ref T.cw)=some (j == 10)
def QF:mz T T.bY 0:=⟨aba T,T.Qr,T.U8,T.acw,T.SK,T.OI,T.abb,T.ZI,T.Qz,T.WA,T.T9,T.XT,T.Ri,T.Yi⟩
def aaE:mz T T.bZ 1:=⟨Yc T,T.SU,T.Sg,T.Zk,T.OM,T.Rv,T.Xa,T.Vz,T.PB,T.WE,T.QM,T.acz,T.abz,T.T4⟩
def Wl:mz T T.cb 3:=⟨Sb T,T.UO,T.Ww,T.SG,T.Px,T.Vu,T.ON,T.RH,T.aaF,T.aaV,T.RX,T.Sz,T.Qs,T.WT⟩
def OP:mz T T.cE 4:=⟨S6 T,T.R1,T.aa3,T.Wy,T.Oh,T.Ul,T.abN,T.Yh,T.OQ,T.UC,T.Rt,T.acA,T.XW,T.aal⟩
def ab5:mz T T.cu 9:=⟨FY T,T.V0,T.aaG,T.U6,T.aan,T.acf,T.RB,T.Ro,T.acm,T.Tp,T.YT,T.Qm,T.ZL,T.ZE⟩
def aak:mz T T.cw 10:=⟨KR T,T.Oe,T.Ui,T.SE,T.Xu,T.RV,T.Wm,T.ZX,T.RS,T.WN,T.WJ,T.Oi,T.abW,T.SJ⟩
def sZ {σ:St}:nU [] σ []:=⟨rfl,nofun⟩
def gZ {j:Nat} {ix:List Nat} {σ:St} {v:V} {vs:List V} (h:σ[j]?=some (some v)) (c:nU ix σ vs):nU (j::ix) σ (v::vs):=⟨Ps (· + 1) c.1,fun i k u h1 h2=>by
 cases i with
 | zero=>cases h1; cases h2; exact h
 | succ i=>exact c.2 i k u h1 h2⟩
def WY (N:Cn):Sp:=ja fun fd H Q _=>X2 fun k y=>A2 (kM N H fd (.failed k y)) (∀ p H',ag H H'->H' p=some (.tup [.str "failed",.int ((k:Nat):Int),.str y])->Q (.ref p) H')
def Te:T.rg.k P w base 1 (WY T.cn):=by
 refine T.rg.F.ok XF (fun _ _ _ _ h=>dv h fun _ _=>rfl) fun ao A outer s H vs Q E hr h=>dv h fun fd h=>?_;obtain ⟨k,y,⟨bx,bW⟩,q⟩:=h;refine bJ (b:=bb Bz) ((ad (aX (bO (bL (gf (K:=K) rfl) T.dm dE (aa (ac 0) (aa (dL (.ref T.eM) T.Co rfl) ae)))) (ai (aK (em (aa al (aa (ap T.rh T.AG (ac 0)) (aa (ap T.rh T.Jm (ac 0)) ae)))))) bn)
 (ad (aX (bO (bL (gf (K:=K) rfl) T.dm dE (aa (ac 0) (aa (dL (.ref T.eT) T.Jb rfl) ae)))) (ai (aK (em (aa al (aa (ap T.oy T.HR (ac 0)) (aa (ap T.oy T.JR (ac 0)) ae)))))) bn)
 (ai (aK (em (aa al (aa (ap T.By T.Ik (ac 0)) ae)))))))) ?_
 refine stI [some (V.ref fd)] ?_;right;refine ⟨_,_,_,.of (.ins bW T.oy T.q6 T.q2 T.q3 T.q7),.cls T.q8,aQ (ah ?_)⟩;left;refine ⟨_,_,_,.of (.ins bW T.oy T.q6 T.q2 T.q3 T.q7),.cls T.Og,aV ?_⟩;exact ⟨fd,_,_,_,rfl,bW,rfl,fd,_,_,_,rfl,bW,rfl,fits (by simp),fun p hp=>q p _ (ag.upd hp) au⟩
def XO {tt:TT} {te:TE} {H:Hp} {Q:VK} {vs:List V} (m:Nat) (p:Nat->Bool) (f:Nat->V) (hm:m<=1000) (ht:∀ k,k < m->∀ R:Bool->Hp->Prop,R (p k) H->tt (some (.int (k:Int))::vs.map some) H R) (he:∀ k,k < m->∀ R:VK,R (f k) H->te (some (.int (k:Int))::vs.map some) H R)
  (q:∀ l,H l=none->Q (.ref l) (upd H l (.lst (((List.range m).filter p).map f)))):oF (oK 0 ((m:Int)).toNat) 1 vs (fE 0) tt te Q H:=by
 have hsz:m<=sizeLine:=fits hm;refine ⟨fun i zs k H1=>H1=H/\zs=((List.range i).filter p).map f/\i<=m/\k=m - i,⟨_,rfl,rfl,Cl _,rfl⟩,?_⟩;rintro i zs k H1 ⟨rfl,rfl,hi,rfl⟩;have hlen:(((List.range i).filter p).map f).length<=i:=by rw [pp]; exact u8 (_u _ _) (by simp)
 refine ⟨by omega,?_⟩;by_cases h:i < m
 ·refine .inr ⟨show i < ((m:Int)).toNat by omega,by omega,?_⟩;rintro v H' ⟨rfl,rfl⟩ σ0 hσ0;obtain ⟨a,rfl⟩:=xi hσ0;have e0:(0+(i:Int))=(i:Int):=by omega
  refine ⟨⟨[some (.int (0+(i:Int)))],rfl,rfl⟩,?_⟩;rw [e0];refine ht i h _ ?_;cases hp:p i with
  | true =>
   rw [AC rfl];exact he i h _ ⟨m - (i+1),by omega,rfl,by rw [List.range_succ,Jac,Ev]; simp [hp],h,rfl⟩
  | false =>
   rw [xL (by decide)];exact ⟨m - (i+1),by omega,rfl,by rw [List.range_succ,Jac,Ev]; simp [hp],h,rfl⟩
 ·have e:i=m:=by omega
  subst e;exact .inl ⟨show ((i:Int)).toNat<=i by omega,fun l hl=>q l hl⟩
def gH:List Str:=["asker","path","name","rights","text","tree","thing","hold","row","way","deed"]
def abu {j:Nat} (h:j < 11) (f:Nat->V):((List.range 11).filter (fun k=>j == k)).map f=[f j]:=by
 have H:∀ j < 11,(List.range 11).filter (fun k=>j == k)=[j]:=by decide
 rw [H j h]; rfl
def qN (T:Tx K mg) (Q:VK):XK:=fun C od H'=>∃ c j,C=.ref c/\mz T c j /\
 ((∃ wd:Str,(j,wd)∈[(0,("asker" : Str)),(1,"path"),(3,"rights"),(4,"text")]/\∀ p H2,ag H' H2->fj H2 p (.w wd)->Q (.ref p) H2) \/
   (j=9/\c=T.cu/\∃ d fd k y,od=some d/\H' d=some (.xd [("told",.ref fd)])/\kM T.cn H' fd (.failed k y)/\∀ p H2,ag H' H2->fj H2 p (.way k y)->Q (.ref p) H2) \/
   (j=10/\c=T.cw/\∃ d y,od=some d/\H' d=some (.xd [("reason",.str y)])/\∀ p H2,ag H' H2->fj H2 p (.cP y)->Q (.ref p) H2))
def qN.same {T:Tx K mg} {Q:VK} {C:Value} {od:Option Addr} {H H':Hp} (h:qN T Q C od H) (s:ag H H'):qN T Q C od H':=by
 obtain ⟨c,j,e,xc,h⟩:=h;refine ⟨c,j,e,xc,?_⟩;rcases h with ⟨wd,h1,q⟩ | ⟨h1,h2,d,fd,k,y,h3,h4,h5,q⟩ | ⟨h1,h2,d,y,h3,h4,q⟩
 ·exact .inl ⟨wd,h1,fun p H2 s2=>q p H2 (s.trans s2)⟩
 ·exact .inr (.inl ⟨h1,h2,d,fd,k,y,h3,s _ _ h4,h5.same s,fun p H2 s2=>q p H2 (s.trans s2)⟩)
 ·exact .inr (.inr ⟨h1,h2,d,y,h3,s _ _ h4,fun p H2 s2=>q p H2 (s.trans s2)⟩)
def Zw (T:Tx K mg) (cA:fg):fg:=fun H Q _=>cA H (fun v H'=>∀ p H2,ag H' H2->H2 p=some (.tup [.str "told",v])->Q (.ref p) H2) (qN T Q)
def WV:uK P w K mg base (bI P w) 18 T.qE.f T.qE.d ["_law_ask"] (y6 P w K mg base 17 (Zw T)):=by
 refine T.qE.F.Vv iu (fun outer s vs H Q E h=>?_) (fun ao A outer s H vs Q E hr h=>?_)
 ·obtain ⟨f,B,cA,rfl,_⟩:=h;rfl
 ·obtain ⟨fl,B,cA,rfl,D0,hB,hf,gA,ef⟩:=h;have D:=D0.m;refine bJ (b:=bb yJ) ((ad (aP 1 iu.nd aw)
   (ad (aP 2 iu.nd aw)
   (ad (Xb 3 (K:=K) rfl ⟨rfl,rfl,rfl⟩ iu.nd T.abH T.OY T.Zq (fun _ _=>by exact (ai (aP 1 iu.nd (cP 0 D hB hf gA hr.m Ug)))) (fun _=>by exact (ai (aP 2 iu.nd (ac 3)))))
   (ad (aX (bB tS (ac 2) aw) (ai (aK (em (aa al (aa (ac 1) ae))))) bn)
   (ad (aP 4 iu.nd (cr (aa (bL (gf (K:=K) rfl) T.dm dE (aa (ac 2) (aa (dL (.ref T.bY) T.JI rfl) ae))) (aa (bL (gf (K:=K) rfl) T.dm dE (aa (ac 2) (aa (dL (.ref T.bZ) T.wO rfl) ae))) (aa (bL (gf (K:=K) rfl) T.dm dE (aa (ac 2) (aa (dL (.ref T.lK) T.P9 rfl) ae))) ae)))))
   (ad (aP 4 iu.nd (bv cW (ac 4) (cr (aa (bL (gf (K:=K) rfl) T.dm dE (aa (ac 2) (aa (dL (.ref T.cb) T.y3 rfl) ae))) (aa (bL (gf (K:=K) rfl) T.dm dE (aa (ac 2) (aa (dL (.ref T.cE) T.Fp rfl) ae))) (aa (bL (gf (K:=K) rfl) T.dm dE (aa (ac 2) (aa (dL (.ref T.lZ) T.aad rfl) ae))) ae))))))
   (ad (aP 4 iu.nd (bv cW (ac 4) (cr (aa (bL (gf (K:=K) rfl) T.dm dE (aa (ac 2) (aa (dL (.ref T.gR) T.Hx rfl) ae))) (aa (bL (gf (K:=K) rfl) T.dm dE (aa (ac 2) (aa (dL (.ref T.lP) T.YH rfl) ae))) (aa (bL (gf (K:=K) rfl) T.dm dE (aa (ac 2) (aa (dL (.ref T.lR) T.ach rfl) ae))) ae))))))
   (ad (aP 4 iu.nd (bv cW (ac 4) (cr (aa (bL (gf (K:=K) rfl) T.dm dE (aa (ac 2) (aa (dL (.ref T.cu) T.Gw rfl) ae))) (aa (bL (gf (K:=K) rfl) T.dm dE (aa (ac 2) (aa (dL (.ref T.cw) T.xm rfl) ae))) ae)))))
   (ad (aP 5 iu.nd (cr (aa al (aa al (aa al (aa al (aa al (aa al (aa al (aa al (aa al (aa al (aa al ae)))))))))))))
   (ad (Bj 6 rfl iu.nd (TN:=["_law_k"]) (caps:=["_law_some","_law_words"]) (ix:=[4,5]) (zI T.CU (aa am ae)) (fun _ _ _ _=>by exact (wj (bO (ci (bD (K:=K) rfl) (ac 1) (ac 0))))) (fun _ _ _ _=>by exact (gq 0 (show List.Nodup (["_law_k","_law_some","_law_words"]:List Str) by decide))) (fun _ _ _ _=>by exact (ci (bD (K:=K) rfl) (ac 2) (ac 0))) (.of rfl (by exact ⟨rfl,rfl,trivial⟩) (by walk_at "c") rfl (by exact ⟨⟨rfl,rfl,rfl,rfl⟩,⟨rfl,rfl,rfl,rfl⟩,trivial⟩)))
   (ad (aX (fF (ii (bB iG (bL (g9 (K:=K) rfl) T.g7 LT (aa (ac 6) ae)) am) (iF (dW (bO (bL (gf (K:=K) rfl) T.dm dE (aa (ac 2) (aa (iB (.ty "ValueError") T.U1 YJ rfl) ae)))))))) (ai (aK (em (aa al (aa (ac 6) ae))))) bn)
   (ad (aX (bB eZ (ci (bD (K:=K) rfl) (ac 6) am) al) (ai (aK (em (aa al (aa (bi (Te T) hr.m T.rg.m T.rg.F.kp T.rg.b .nil az (aa (KL T.Dq (FY T) (ac 2)) ae)) ae))))) bn)
   (ad (aX (bB eZ (ci (bD (K:=K) rfl) (ac 6) am) al) (ai (aK (em (aa al (aa (KL T.sv (KR T) (ac 2)) ae))))) bn)
   (ai (aK (em (aa (ci (bD (K:=K) rfl) (ac 6) am) (aa aw ae))))))))))))))))))) ?_
  refine stI [some (.ref fl),none,none,none,none,none,none] ?_;right;right;refine ck (fun σ' H'=>(∃ v,σ'=[some (.ref fl),some v,some .aw,none,none,none,none]/\∀ p H2,ag H' H2->H2 p=some (.tup [.str "told",v])->Q (.ref p) H2)\/∃ ea c od t,σ'=[some (.ref fl),some .aw,some (.ref ea),t,none,none,none]/\H' ea=some (mv ea c od)/\qN T Q (.ref c) od H') ?_ ?_
  ·refine ⟨fun σ' C od H'=>σ'=[some (.ref fl),some .aw,some .aw,none,none,none,none]/\qN T Q C od H',?_,?_⟩
   ·left;exact ⟨by trivial,_,_,ef,fun v H' z=>.inl ⟨v,rfl,z⟩,fun C od H' z=>⟨rfl,z⟩⟩
   ·rintro σ' C od H' ⟨rfl,z⟩;obtain ⟨c,j,e,xc,_⟩:=id z;cases e;refine ⟨xc.l,fun ea hea=>?_⟩;left;exact .inr ⟨ea,C,od,_,rfl,au,z.same (ag.upd hea)⟩
  ·rintro σ' H1 (⟨v,rfl,z⟩ | ⟨ea,c,od,t,rfl,he,z⟩)
   ·right;refine ⟨rfl,dC (by decide) ⟨fits (by simp),fun p hp=>z p _ (ag.upd hp) au⟩⟩
   ·obtain ⟨c',j,ec,xc,z⟩:=z;cases ec;right;refine ⟨rfl,cU (by simp) (ah ?_)⟩;left;have hj:j < 11:=by
     rcases z with ⟨wd,hw,_⟩ | ⟨rfl,_⟩ | ⟨rfl,_⟩
     ·simp only [mo,Jaj,nn,xz] at hw;omega
     ·omega
     ·omega
    refine ⟨_,_,_,.exc he xc.z,.cls xc.k0,_,_,_,.exc he xc.z,.cls xc.k1,_,_,_,.exc he xc.z,.cls xc.k2,fits (by simp),fun p hp=>?_⟩;refine eY hp fun H2 s2 b2=>?_;have rP:=s2 _ _ he;right;refine ⟨_,_,_,.exc rP xc.z,.cls xc.k3,_,_,_,.exc rP xc.z,.cls xc.k4,_,_,_,.exc rP xc.z,.cls xc.k5,fits (by simp),fun p3 ee=>?_⟩;simp only [(ag.upd (o:=.lst [V.bl (j == 3),V.bl (j == 4),V.bl (j == 5)]) ee) _ _ b2,au];refine ⟨fits (by simp),fun p4 lX=>?_⟩;have s4:=s2.trans ((ag.upd (o:=.lst [V.bl (j == 3),V.bl (j == 4),V.bl (j == 5)]) ee).trans (ag.upd (o:=.lst ([V.bl (j == 0),V.bl (j == 1),V.bl (j == 2)]++[V.bl (j == 3),V.bl (j == 4),V.bl (j == 5)])) lX));have b4:upd (upd H2 p3 (.lst [V.bl (j == 3),V.bl (j == 4),V.bl (j == 5)])) p4 (.lst ([V.bl (j == 0),V.bl (j == 1),V.bl (j == 2)]++[V.bl (j == 3),V.bl (j == 4),V.bl (j == 5)])) p4=some (.lst ([V.bl (j == 0),V.bl (j == 1),V.bl (j == 2)]++[V.bl (j == 3),V.bl (j == 4),V.bl (j == 5)])):=au;generalize upd (upd H2 p3 (.lst [V.bl (j == 3),V.bl (j == 4),V.bl (j == 5)])) p4 (.lst ([V.bl (j == 0),V.bl (j == 1),V.bl (j == 2)]++[V.bl (j == 3),V.bl (j == 4),V.bl (j == 5)]))=H4 at s4 b4 ⊢;generalize gB:[V.bl (j == 0),V.bl (j == 1),V.bl (j == 2)]++[V.bl (j == 3),V.bl (j == 4),V.bl (j == 5)]=x4 at b4 ⊢;have yn:=s4 _ _ he;have ku:x4.length=6:=by rw [<- gB]; rfl
    clear b2 s2 rP ee lX hp;right;refine ⟨_,_,_,.exc yn xc.z,.cls xc.k6,_,_,_,.exc yn xc.z,.cls xc.k7,_,_,_,.exc yn xc.z,.cls xc.k8,fits (by simp),fun p5 nu=>?_⟩;simp only [(ag.upd (o:=.lst [V.bl (j == 6),V.bl (j == 7),V.bl (j == 8)]) nu) _ _ b4,au];refine ⟨fits (by simp [ku]),fun p6 uX=>?_⟩;have s6:=s4.trans ((ag.upd (o:=.lst [V.bl (j == 6),V.bl (j == 7),V.bl (j == 8)]) nu).trans (ag.upd (o:=.lst (x4++[V.bl (j == 6),V.bl (j == 7),V.bl (j == 8)])) uX));have b6:upd (upd H4 p5 (.lst [V.bl (j == 6),V.bl (j == 7),V.bl (j == 8)])) p6 (.lst (x4++[V.bl (j == 6),V.bl (j == 7),V.bl (j == 8)])) p6=some (.lst (x4++[V.bl (j == 6),V.bl (j == 7),V.bl (j == 8)])):=au;generalize upd (upd H4 p5 (.lst [V.bl (j == 6),V.bl (j == 7),V.bl (j == 8)])) p6 (.lst (x4++[V.bl (j == 6),V.bl (j == 7),V.bl (j == 8)]))=H6 at s6 b6 ⊢;generalize rS:x4++[V.bl (j == 6),V.bl (j == 7),V.bl (j == 8)]=x6 at b6 ⊢;have EK:=s6 _ _ he;have NT:x6.length=9:=by rw [<- rS]; simp [ku]
    clear b4 s4 yn nu uX;right;refine ⟨_,_,_,.exc EK xc.z,.cls xc.k9,_,_,_,.exc EK xc.z,.cls xc.iP,fits (by simp),fun p7 hp7=>?_⟩;simp only [(ag.upd (o:=.lst [V.bl (j == 9),V.bl (j == 10)]) hp7) _ _ b6,au];refine ⟨fits (by simp [NT]),fun p8 hp8=>?_⟩;have Nc:x6++[V.bl (j == 9),V.bl (j == 10)]=(List.range 11).map fun i=>V.bl (j == i):=by rw [<- rS,<- gB]; rfl
    rw [Nc];have s8:=s6.trans ((ag.upd (o:=.lst [V.bl (j == 9),V.bl (j == 10)]) hp7).trans (ag.upd (o:=.lst ((List.range 11).map fun i=>V.bl (j == i))) hp8));have b8:upd (upd H6 p7 (.lst [V.bl (j == 9),V.bl (j == 10)])) p8 (.lst ((List.range 11).map fun i=>V.bl (j == i))) p8=some (.lst ((List.range 11).map fun i=>V.bl (j == i))):=au;generalize upd (upd H6 p7 (.lst [V.bl (j == 9),V.bl (j == 10)])) p8 (.lst ((List.range 11).map fun i=>V.bl (j == i)))=H8 at s8 b8 ⊢;clear b6 s6 EK hp7 hp8 Nc rS gB ku NT;right;refine ⟨fits (by simp),fun p9 hp9=>?_⟩;have s9:=s8.trans (ag.upd (o:=.lst (gH.map V.str)) hp9);have b9:upd H8 p9 (.lst (gH.map V.str)) p9=some (.lst (gH.map V.str)):=au;have c9:=(ag.upd (o:=.lst (gH.map V.str)) hp9) _ _ b8;change nK _ _ _ _ (upd H8 p9 (.lst (gH.map V.str)));generalize upd H8 p9 (.lst (gH.map V.str))=H9 at s9 b9 c9 ⊢;have he9:=s9 _ _ he;clear s8 b8 hp9;right;refine ⟨[.ref p8,.ref p9],gZ rfl (gZ rfl sZ),⟨by decide,by decide⟩,XO 11 (fun k=>j == k) (fun k=>V.str ((gH[k]?).getD "")) (by decide) (fun k hk R hR=>?_) (fun k hk R hR=>?_) (fun l hl=>?_)⟩
    ·rw [show ([V.ref p8,V.ref p9]:List V).map some=[some (V.ref p8),some (V.ref p9)] from rfl];left;simp only [bj,c9];rw [mK (j:=k) (v:=V.bl (j == k)) (by rw [Da,List.getElem?_range hk]; rfl)];exact hR
    ·rw [show ([V.ref p8,V.ref p9]:List V).map some=[some (V.ref p8),some (V.ref p9)] from rfl];left;simp only [bj,b9];have hk':k < gH.length:=hk;rw [mK (j:=k) (v:=V.str ((gH[k]?).getD "")) (by rw [Da,ss hk']; rfl)];exact hR
    rw [abu hj];have ie:=s9.trans (ag.upd (o:=.lst [V.str ((gH[j]?).getD "")]) hl);have rD:upd H9 l (.lst [V.str ((gH[j]?).getD "")]) l=some (.lst [V.str ((gH[j]?).getD "")]):=au;generalize upd H9 l (.lst [V.str ((gH[j]?).getD "")])=ky at ie rD ⊢;have E5:=ie _ _ he;clear s9 b9 c9 he9 hl;right;simp only [bj,rD];refine cU (by simp) ⟨_,_,_,.exc E5 xc.z,.ty xc.v,cU (by decide) ?_⟩;right;simp only [bj,rD,e8];rcases z with ⟨wd,hw,q⟩ | ⟨rfl,rfl,d,fd,k,y,rfl,hd,bW,q⟩ | ⟨rfl,rfl,d,y,rfl,hd,q⟩
    ·have E4:(gH[j]?).getD "" = wd/\wd≠("way" : Str)/\wd≠("deed" : Str):=by
      simp only [mo,Jaj,nn,xz] at hw;rcases hw with ⟨rfl,rfl⟩ | ⟨rfl,rfl⟩ | ⟨rfl,rfl⟩ | ⟨rfl,rfl⟩ <;> exact ⟨by symm,by symm,by symm⟩
     rw [E4.1] at rD ⊢;refine cU (pc E4.2.1) (ah ?_);left;simp only [bj,rD,e8];refine cU (pc E4.2.2) ⟨fits (by simp),fun p hp=>q p _ (ie.trans (ag.upd hp)) au⟩
    ·refine dC (by symm) ?_;refine ⟨ea,d,_,_,rfl,E5,ie _ _ hd,rfl,k,y,bW.same ie,fun p H11 vc ht=>⟨fits (by simp),fun p2 cg=>q p2 _ ((ie.trans vc).trans (ag.upd cg)) ⟨p,au,(ag.upd cg) _ _ ht⟩⟩⟩
    ·refine cU (by symm) (ah ?_);left;simp only [bj,rD,e8];refine dC (by symm) ?_;refine ⟨ea,d,_,_,rfl,E5,ie _ _ hd,rfl,fits (by simp),fun p hp=>q p _ (ie.trans (ag.upd hp)) au⟩
def iC:List (Str×Nat):=[("own",0),("guest",0)]
def oO:∀ z∈AS,aG (sD iC) (.inr z)=some (.int ((0:Nat):Int)):=by
 intro z hz;simp only [AS,mo,nn,xz] at hz;rcases hz with rfl | rfl <;> symm
def eR (l:List (Str×Nat)):Th:=⟨"folder","own","lgw","lg","",l,[]⟩
def fo (re:Str) (l:List (Str×Nat)) (nm:List Nat):Th:=⟨"folder","own","lgw",re,"",l,[(0,Tx.S nm)]⟩
def fi (f:Nat):Th:=⟨"file","own","lgw","","text",[],[(f,Tx.S cF)]⟩
def hM (ts:List Th):Hs:={ ts:=ts,ro:=iC,st:=iC,tr:=[("main",0)],ov:=[],un:=[] }
def T7 (om:List (Str×Nat)):List Th:=[eR [(Tx.S cO,1),(Tx.S cK,2),(Tx.S cS,3)],fo "lgw" om cO,fo "lg" [(Tx.S cF,5)] cK,fo "lw" [(Tx.S cF,6)] cS,fi 1,fi 2,fi 3]
def Gd.zF {M:Hs} (g:Gd M):∀ (n k:Nat) (t:Th),k<=n->M.ts[k]?=some t->gr M 0 k
 | n,k,t,hk,ht=>by
  rcases (g.th k t ht).pl with ⟨rfl,_⟩ | ⟨f,nm,tf,hf,hp,_,cY,_⟩
  ·exact .refl
  ·match n,hk with
   | 0,hk=>omega
   | n+1,hk=>exact .up ht hp (g.zF n f tf (by omega) cY)
section
variable {N:Cn} {H H':Hp} {A:Ad} {L:List Ta} {M:Hs}
def CM {z kd mi re tx:Str} {t nm:List Nat} {q:List (List Nat)} {f:Nat} {tf t0:Th} {Q:VK} {E:XK} (i:aE N.CH N.CS N.CT H A L M) (g:Gd M) (h9:M.ro=iC) (aM:M.st=iC) (hn:M.ts.length<=60) (hz:z∈AS) (jl:M.ts[0]?=some t0) (hp:dj t) (hq:told (Tx.words 47 t) t=q++[nm]) (bT:isNm nm=true) (hl:q.length<=4)
  (D:Pass ⟨L,M,z,true,0⟩ 0 (q.map Tx.S++[("." : Str)]) f) (hf:M.ts[f]?=some tf) (hk:tf.kd=("folder" : Str)) (hw:cI ("w" : Str) (dk tf z)=true) (hv:aG (sD tf.aR) (.inr (Tx.S nm))=none) (qa:mi∈dg) (je:re∈dg)
  (mq:∀ a H' a0,L[f]?=some a0->aE N.CH N.CS N.CT H' A (L++[a]) { M with ts:=M.ts.set f { tf with aR:=tf.aR++[(Tx.S nm,M.ts.length)] }++[⟨kd,z,mi,re,tx,[],[(f,Tx.S nm)]⟩] }->Kp [A.t,A.ml,a0.nm] H H'->Q (.int (M.ts.length:Nat)) H'):jR N H A L M z t kd mi re tx Q E:=by
 have ju:=oO z hz;obtain ⟨a0,da⟩:=adr i.len hf;have jQ:jf ⟨L,M,z,true,0⟩ t (.inr (f,nm)):=HP g i.len (by omega) (by rw [h9]; exact ju) (by rw [aM]; exact ju) jl D hq bT (by omega) hf hk (g.zF _ f tf (sK _) hf);refine ⟨i,hp,by rw [h9,ju]; rfl,qa,je,by rw [i.len]; omega,fun f t0 h=>by have:=(g.th f t0 h).nl; omega,0,.inr (f,nm),.free jQ bT da hf hw hv,nofun,?_⟩;intro f' nm' a1 t1 e kC iL a H2 i2 k2;cases e;rw [hf] at iL; cases iL;exact mq a H2 a1 kC i2 k2
def mkRef {z kd mi re tx:Str} {t:List Nat} {x:Rf} {Q:VK} {E:XK} (i:aE N.CH N.CS N.CT H A L M) (g:Gd M) (h9:M.ro=iC) (hn:M.ts.length<=60) (hz:z∈AS) (hp:dj t) (D:nX ⟨L,M,z,true,0⟩ t (.inl x)) (qa:mi∈dg) (je:re∈dg) (mq:fS N H E x):jR N H A L M z t kd mi re tx Q E:=by
 have ju:=oO z hz;exact ⟨i,hp,by rw [h9,ju]; rfl,qa,je,by rw [i.len]; omega,fun f t0 h=>(by have:=(g.th f t0 h).nl; omega),0,.inl x,D,fun y e=>(by cases e; exact mq),nofun⟩
end
def CZ {d:Wd} {f k:Nat} {nm:List Nat} {t tk:Th} (ht:d.M.ts[f]?=some t) (hk:t.kd=("folder" : Str)) (hg:cI ("g" : Str) (dk t d.z)=true) (hn:isNm nm=true) (hv:aG (sD t.aR) (.inr (Tx.S nm))=some (.int ((k:Nat):Int))) (eP:d.M.ts[k]?=some tk) (DK:tk.kd=("folder" : Str)):Down d f [Tx.S nm] k:=.cons ht hk hg (ua hn) (by rw [Tx.cC]; exact (qh hn).2.2.2) hv eP DK .nil
def G9 {H H':Hp} {Pt:Addr} {q:Str} {es:List Ent} (t:fc H Pt q es) (k:∀ b φ,H b=some (.ext φ)->H' b=some (.ext φ)):fc H' Pt q es:=⟨k _ _ t.tab,fun e he=>k _ _ (t.code e he)⟩
def NX (H H':Hp):Prop:=∀ b o,(∀ φ,o≠.ext φ)->H b=some o->H' b=some o
def UI {Pt:Addr} {q:Str} {c:Addr} {H H1:Hp} {es:List Ent} (L:pC Pt q c H H1) (t:fc H Pt q es):NX H H1:=fun b o no e=>L.IP b o (fun z=>by rw [z,t.tab] at e; cases e; exact no _ rfl) e
def jB.kO {CT:Addr} {H H':Hp} {a:Ta} {i:Nat} {t:Th} (h:jB CT H a i t) (k:NX H H'):jB CT H' a i t where
 o:=let ⟨fs,e,r⟩:=h.o; ⟨fs,k _ _ (by nofun) e,r⟩
 nm:=k _ _ (by nofun) h.nm
 pl:=k _ _ (by nofun) h.pl
def aE.kO {CH CS CT:Addr} {H H':Hp} {A:Ad} {L:List Ta} {M:Hs} (i:aE CH CS CT H A L M) (k:NX H H'):aE CH CS CT H' A L M where
 h:=let ⟨fs,c,e,r⟩:=i.h; ⟨fs,c,k _ _ (by nofun) e,r⟩
 t:=let ⟨fs,c,e,r⟩:=i.t; ⟨fs,c,k _ _ (by nofun) e,r⟩
 ml:=k _ _ (by nofun) i.ml
 len:=i.len
 th:=fun j t e=>let ⟨a,e1,h⟩:=i.th j t e; ⟨a,e1,h.kO k⟩
 ro:=k _ _ (by nofun) i.ro
 st:=k _ _ (by nofun) i.st
 tr:=k _ _ (by nofun) i.tr
 ov:=k _ _ (by nofun) i.ov
 un:=k _ _ (by nofun) i.un
 nd:=i.nd
def Ba (xs:List V):Prop:=∀ v∈xs,∀ a,v≠V.ref a
def Lx (zs:List Int):Ba (zs.map V.int):=fun v hv a=>by obtain ⟨z,_,rfl⟩:=EQ.mp hv; nofun
def kc:HO->Prop
 | .lst xs=>Ba xs
 | .eV _ _=>True
 | .tup _=>True
 | .ext _=>True
 | _=>False
def nE (st:Addr) (H H':Hp):Prop:=∀ c o,c≠st->kc o->H c=some o->H' c=some o
def c7 (H H':Hp):Prop:=∀ c o,kc o->H c=some o->H' c=some o
def c7.l {st:Addr} {H H':Hp} (k:c7 H H'):nE st H H':=fun c o _ h e=>k c o h e
def nE.trans {st:Addr} {H H1 H2:Hp} (a:nE st H H1) (b:nE st H1 H2):nE st H H2:=fun c o n h e=>b c o n h (a c o n h e)
def c7.trans {H H1 H2:Hp} (a:c7 H H1) (b:c7 H1 H2):c7 H H2:=fun c o h e=>b c o h (a c o h e)
def c7.of {H H':Hp} (s:ag H H'):c7 H H':=fun c o _ e=>s _ _ e
def c7.tab {H H':Hp} {Pt:Addr} {q:Str} {es:List Ent} (k:c7 H H') (t:fc H Pt q es):fc H' Pt q es:=G9 t fun _ _ e=>k _ _ trivial e
def ab7 {Pt:Addr} {q:Str} {c:Addr} {H H1:Hp} (L:pC Pt q c H H1):nE Pt H H1:=fun b o n _ e=>L.IP b o n e
section
variable {CH CS CT:Addr} {H H':Hp} {A:Ad} {L:List Ta} {M:Hs}
def aE.J9 (i:aE CH CS CT H A L M) (h0:M.ts≠[]) {b:Addr} {o:HO} (hb:b∈A.w++L.flatMap Ta.l) (hx:kc o) (e:H b=Option.some o):False:=by
 rcases Uf.mp hb with h | h
 ·simp only [Ad.w,mo,nn,xz] at h;rcases h with rfl | rfl | rfl | rfl | rfl | rfl | rfl | rfl
  ·obtain ⟨_,_,e',_⟩:=i.h; rw [e'] at e; cases e; exact hx
  ·obtain ⟨_,_,e',_⟩:=i.t; rw [e'] at e; cases e; exact hx
  ·rw [i.ml] at e;cases e;cases L with
   | nil=>exact h0 (_k.mp i.len.symm)
   | cons a r=>exact hx (.ref a.th) (by simp) a.th rfl
  ·rw [i.ro] at e; cases e; exact hx
  ·rw [i.st] at e; cases e; exact hx
  ·rw [i.tr] at e; cases e; exact hx
  ·rw [i.ov] at e; cases e; exact hx
  ·rw [i.un] at e; cases e; exact hx
 ·obtain ⟨a,ha,h⟩:=List.mem_flatMap.mp h;obtain ⟨j,ha⟩:=_4 ha;have bK:j < M.ts.length:=by rw [<- i.len]; exact (sw.mp ha).1
  obtain ⟨a',e1,t⟩:=i.th j _ (ss bK);rw [ha] at e1; cases e1;simp only [Ta.l,mo,nn,xz] at h;rcases h with rfl | rfl | rfl
  ·obtain ⟨_,e',_⟩:=t.o; rw [e'] at e; cases e; exact hx
  ·rw [t.nm] at e; cases e; exact hx
  ·rw [t.pl] at e; cases e; exact hx
def aE.off (i:aE CH CS CT H A L M) (h0:M.ts≠[]) {W:List Addr} (hW:∀ b∈W,b∈A.w++L.flatMap Ta.l) (k:Kp W H H'):c7 H H':=fun c o ho e=>k c _ (fun hc=>i.J9 h0 (hW c hc) ho e) e
def aE.drawn {st:Addr} (i:aE CH CS CT H A L M) (h0:M.ts≠[]) (d:Dr st H) (k:cJ st H H'):aE CH CS CT H' A L M:=by
 refine i.keep (W:=[st]) (fun b o hb e=>k b o (by simpa using hb) e) fun b hb hm=>?_;obtain rfl:b=st:=by simpa using hm
 obtain ⟨x,y,z,e⟩:=d;exact i.J9 h0 hb (show kc (.lst [.int x,.int y,.int z]) from Lx [x,y,z]) e
end
def Gd.ne {M:Hs} (g:Gd M):M.ts≠[]:=fun e=>by obtain ⟨t,h,_⟩:=g.t0; rw [e] at h; cases h
def Ms:Nat->List Th
 | 0=>[eR []]
 | 1=>[eR [(Tx.S cO,1)],fo "lgw" [] cO]
 | 2=>[eR [(Tx.S cO,1),(Tx.S cK,2)],fo "lgw" [] cO,fo "lg" [] cK]
 | 3=>[eR [(Tx.S cO,1),(Tx.S cK,2),(Tx.S cS,3)],fo "lgw" [] cO,fo "lg" [] cK,fo "lw" [] cS]
 | 4=>[eR [(Tx.S cO,1),(Tx.S cK,2),(Tx.S cS,3)],fo "lgw" [(Tx.S cF,4)] cO,fo "lg" [] cK,fo "lw" [] cS,fi 1]
 | 5=>[eR [(Tx.S cO,1),(Tx.S cK,2),(Tx.S cS,3)],fo "lgw" [(Tx.S cF,4)] cO,fo "lg" [(Tx.S cF,5)] cK,fo "lw" [] cS,fi 1,fi 2]
 | _=>T7 [(Tx.S cF,4)]
def g0:Gd (hM (Ms 0)):=by
 refine ⟨rfl,rfl,rfl,fun z hz=>⟨0,0,oO z hz,oO z hz,.refl,⟨_,rfl,rfl⟩,_,rfl,rfl⟩,by decide,by decide,⟨_,rfl,rfl⟩,fun k t ht=>?_⟩;cases k with
 | zero =>
  cases ht;exact ⟨Cl _,.inl rfl,fun e=>absurd (show ("folder" : Str) = "lead" from e) (by symm),.inl ⟨rfl,rfl⟩,fun z v h=>by cases h⟩
 | succ k=>simp [hM,Ms] at ht
def g1:Gd (hM (Ms 1)):=g0.make (f:=0) (nm:=Tx.S cO) (kd := "folder") rfl rfl (by symm) (by symm) (.inl rfl) (fun e=>absurd e (by symm))
def g2:Gd (hM (Ms 2)):=g1.make (f:=0) (nm:=Tx.S cK) (kd := "folder") rfl rfl (by symm) (by symm) (.inl rfl) (fun e=>absurd e (by symm))
def g3:Gd (hM (Ms 3)):=g2.make (f:=0) (nm:=Tx.S cS) (kd := "folder") rfl rfl (by symm) (by symm) (.inl rfl) (fun e=>absurd e (by symm))
def g4:Gd (hM (Ms 4)):=g3.make (f:=1) (nm:=Tx.S cF) (kd := "file") rfl rfl (by symm) (by symm) (.inr (.inl rfl)) (fun e=>absurd e (by symm))
def g5:Gd (hM (Ms 5)):=g4.make (f:=2) (nm:=Tx.S cF) (kd := "file") rfl rfl (by symm) (by symm) (.inr (.inl rfl)) (fun e=>absurd e (by symm))
def g6:Gd (hM (Ms 6)):=g5.make (f:=3) (nm:=Tx.S cF) (kd := "file") rfl rfl (by symm) (by symm) (.inr (.inl rfl)) (fun e=>absurd e (by symm))
def BU (N:Cn):Sp:=fun vs H Q _=>match vs with
 | []=>∀ A L H',aE N.CH N.CS N.CT H' A L (hM (Ms 6))->c7 H H'->Q (.ref A.a) H'
 | _=>False
section
variable {N:Cn} {H:Hp} {A:Ad} {L:List Ta} {Q:VK} {E:XK}
def Io {ts:List Th} {f:Nat} {a0:Ta} {H':Hp} (i:aE N.CH N.CS N.CT H A L (hM ts)) (h0:ts≠[]) (da:L[f]?=some a0) (k:Kp [A.t,A.ml,a0.nm] H H'):c7 H H':=i.off h0 (fun b hb=>by
 simp only [mo,nn,xz] at hb;rcases hb with rfl | rfl | rfl
 ·simp [Ad.w]
 ·simp [Ad.w]
 ·exact wT _ (kI da (by simp [Ta.l]))) k
def zQ {nm:List Nat} {re:Str} {l:List (Str×Nat)} {r:List Th} (i:aE N.CH N.CS N.CT H A L (hM (eR l::r))) (g:Gd (hM (eR l::r))) (hp:dj (47::nm)) (hq:told (Tx.words 47 (47::nm)) (47::nm)=[]++[nm]) (bT:isNm nm=true) (hv:aG (sD l) (.inr (Tx.S nm))=none) (je:re∈dg) (hl:r.length<=50) (q:∀ v L' H',aE N.CH N.CS N.CT H' A L' (hM (eR (l++[(Tx.S nm,r.length+1)])::(r++[fo re [] nm])))->c7 H H'->Q v H') :
  jR N H A L (hM (eR l::r)) "own" (47::nm) "folder" "lgw" re "" Q E:=by
 have h0:(hM (eR l::r)).ts[0]?=some (eR l):=rfl;exact CM i g rfl rfl (show r.length+1<=60 by omega) (by symm) h0 hp hq bT (by decide) (.dot h0 rfl (show cI ("g" : Str) (if ("own" : Str) = "own" then "lgw" else "lg")=true by symm) .nil) h0 rfl (show cI ("w" : Str) (if ("own" : Str) = "own" then "lgw" else "lg")=true by symm) hv (by symm) je fun a H' a0 da i' k'=>q _ _ H' i' (Io i (by nofun) da k')
def Dc {ts:List Th} {cX:List Nat} {l om:List (Str×Nat)} {re:Str} {f:Nat} (i:aE N.CH N.CS N.CT H A L (hM ts)) (g:Gd (hM ts)) (h0:ts[0]?=some (eR l)) (hv0:aG (sD l) (.inr (Tx.S cX))=some (.int ((f:Nat):Int))) (hX:isNm cX=true) (hf:ts[f]?=some (fo re om cX)) (hp:dj (47::cX++47::cF)) (hq:told (Tx.words 47 (47::cX++47::cF)) (47::cX++47::cF)=[cX]++[cF]) (hv:aG (sD om) (.inr (Tx.S cF))=none) (hl:ts.length<=50)
  (q:∀ v L' H',aE N.CH N.CS N.CT H' A L' (hM (ts.set f (fo re (om++[(Tx.S cF,ts.length)]) cX)++[fi f]))->c7 H H'->Q v H'):jR N H A L (hM ts) "own" (47::cX++47::cF) "file" "lgw" "" "text" Q E:=by
 have w1:∀ {c:Str},cI c (dk (fo re om cX) "own")=cI c "lgw" := rfl;exact CM i g rfl rfl (show ts.length<=60 by omega) (by symm) h0 hp hq (by symm) (show 1<=4 by decide) (.down (CZ (d:=⟨L,hM ts,"own",true,0⟩) h0 rfl (show cI ("g" : Str) (if ("own" : Str) = "own" then "lgw" else "lg")=true by symm) hX hv0 hf rfl) (.dot hf rfl (show cI ("g" : Str) (if ("own" : Str) = "own" then "lgw" else re)=true by rw [AC rfl]; symm) .nil)) hf rfl (show cI ("w" : Str) (if ("own" : Str) = "own" then "lgw" else re)=true by rw [AC rfl]; symm) hv (by symm) (by symm) fun a H' a0 da i' k'=>q _ _ H' i' (Io i (fun e=>by rw [e] at h0; cases h0) da k')
end
def aa7:aA P w K mg base (bI P w) 16 T.qg.f T.qg.d [] (BU T.cn):=by
 refine T.qg.F.dJ zc (fun vs H Q E h=>?_) (fun ao A outer s H vs Q E hr h=>?_)
 ·unfold BU at h;split at h
  ·rfl
  ·exact h.elim
 ·unfold BU at h;split at h
  ·refine bJ (b:=bb Av) ((ad (aP 0 zc.nd (jp T.Ox (Zz T) hr.m T.Wt T.ui.b .nil az (aa al ae)))
   (ad (aW (bw T.aO T.tI.h (Zu T) hr.m T.tI.b .nil az (ac 0) (aa al ae)))
   (ad (aW (cL (vM T) hr.m T.vY T.me.kp T.qS .nil bS (aa (ac 0) (aa al (aa al (aa al (aa al ae)))))))
   (ad (aW (cL (vM T) hr.m T.vY T.me.kp T.qS .nil bS (aa (ac 0) (aa al (aa al (aa al (aa al ae)))))))
   (ad (aW (cL (vM T) hr.m T.vY T.me.kp T.qS .nil bS (aa (ac 0) (aa al (aa al (aa al (aa al ae)))))))
   (ad (xu Ht rfl (jV (K:=K) rfl (cr (aa al (aa al (aa al ae))))) (gq 1 zc.nd) (ai (aW (cL (Ke T) hr.m T.Gy T.pB.kp T.Am (.cons (show RelV (.str "lgw") _ from ⟨_,rfl⟩) (.cons (show RelV (.str "") _ from ⟨_,rfl⟩) .nil)) bS (aa (ac 0) (aa al (aa (bv cW (bv cW al (ac 1)) al) (aa al ae))))))))
   (ai (aK (ac 0)))))))))) ?_
   refine stI [none,none] ?_;right;intro x dx hx lT dY;refine ⟨⟨dx,au⟩,by symm,by symm,fun A1 L1 H2 hA1 i2 o1 iJ=>⟨rfl,?_⟩⟩;subst hA1;have k2:c7 H H2:=fun b o ho e=>iJ _ _ (by rw [FM]; exact aI e hx) (by rw [aj (aI e hx),aj (aI e lT)]; exact e);obtain ⟨fX,gc,gh,f6,bP⟩:=i2.h;right;refine mI gh bP ⟨A1,L1,_,i2,rfl,by symm,by symm,by decide,by decide,by symm,by symm,fun H3 i3 k3=>?_⟩;have k3':=k2.trans (i2.off (by nofun) (W:=[A1.a,A1.ro,A1.st]) (fun b hb=>by
    simp only [mo,nn,xz] at hb;rcases hb with rfl | rfl | rfl <;> simp [Ad.w]) k3)
   have i3':aE T.cn.CH T.cn.CS T.cn.CT H3 A1 L1 (hM (Ms 0)):=i3;clear i2 i3 k2 k3 gh bP iJ o1;right;refine ⟨A1,L1,_,47::cO,by symm,zQ (l:=[]) (r:=[]) i3' g0 ⟨by symm,by symm,by symm⟩ (by symm) (by symm) (by symm) (by symm) (by decide) (fun v4 L4 H4 i4 k4=>?_),rfl⟩;have i4':aE T.cn.CH T.cn.CS T.cn.CT H4 A1 L4 (hM (Ms 1)):=i4;have k4':=k3'.trans k4;clear i3' k3' k4 i4;right;refine ⟨A1,L4,_,47::cK,by symm,zQ (l:=[(Tx.S cO,1)]) (r:=[fo "lgw" [] cO]) i4' g1 ⟨by symm,by symm,by symm⟩ (by symm) (by symm) (by symm) (by symm) (by decide) (fun v5 L5 H5 i5 k5=>?_),rfl⟩;have i5':aE T.cn.CH T.cn.CS T.cn.CT H5 A1 L5 (hM (Ms 2)):=i5;have k5':=k4'.trans k5;clear i4' k4' k5 i5;right;refine ⟨A1,L5,_,47::cS,by symm,zQ (l:=[(Tx.S cO,1),(Tx.S cK,2)]) (r:=[fo "lgw" [] cO,fo "lg" [] cK]) i5' g2 ⟨by symm,by symm,by symm⟩ (by symm) (by symm) (by symm) (by symm) (by decide) (fun v6 L6 H6 i6 k6=>?_),rfl⟩;have i6':aE T.cn.CH T.cn.CS T.cn.CT H6 A1 L6 (hM (Ms 3)):=i6;have k6':=k5'.trans k6;clear i5' k5' k6 i6;refine ck (fun σ' H'=>(∃ L,aE T.cn.CH T.cn.CS T.cn.CT H' A1 L (hM (Ms 6))/\c7 H H')/\∃ t1,σ'=[some (.ref A1.a),t1]) ?_ ?_
   ·left;refine ⟨fits (by simp),fun p hp=>⟨⟨_,aD.of au⟩,?_⟩⟩;refine eY hp fun H7 s7 b7=>?_;have i7:=i6'.same s7;have k7:=k6'.trans (c7.of s7);have fl:Ba [V.str "open",V.str "kept",V.str "shut"]:=fun v hv a e=>by
     subst e;simp at hv
    refine wI (xs:=[V.str "open",V.str "kept",V.str "shut"]) (fun i σ' H'=>((∃ L,aE T.cn.CH T.cn.CS T.cn.CT H' A1 L (hM (Ms (3+i)))/\c7 H H')/\H' p=some (.lst [V.str "open",V.str "kept",V.str "shut"]))/\∃ t1,σ'=[some (.ref A1.a),t1]) ⟨⟨⟨_,i7,k7⟩,b7⟩,_,rfl⟩ (fun i σ' H' _ h=>aD.of h.1.2) ?_ (fun σ' H' h=>⟨h.1.1,h.2⟩);clear i7 k7 b7 i6' k6' s7 hp;rintro i x σ' H8 hx ⟨⟨⟨L8,i8,k8⟩,b8⟩,t1,rfl⟩
    match i,hx with
    | 0,hx =>
     cases hx;left;refine ⟨by symm,by symm,A1,L8,_,47::cO++47::cF,by symm,Dc (l:=[(Tx.S cO,1),(Tx.S cK,2),(Tx.S cS,3)]) (om:=[]) (f:=1) (cX:=cO) i8 g3 rfl (by symm) (by symm) rfl ⟨by symm,by symm,by symm⟩ (by symm) rfl (by decide) (fun v9 L9 H9 i9 k9=>⟨⟨⟨L9,i9,k8.trans k9⟩,k9 _ _ fl b8⟩,_,rfl⟩),rfl,by symm⟩
    | 1,hx =>
     cases hx;left;refine ⟨by symm,by symm,A1,L8,_,47::cK++47::cF,by symm,Dc (l:=[(Tx.S cO,1),(Tx.S cK,2),(Tx.S cS,3)]) (om:=[]) (f:=2) (cX:=cK) i8 g4 rfl (by symm) (by symm) rfl ⟨by symm,by symm,by symm⟩ (by symm) rfl (by decide) (fun v9 L9 H9 i9 k9=>⟨⟨⟨L9,i9,k8.trans k9⟩,k9 _ _ fl b8⟩,_,rfl⟩),rfl,by symm⟩
    | 2,hx =>
     cases hx;left;refine ⟨by symm,by symm,A1,L8,_,47::cS++47::cF,by symm,Dc (l:=[(Tx.S cO,1),(Tx.S cK,2),(Tx.S cS,3)]) (om:=[]) (f:=3) (cX:=cS) i8 g5 rfl (by symm) (by symm) rfl ⟨by symm,by symm,by symm⟩ (by symm) rfl (by decide) (fun v9 L9 H9 i9 k9=>⟨⟨⟨L9,i9,k8.trans k9⟩,k9 _ _ fl b8⟩,_,rfl⟩),rfl,by symm⟩
    | n+3,hx=>cases hx
   ·rintro σ' H7 ⟨⟨L7,i7,k7⟩,t1,rfl⟩;left;exact h A1 L7 H7 i7 k7
  ·exact h.elim
structure HF (M:Hs) (om:List (Str×Nat)) (rest:List Th) (n:Nat):Prop where
 e:M=hM (T7 om++rest)
 f:aG (sD om) (.inr (Tx.S cF))=some (.int ((4:Nat):Int))
 g:Gd M
 n:M.ts.length<=n
section
variable {M:Hs} {om:List (Str×Nat)} {rest:List Th} {n:Nat} {L:List Ta}
def HF.r0 (h:HF M om rest n):M.ts[0]?=some (eR [(Tx.S cO,1),(Tx.S cK,2),(Tx.S cS,3)]):=by rw [h.e]; rfl
def HF.r1 (h:HF M om rest n):M.ts[1]?=some (fo "lgw" om cO):=by rw [h.e]; rfl
def HF.r2 (h:HF M om rest n):M.ts[2]?=some (fo "lg" [(Tx.S cF,5)] cK):=by rw [h.e]; rfl
def HF.r3 (h:HF M om rest n):M.ts[3]?=some (fo "lw" [(Tx.S cF,6)] cS):=by rw [h.e]; rfl
def HF.r4 (h:HF M om rest n):M.ts[4]?=some (fi 1):=by rw [h.e]; rfl
def qi {l:List (Str×Nat)}:cI ("g" : Str) (dk (eR l) "guest")=true:=show cI ("g" : Str) (if ("guest" : Str) = "own" then "lgw" else "lg")=true by symm
def gW0 {l:List (Str×Nat)}:cI ("w" : Str) (dk (eR l) "guest")=false:=show cI ("w" : Str) (if ("guest" : Str) = "own" then "lgw" else "lg")=false by symm
def gX {re:Str} {l:List (Str×Nat)} {nm:List Nat}:dk (fo re l nm) "guest" = re:=xL (show ¬ ("guest" : Str) = "own" by symm)
def HF.d1 (h:HF M om rest n) {last:Bool}:Down ⟨L,M,"guest",last,0⟩ 0 [Tx.S cO] 1:=CZ (d:=⟨L,M,"guest",last,0⟩) h.r0 rfl qi (by symm) (by symm) h.r1 rfl
def HF.d2 (h:HF M om rest n) {last:Bool}:Down ⟨L,M,"guest",last,0⟩ 0 [Tx.S cK] 2:=CZ (d:=⟨L,M,"guest",last,0⟩) h.r0 rfl qi (by symm) (by symm) h.r2 rfl
def HF.p0 (h:HF M om rest n) {last:Bool} {ps:List Str} {k:Nat} (p:Pass ⟨L,M,"guest",last,0⟩ 0 ps k):Pass ⟨L,M,"guest",last,0⟩ 0 (("." : Str)::ps) k:=.dot h.r0 rfl qi p
def HF.p1 (h:HF M om rest n) {last:Bool} {ps:List Str} {k:Nat} (p:Pass ⟨L,M,"guest",last,0⟩ 1 ps k):Pass ⟨L,M,"guest",last,0⟩ 1 (("." : Str)::ps) k:=.dot h.r1 rfl (by rw [gX]; symm) p
def HF.p2 (h:HF M om rest n) {last:Bool} {ps:List Str} {k:Nat} (p:Pass ⟨L,M,"guest",last,0⟩ 2 ps k):Pass ⟨L,M,"guest",last,0⟩ 2 (("." : Str)::ps) k:=.dot h.r2 rfl (by rw [gX]; symm) p
def HF.u1 (h:HF M om rest n) {last:Bool} {ps:List Str} {k:Nat} (p:Pass ⟨L,M,"guest",last,0⟩ 0 ps k):Pass ⟨L,M,"guest",last,0⟩ 1 ((".." : Str)::ps) k:=.up (show (1:Nat)≠0 by decide) h.r1 rfl (by rw [gX]; symm) rfl h.r0 p
def HF.u2 (h:HF M om rest n) {last:Bool} {ps:List Str} {k:Nat} (p:Pass ⟨L,M,"guest",last,0⟩ 0 ps k):Pass ⟨L,M,"guest",last,0⟩ 2 ((".." : Str)::ps) k:=.up (show (2:Nat)≠0 by decide) h.r2 rfl (by rw [gX]; symm) rfl h.r0 p
def Jo:Tx.S [46]=("." : Str):=by symm
def Ge:Tx.S [46,46]=(".." : Str):=by symm
def HF.pass (h:HF M om rest n) {last:Bool} {q:List (List Nat)} {k:Nat} (hq:(q,k)∈[([cO],1),([cO,[46]],1),([cK,[46,46],cO],1),([cO,[46,46],cO],1),([cK],2),([cK,[46]],2),(([]:List (List Nat)),0)]):Pass ⟨L,M,"guest",last,0⟩ 0 (q.map Tx.S++[("." : Str)]) k:=by
 simp only [mo,Jaj,nn,xz] at hq;rcases hq with ⟨rfl,rfl⟩ | ⟨rfl,rfl⟩ | ⟨rfl,rfl⟩ | ⟨rfl,rfl⟩ | ⟨rfl,rfl⟩ | ⟨rfl,rfl⟩ | ⟨rfl,rfl⟩
 ·exact .down (ns:=[Tx.S cO]) h.d1 (h.p1 .nil)
 ·refine .down (ns:=[Tx.S cO]) (ps:=[Tx.S [46],"."]) h.d1 ?_;rw [Jo]; exact h.p1 (h.p1 .nil)
 ·refine .down (ns:=[Tx.S cK]) (ps:=[Tx.S [46,46],Tx.S cO,"."]) h.d2 ?_;rw [Ge]; exact h.u2 (.down (ns:=[Tx.S cO]) h.d1 (h.p1 .nil))
 ·refine .down (ns:=[Tx.S cO]) (ps:=[Tx.S [46,46],Tx.S cO,"."]) h.d1 ?_;rw [Ge]; exact h.u1 (.down (ns:=[Tx.S cO]) h.d1 (h.p1 .nil))
 ·exact .down (ns:=[Tx.S cK]) h.d2 (h.p2 .nil)
 ·refine .down (ns:=[Tx.S cK]) (ps:=[Tx.S [46],"."]) h.d2 ?_;rw [Jo]; exact h.p2 (h.p2 .nil)
 ·exact h.p0 .nil
def HF.jQ (h:HF M om rest n) (hL:L.length=M.ts.length) (hn:n<=60) {x:Sm} {k:Nat} {tk:Th} (hx:wX x) (hq:(x.q,k)∈[([cO],1),([cO,[46]],1),([cK,[46,46],cO],1),([cO,[46,46],cO],1),([cK],2),([cK,[46]],2),(([]:List (List Nat)),0)]) (hk:M.ts[k]?=some tk) (eg:tk.kd=("folder" : Str)):jf ⟨L,M,"guest",true,0⟩ x.t (.inr (k,x.nm)):=by
 have ju:=oO "guest" (by symm);have:=h.n;exact HP h.g hL (by omega) (by rw [h.e]; exact ju) (by rw [h.e]; exact ju) h.r0 (h.pass hq) hx.w hx.n (by have:=hx.l; omega) hk eg (h.g.zF _ k tk (sK _) hk)
def HF.yM (h:HF M om rest n) (hL:L.length=M.ts.length) {fr:Bool}:sL ⟨L,M,"guest",true,0⟩ fr 0:=by
 have ju:=oO "guest" (by symm);obtain ⟨a0,da⟩:=adr hL h.r0;exact ⟨by rw [h.e]; exact ju,0,0,[],a0,_,by cases fr with | true=>exact .inl ⟨rfl,rfl⟩ | false=>exact .inr ⟨rfl,by rw [h.e]; exact ju⟩,da,h.r0,h.g.dB 0,⟨0,h.g.seen hL 0 0 _ (sK _) h.r0 .refl⟩,rfl⟩
def HF.fails (h:HF M om rest n) (hL:L.length=M.ts.length) {fr:Bool} {q:List (List Nat)} (hq:q∈[[cG],[cS],[cO,cF],[cS,cF],[cG,cG]]):∃ e hd r,q=hd::r/\ir ⟨L,M,"guest",true,0⟩ fr (q.map Tx.S++[("." : Str)]) e/\e.res=.failed (gg hd).1 (gg hd).2:=by
 obtain ⟨a0,da⟩:=adr hL h.r0;obtain ⟨a1,kC⟩:=adr hL h.r1;obtain ⟨a3,MX⟩:=adr hL h.r3;obtain ⟨a4,MK⟩:=adr hL h.r4;have LP:∀ {ps:List Str},ps.length<=10->∃ e,ir ⟨L,M,"guest",true,0⟩ fr (Tx.S cG::ps) e/\e.res=.failed (gg cG).1 (gg cG).2:=fun {ps} hl =>
  ⟨_,.told (h.yM hL) (by simp; omega) (.fail (l:=cq ps) jA (.go (t:=eR [(Tx.S cO,1),(Tx.S cK,2),(Tx.S cS,3)]) ⟨⟨a0,da⟩,h.r0,rfl,qi⟩ (by symm) (by symm) (by symm) (by symm) (.no (by symm)))),rfl⟩
 have N5:∀ {p:Str} {ps:List Str},ps.length<=10->∃ e,ir ⟨L,M,"guest",true,0⟩ fr (Tx.S cS::p::ps) e/\e.res=.failed (gg cS).1 (gg cS).2:=fun {p ps} hl =>
  ⟨_,.told (h.yM hL) (by simp; omega) (.step (l:=cq (p::ps)) jA (.go (t:=eR [(Tx.S cO,1),(Tx.S cK,2),(Tx.S cS,3)]) ⟨⟨a0,da⟩,h.r0,rfl,qi⟩ (by symm) (by symm) (by symm) (by symm) (.folder (k:=3) (by symm) MX h.r3 rfl (h.g.dB 3)))
   (.fail (l:=cq ps) jA (.uw MX h.r3 rfl (by rw [gX]; symm)))),rfl⟩
 have flat3:∃ e,ir ⟨L,M,"guest",true,0⟩ fr [Tx.S cO,Tx.S cF,"."] e/\e.res=.failed (gg cO).1 (gg cO).2 :=
  ⟨_,.told (h.yM hL) (by simp) (.step (l:=cq [Tx.S cF,"."]) jA (.go (t:=eR [(Tx.S cO,1),(Tx.S cK,2),(Tx.S cS,3)]) ⟨⟨a0,da⟩,h.r0,rfl,qi⟩ (by symm) (by symm) (by symm) (by symm) (.folder (k:=1) (by symm) kC h.r1 rfl (h.g.dB 1)))
   (.step (l:=cq ["."]) jA (.go (t:=fo "lgw" om cO) ⟨⟨a1,kC⟩,h.r1,rfl,by rw [gX]; symm⟩ (by symm) (by symm) (by symm) (by symm) (.fin (k:=4) h.f MK h.r4 (by symm) (.inl rfl)))
    (.fail (l:=cq []) jA (.flat MK h.r4 (by symm))))),rfl⟩
 simp only [mo,nn,xz] at hq;rcases hq with rfl | rfl | rfl | rfl | rfl
 ·obtain ⟨e,g,r⟩:=LP (ps:=["."]) (by simp);exact ⟨e,_,_,rfl,g,r⟩
 ·obtain ⟨e,g,r⟩:=N5 (p := ".") (ps:=[]) (by simp);exact ⟨e,_,_,rfl,g,r⟩
 ·obtain ⟨e,g,r⟩:=flat3;exact ⟨e,_,_,rfl,g,r⟩
 ·obtain ⟨e,g,r⟩:=N5 (p:=Tx.S cF) (ps:=["."]) (by simp);exact ⟨e,_,_,rfl,g,r⟩
 ·obtain ⟨e,g,r⟩:=LP (ps:=[Tx.S cG,"."]) (by simp);exact ⟨e,_,_,rfl,g,r⟩
end
inductive gY (M:Hs) (om:List (Str×Nat)) (g:Str->Bool) (t:List Nat):An->Prop
 | fD:g "dots" = true->gY M om g t (.cP "dots")
 | way {hd r}:g "dots" = false->g "way" = true->Tx.words 47 t=hd::r->gY M om g t (.way (gg hd).1 (gg hd).2)
 | kept:g "dots" = false->g "way" = false->g "kept" = true->gY M om g t (.cP "kept")
 | there {nm v}:g "dots" = false->g "way" = false->g "kept" = false->(Tx.cut 47 t).getLast?=some nm->isNm nm=true->aG (sD om) (.inr (Tx.S nm))=some v->gY M om g t (.cP "there")
 | told {nm}:g "dots" = false->g "way" = false->g "kept" = false->(Tx.cut 47 t).getLast?=some nm->isNm nm=true->aG (sD om) (.inr (Tx.S nm))=none->gY M om g t (.told M.ts.length)
def ik (M:Hs) (om:List (Str×Nat)) (rest:List Th) (nm:List Nat) (t:Th):Hs:=hM (T7 (om++[(Tx.S nm,M.ts.length)])++(rest++[t]))
def wc (T:Tx K mg) (H:Hp) (A:Ad) (L:List Ta) (M:Hs) (om:List (Str×Nat)) (rest:List Th) (n:Nat) (Q:VK) (E:XK):An->Prop
 | .w wd=>∀ C j,(j,wd,C)∈[(0,("asker" : Str),T.bY),(1,"path",T.bZ),(3,"rights",T.cb),(4,"text",T.cE)]->∀ H',ag H H'->E (.ref C) none H'
 | .cP y=>fS T.cn H E (.cP y)
 | .way k y=>fS T.cn H E (.way (.failed k y))
 | .told m=>m=M.ts.length/\∀ L' nm t H',t.ow=("guest" : Str)->HF (ik M om rest nm t) (om++[(Tx.S nm,M.ts.length)]) (rest++[t]) (n+1)->aE T.aH T.aL T.aU H' A L' (ik M om rest nm t)->c7 H H'->Q (.int (m:Int)) H'
section
variable {T:Tx K mg} {H:Hp} {A:Ad} {L:List Ta} {M:Hs} {om:List (Str×Nat)} {rest:List Th} {n:Nat} {g:Str->Bool} {t:List Nat} {Q:VK} {E:XK}
def HF.make (h:HF M om rest n) {nm:List Nat} {kd mi re tx:Str} (bT:isNm nm=true) (hv:aG (sD om) (.inr (Tx.S nm))=none) (hk:kd=("folder" : Str)\/kd=("file" : Str)\/kd=("lead" : Str)) (uZ:kd=("lead" : Str)->∃ tl,tx=Tx.S tl/\dj tl/\tl.length<=120) :
  { M with ts:=M.ts.set 1 { fo "lgw" om cO with aR:=(fo "lgw" om cO).aR++[(Tx.S nm,M.ts.length)] }++[⟨kd,"guest",mi,re,tx,[],[(1,Tx.S nm)]⟩] }=ik M om rest nm ⟨kd,"guest",mi,re,tx,[],[(1,Tx.S nm)]⟩/\HF (ik M om rest nm ⟨kd,"guest",mi,re,tx,[],[(1,Tx.S nm)]⟩) (om++[(Tx.S nm,M.ts.length)]) (rest++[⟨kd,"guest",mi,re,tx,[],[(1,Tx.S nm)]⟩]) (n+1):=by
 have g':=h.g.make (z := "guest") (mi:=mi) (re:=re) (tx:=tx) h.r1 rfl (by rw [Tx.cC]; exact (qh bT).2.2.2) hv hk uZ;have hn:=h.n;have e:({ M with ts:=M.ts.set 1 { fo "lgw" om cO with aR:=(fo "lgw" om cO).aR++[(Tx.S nm,M.ts.length)] }++[⟨kd,"guest",mi,re,tx,[],[(1,Tx.S nm)]⟩] }:Hs)=ik M om rest nm ⟨kd,"guest",mi,re,tx,[],[(1,Tx.S nm)]⟩:=by
  have h1:M.ts=T7 om++rest:=by rw [h.e]; rfl
  have h2:M.ro=iC/\M.st=iC/\M.tr=[(("main" : Str),0)]/\M.ov=[]/\M.un=[]:=by rw [h.e]; exact ⟨rfl,rfl,rfl,rfl,rfl⟩
  obtain ⟨a,b,c,d,e,f⟩:=M;obtain ⟨rfl,rfl,rfl,rfl,rfl⟩:=h2;dsimp only at h1;subst h1;unfold ik hM;dsimp only;rw [List.set_append_left _ _ (by decide:1 < 7),_w];rfl
 refine ⟨e,rfl,?_,by rw [<- e]; exact g',?_⟩
 ·have:=h.f;unfold aG sD at this ⊢;rw [Ev,List.find?_append];obtain ⟨kv,h1,h2⟩:=PP.mp this;rw [h1]
  simpa using h2
 ·rw [<- e];simp;omega
def HF.Dd (h:HF M om rest n) (i:aE T.aH T.aL T.aU H A L M) (hn:n<=55) (k:ly g t):dj t/\t.length<=100/\∃ a,gY M om g t a/\∀ {kd mi re tx:Str},mi∈dg->re∈dg->(kd=("folder" : Str)\/kd=("file" : Str)\/kd=("lead" : Str))->(kd=("lead" : Str)->∃ tl,tx=Tx.S tl/\dj tl/\tl.length<=120)->wc T H A L M om rest n Q E a->jR T.cn H A L M "guest" t kd mi re tx Q E:=by
 have hnn:=h.n;have hL:=i.len;have ro:M.ro=iC:=by rw [h.e]; rfl
 have st:M.st=iC:=by rw [h.e]; rfl
 have gu:("guest" : Str)∈AS:=by symm
 have yx:∀ {x:Sm} {nm:List Nat},nm∈fz->x∈gJ nm++jT++gT nm++gp nm->x.t.length<=100:=fun {x nm} bT hx=>by
  have H:(fz.all fun nm=>(gJ nm++jT++gT nm++gp nm).all fun x=>decide (x.t.length<=100))=true:=by symm
  exact LE (At.mp (At.mp H nm bT) x hx)
 have M7:∀ {x:Sm},wX x->x.t.length<=100->(x.q,1)∈[([cO],1),([cO,[46]],1),([cK,[46,46],cO],1),([cO,[46,46],cO],1),([cK],2),([cK,[46]],2),(([]:List (List Nat)),0)]->g "dots" = false->g "way" = false->g "kept" = false->dj x.t/\x.t.length<=100/\∃ a,gY M om g x.t a/\∀ {kd mi re tx:Str},mi∈dg->re∈dg->(kd=("folder" : Str)\/kd=("file" : Str)\/kd=("lead" : Str))->(kd=("lead" : Str)->∃ tl,tx=Tx.S tl/\dj tl/\tl.length<=120)->wc T H A L M om rest n Q E a->jR T.cn H A L M "guest" x.t kd mi re tx Q E:=fun {x} ok l hq h1 h2 h3=>by
  refine ⟨ok.p,l,?_⟩;obtain ⟨a1,kC⟩:=adr hL h.r1;cases hv:aG (sD om) (.inr (Tx.S x.nm)) with
  | some v =>
   obtain ⟨c,rfl⟩:=Dn hv;exact ⟨_,.there h1 h2 h3 ok.c ok.n hv,fun hm hr _ _ dp=>mkRef (x:=.cP "there") i h.g ro (by omega) gu ok.p (.there (c:=c) (h.jQ hL (by omega) ok hq h.r1 rfl) ok.n kC h.r1 (by rw [gX]; symm) hv) hm hr dp⟩
  | none =>
   refine ⟨_,.told h1 h2 h3 ok.c ok.n hv,fun {kd mi re tx} hm hr hk uZ dp=>?_⟩;refine CM i h.g ro st (by omega) gu h.r0 ok.p ok.w ok.n ok.l (h.pass hq) h.r1 rfl (by rw [gX]; symm) hv hm hr fun a' H' a0 da i' k'=>?_;obtain ⟨e,hf⟩:=h.make (mi:=mi) (re:=re) ok.n hv hk uZ;rw [e] at i';exact dp.2 _ x.nm _ H' rfl hf i' (i.off h.g.ne (fun b hb=>by
    simp only [mo,nn,xz] at hb;rcases hb with rfl | rfl | rfl
    ·simp [Ad.w]
    ·simp [Ad.w]
    ·exact wT _ (kI da (by simp [Ta.l]))) k')
 cases k with
 | fD h1 h2 =>
  obtain ⟨p,s⟩:=Pw h2;have H:(pV.all fun t=>decide (t.length<=100))=true:=by symm
  exact ⟨p,LE (At.mp H t h2),_,.fD h1,fun hm hr _ _ dp=>mkRef i h.g ro (by omega) gu p (.no (.fD s)) hm hr dp⟩
 | @way nm x h1 h2 h3 h4 e =>
  subst e;have ok:=xC h3 (wT _ h4);have hq:x.q∈[[cG],[cS],[cO,cF],[cS,cF],[cG,cG]]:=by
   simp only [gp,mo,nn,xz] at h4;rcases h4 with rfl | rfl | rfl | rfl | rfl <;> simp
  obtain ⟨e,hd,r,eq,go,er⟩:=h.fails hL (fr:=fh x.t) hq;have hw:Tx.words 47 x.t=hd::(r++[x.nm]):=by
   have H:(fz.all fun nm=>(gp nm).all fun x=>decide (Tx.words 47 x.t=x.q++[x.nm]))=true:=by symm
   have:=LE (At.mp (At.mp H nm h3) x h4);rw [this,eq]; rfl
  refine ⟨ok.p,yx h3 (wT _ h4),_,.way h1 h2 hw,fun hm hr _ _ dp=>mkRef i h.g ro (by omega) gu ok.p (.no (.way (q:=x.q) (nm:=x.nm) (.eQ ok.w ok.n) (by have:=ok.l; omega) go (fun k ns z=>by rw [er] at z; cases z))) hm hr (by rw [er]; exact dp)⟩
 | @kept nm x h1 h2 h3 h4 h5 e =>
  subst e;have ok:=xC h4 (Fr _ (wT _ h5));have l:=yx h4 (Fr (gp nm) (wT _ h5));refine ⟨ok.p,l,_,.kept h1 h2 h3,fun hm hr _ _ dp=>mkRef (x:=.cP "kept") i h.g ro (by omega) gu ok.p ?_ hm hr dp⟩;simp only [gT,mo,nn,xz] at h5;rcases h5 with rfl | rfl | rfl | rfl
  ·exact .kept (h.jQ hL (by omega) ok (k:=2) (by simp) h.r2 rfl) h.r2 (by rw [gX]; symm)
  ·exact .kept (h.jQ hL (by omega) ok (k:=2) (by simp) h.r2 rfl) h.r2 (by rw [gX]; symm)
  ·exact .kept (h.jQ hL (by omega) ok (k:=0) (by simp) h.r0 rfl) h.r0 gW0
  ·exact .kept (h.jQ hL (by omega) ok (k:=2) (by simp) h.r2 rfl) h.r2 (by rw [gX]; symm)
 | @there x h1 h2 h3 h4 h5 e =>
  subst e;have hm:[97]∈fz:=by decide
  have mx:x∈gJ [97]++jT++gT [97]++gp [97]:=Fr _ (Fr _ (wT _ h5));refine M7 (xC hm mx) (yx hm mx) ?_ h1 h2 h3;simp only [jT,mo,nn,xz] at h5;rcases h5 with rfl | rfl | rfl <;> simp
 | @ID nm x h1 h2 h3 h4 hm h5 e =>
  subst e;have mx:x∈gJ nm++jT++gT nm++gp nm:=Fr _ (Fr _ (Fr _ h5));refine M7 (xC hm mx) (yx hm mx) ?_ h1 h2 h3;simp only [gJ,mo,nn,xz] at h5;rcases h5 with rfl | rfl | rfl | rfl <;> simp
end
def gY.uniq {M:Hs} {om:List (Str×Nat)} {g:Str->Bool} {t:List Nat} {a b:An} (h:gY M om g t a) (h':gY M om g t b):a=b:=by
 cases h with
 | fD h1=>cases h' with
  | fD=>rfl
  | way k1=>rw [h1] at k1; cases k1
  | kept k1=>rw [h1] at k1; cases k1
  | there k1=>rw [h1] at k1; cases k1
  | told k1=>rw [h1] at k1; cases k1
 | way h1 h2 h3=>cases h' with
  | fD k1=>rw [h1] at k1; cases k1
  | way _ _ k3=>rw [h3] at k3; cases k3; rfl
  | kept _ k2=>rw [h2] at k2; cases k2
  | there _ k2=>rw [h2] at k2; cases k2
  | told _ k2=>rw [h2] at k2; cases k2
 | kept h1 h2 h3=>cases h' with
  | fD k1=>rw [h1] at k1; cases k1
  | way _ k2=>rw [h2] at k2; cases k2
  | kept=>rfl
  | there _ _ k3=>rw [h3] at k3; cases k3
  | told _ _ k3=>rw [h3] at k3; cases k3
 | there h1 h2 h3 h4 _ h6=>cases h' with
  | fD k1=>rw [h1] at k1; cases k1
  | way _ k2=>rw [h2] at k2; cases k2
  | kept _ _ k3=>rw [h3] at k3; cases k3
  | there=>rfl
  | told _ _ _ k4 _ k6=>rw [h4] at k4; cases k4; rw [h6] at k6; cases k6
 | told h1 h2 h3 h4 _ h6=>cases h' with
  | fD k1=>rw [h1] at k1; cases k1
  | way _ k2=>rw [h2] at k2; cases k2
  | kept _ _ k3=>rw [h3] at k3; cases k3
  | there _ _ _ k4 _ k6=>rw [h4] at k4; cases k4; rw [h6] at k6; cases k6
  | told=>rfl
structure oh (H:Hp) (M:Hs) (g:Str->Bool) (t:List Nat) (va vp vm vr vx vl:V):Prop where
 a1:g "asker" = true->(∃ ty,clsName H va=some ty)/\∀ z,va=.str z->aG (sD M.ro) (.inr z)=none
 a0:g "asker" = false->va=.str "guest"
 p1:g "path" = true->fQ H vp
 p0:g "path" = false->vp=.str (Tx.S t)
 r1:g "rights" = true->qP H vm vr
 r0:g "rights" = false->vm=.str "lgw" /\ vr=.str "l"
 x1:g "text" = true->(∃ ty,clsName H vx=some ty)/\ur vx=true
 x0:g "text" = false->∃ z,vx=.str z/\z.length<=60
 l1:g "lead" = true->la H vl
 l0:g "lead" = false->∃ tl,vl=.str (Tx.S tl)/\dj tl/\tl.length<=120
inductive Due (M:Hs) (om:List (Str×Nat)) (g:Str->Bool) (w:Nat) (t:List Nat):An->Prop
 | kb:g "asker" = true->Due M om g w t (.w "asker")
 | path:g "asker" = false->g "path" = true->Due M om g w t (.w "path")
 | lead:g "asker" = false->g "path" = false->w=2->g "lead" = true->Due M om g w t (.w "path")
 | wu:g "asker" = false->g "path" = false->w < 2->g "rights" = true->Due M om g w t (.w "rights")
 | text:g "asker" = false->g "path" = false->w=1->g "rights" = false->g "text" = true->Due M om g w t (.w "text")
 | eQ {a}:g "asker" = false->g "path" = false->(w=2->g "lead" = false)->(w < 2->g "rights" = false)->(w=1->g "text" = false)->gY M om g t a->Due M om g w t a
def FP (T:Tx K mg):Sp:=fun vs H Q E=>∃ A L M om rest n g t vm vr vx vl a va vp ml,∃ w:Nat,vs=[.ref A.a,.int (w:Int),va,vp,.ref ml]/\w<=2/\aE T.aH T.aL T.aU H A L M/\HF M om rest n/\n<=55/\ly g t/\H ml=some (.lst [vm,vr,vx,vl])/\oh H M g t va vp vm vr vx vl/\Due M om g w t a/\wc T H A L M om rest n Q E a
def ace:aA P w K mg base (bI P w) 16 T.qw.f T.qw.d ["_law_house_here","_law_way_here","_law_asker","_law_path","_law_more"] (FP T):=by
 have G_make_folder:=jc (vM (P:=P) (w:=w) (base:=base) T) (Qb (P:=P) (w:=w) (base:=base) T);have G_make_file:=jc (Ke (P:=P) (w:=w) (base:=base) T) (T8 (P:=P) (w:=w) (base:=base) T);have G_make_lead:=jc (abJ (P:=P) (w:=w) (base:=base) T) (OW (P:=P) (w:=w) (base:=base) T);refine T.qw.F.dJ VI (fun vs H Q E h=>?_) (fun ao A outer s H vs Q E hr h=>?_)
 ·obtain ⟨_,_,_,_,_,_,_,_,_,_,_,_,_,_,_,_,_,rfl,_⟩:=h;rfl
 ·obtain ⟨AA,L,M,om,rest,n,g,t,vm,vr,vx,vl,a,va,vp,ml,ww,rfl,hw2,i,hf,hn,sk,fA,cD,du,dp⟩:=h;refine bJ (b:=bb Cv) ((ad (aX (bB eZ (ac 1) am) (ai (aK (cL G_make_folder hr.m T.vY T.me.kp T.qS .nil bS (aa (ac 0) (aa (ac 2) (aa (ac 3) (aa (ci (bD (K:=K) rfl) (ac 4) am) (aa (ci (bD (K:=K) rfl) (ac 4) am) ae)))))))) bn)
   (ad (aX (bB eZ (ac 1) am) (ai (aK (cL G_make_file hr.m T.Gy T.pB.kp T.Cs .nil bS (aa (ac 0) (aa (ac 2) (aa (ac 3) (aa (ci (bD (K:=K) rfl) (ac 4) am) (aa (ci (bD (K:=K) rfl) (ac 4) am) (aa (ci (bD (K:=K) rfl) (ac 4) am) ae))))))))) bn)
   (ai (aK (cL G_make_lead hr.m T.kJ.m T.kJ.F.kp T.kJ.b .nil bS (aa (ac 0) (aa (ac 2) (aa (ac 3) (aa (ci (bD (K:=K) rfl) (ac 4) am) ae)))))))))) ?_
  refine stI [some (V.ref AA.a),some (V.int (ww:Int)),some va,some vp,some (V.ref ml)] ?_;have a0:dI [vm,vr,vx,vl] 0=some vm:=e8 _ _;have a1:dI [vm,vr,vx,vl] 1=some vr:=lC _ _ _;have a2:dI [vm,vr,vx,vl] 2=some vx:=zl _ _ _ _;have a3:dI [vm,vr,vx,vl] 3=some vl:=mK (j:=3) rfl;have ro:M.ro=iC:=by rw [hf.e]; rfl
  have xU:(aG (sD M.ro) (.inr ("guest" : Str))).isSome=true:=by rw [ro,oO _ (by symm)]; rfl
  have eQ:∀ {b:An} {Q':VK},gY M om g t b->Q'=Q->dj t/\∀ {kd mi re tx:Str},mi∈dg->re∈dg->(kd=("folder" : Str)\/kd=("file" : Str)\/kd=("lead" : Str))->(kd=("lead" : Str)->∃ tl,tx=Tx.S tl/\dj tl/\tl.length<=120)->wc T H AA L M om rest n Q E b->jR T.cn H AA L M "guest" t kd mi re tx Q E:=fun {b Q'} db _=>by
   obtain ⟨p,_,b',db',k⟩:=hf.Dd (T:=T) (Q:=Q) (E:=E) i hn sk;cases db.uniq db';exact ⟨p,fun h1 h2 h3 h4 h5=>k h1 h2 h3 h4 h5⟩
  have ptt:dj t:=(hf.Dd (T:=T) (Q:=Q) (E:=E) i hn sk).1;have good:g "asker" = false->g "path" = false->wm M va vp "guest" t:=fun h1 h2=>⟨cD.a0 h1,xU,cD.p0 h2,ptt⟩;have rl:("lgw" : Str)∈dg:=by symm
  have D6:("l" : Str)∈dg:=by symm
  have re:("" : Str)∈dg:=by symm
  right;by_cases h0:ww=0
  ·subst h0;refine dC (by decide) ?_;simp only [bj,fA,a0,a1];cases du with
   | kb h=>exact .inr ⟨AA,L,M,va,vp,vm,vr,T.bY,rfl,i,.inl (.kb (cD.a1 h).1 (cD.a1 h).2),dp _ 0 (by simp)⟩
   | path h h'=>exact .inr ⟨AA,L,M,va,vp,vm,vr,T.bZ,rfl,i,.inl (.path (cD.a0 h) xU (cD.p1 h')),dp _ 1 (by simp)⟩
   | lead _ _ e=>cases e
   | wu h h' _ h3=>exact .inr ⟨AA,L,M,va,vp,vm,vr,T.cb,rfl,i,.inr ⟨_,_,good h h',cD.r1 h3,rfl⟩,dp _ 3 (by simp)⟩
   | text _ _ e=>cases e
   | eQ h h' _ h3 _ ds =>
    obtain ⟨rfl,rfl⟩:=cD.r0 (h3 (by decide));obtain rfl:=cD.a0 h;obtain rfl:=cD.p0 h';exact .inl ⟨AA,L,M,t,rfl,(eQ ds rfl).2 rl D6 (.inl rfl) (fun e=>absurd e (by symm)) dp,rfl⟩
  refine cU (pc (by omega)) (ah ?_);left;by_cases h1:ww=1
  ·subst h1;refine dC (by decide) ?_;simp only [bj,fA,a0,a1,a2];cases du with
   | kb h=>exact .inr ⟨AA,L,M,va,vp,vx,vm,vr,T.bY,rfl,i,.inl (.kb (cD.a1 h).1 (cD.a1 h).2),dp _ 0 (by simp)⟩
   | path h h'=>exact .inr ⟨AA,L,M,va,vp,vx,vm,vr,T.bZ,rfl,i,.inl (.path (cD.a0 h) xU (cD.p1 h')),dp _ 1 (by simp)⟩
   | lead _ _ e=>cases e
   | wu h h' _ h3=>exact .inr ⟨AA,L,M,va,vp,vx,vm,vr,T.cb,rfl,i,.inr ⟨_,_,good h h',.inl ⟨cD.r1 h3,rfl⟩⟩,dp _ 3 (by simp)⟩
   | text h h' _ h3 h4=>exact .inr ⟨AA,L,M,va,vp,vx,vm,vr,T.cE,rfl,i,.inr ⟨_,_,good h h',.inr ⟨_,_,(cD.r0 h3).1,rl,(cD.r0 h3).2,D6,(cD.x1 h4).1,(cD.x1 h4).2,rfl⟩⟩,dp _ 4 (by simp)⟩
   | eQ h h' _ h3 h4 ds =>
    obtain ⟨rfl,rfl⟩:=cD.r0 (h3 (by decide));obtain rfl:=cD.a0 h;obtain rfl:=cD.p0 h';obtain ⟨z,rfl,hz⟩:=cD.x0 (h4 rfl);exact .inl ⟨AA,L,M,t,rfl,(eQ ds rfl).2 rl D6 (.inr (.inl rfl)) (fun e=>absurd e (by symm)) dp,rfl,hz⟩
  refine cU (pc (by omega)) ?_;have h2:ww=2:=by omega
  subst h2;simp only [bj,fA,a3];cases du with
  | kb h=>exact .inr ⟨AA,L,M,va,vp,vl,T.bY,rfl,i,.inl (.kb (cD.a1 h).1 (cD.a1 h).2),dp _ 0 (by simp)⟩
  | path h h'=>exact .inr ⟨AA,L,M,va,vp,vl,T.bZ,rfl,i,.inl (.path (cD.a0 h) xU (cD.p1 h')),dp _ 1 (by simp)⟩
  | lead h h' _ h3=>exact .inr ⟨AA,L,M,va,vp,vl,T.bZ,rfl,i,.inr ⟨_,_,good h h',cD.l1 h3,rfl⟩,dp _ 1 (by simp)⟩
  | wu _ _ e=>omega
  | text _ _ e=>cases e
  | eQ h h' h3 _ _ ds =>
   obtain rfl:=cD.a0 h;obtain rfl:=cD.p0 h';obtain ⟨tl,rfl,hp,hl⟩:=cD.l0 (h3 rfl);exact .inl ⟨AA,L,M,t,tl,rfl,rfl,(eQ ds rfl).2 re re (.inr (.inr rfl)) (fun _=>⟨tl,rfl,hp,hl⟩) dp,rfl,hp,hl⟩
def aam (T:Tx K mg):Sp:=fun vs H Q _=>∃ A L M om rest n g t fl b,∃ w:Nat,vs=[.ref A.a,.int (w:Int),.str (Tx.S t),.ref fl]/\aE T.aH T.aL T.aU H A L M/\HF M om rest n/\H fl=some (.dK (jd g FW))/\t.length<=100/\gY M om g t b/\w<=2/\∀ p a H',Due M om g w t a->ag H H'->fj H' p a->Q (.ref p) H'
def Hm (g:Str->Bool) (w:Nat):Nat->Prop
 | 0=>True
 | 1=>g "asker" = false
 | 2=>g "asker" = false/\g "path" = false
 | 3=>g "asker" = false/\g "path" = false/\(w=2->g "lead" = false)
 | 4=>g "asker" = false/\g "path" = false/\(w=2->g "lead" = false)/\(w < 2->g "rights" = false)
 | _=>g "asker" = false/\g "path" = false/\(w=2->g "lead" = false)/\(w < 2->g "rights" = false)/\(w=1->g "text" = false)
def VY:T.qF.k P w base 5 (aam T):=by
 refine T.qF.F.ok C2 (fun vs H Q E h=>?_) (fun ao A outer s H vs Q E hr h=>?_)
 ·obtain ⟨_,_,_,_,_,_,_,_,_,_,_,rfl,_⟩:=h;rfl
 ·obtain ⟨AA,L,M,om,rest,n,g,t,fl,b,ww,rfl,i,hf,aY,tl,ds,hw2,q⟩:=h;refine bJ (b:=bb AU) ((ad (xu WF rfl (jV (K:=K) rfl (cr (aa al (aa al (aa al (aa al (aa al ae))))))) (gq 4 C2.nd) (ai (aX (fF (kt (bO (fH (dh hr) (ac 3) (ac 4))) (kt (fF (ii (bB iG (ac 4) al) (iF (bB eZ (ac 1) am)))) (sr (fF (ii (bB iG (ac 4) al) (iF (bB CP (ac 1) am)))))))) (ai (aX (fF (ii (bB iG (ac 4) al) (iF (bB eZ (ac 1) am)))) (ai (aK (em (aa (ci (bD (K:=K) rfl) (cr (aa al (aa (ac 4) ae))) (wV P8 T.FQ Fz (aa (gl iG (ac 4) al) ae))) (aa aw ae))))) bn)) bn)))
   (ad (aX (bO (fH (dh hr) (ac 3) al)) (ai (aK (em (aa al (aa al ae))))) bn)
   (ad (aX (bO (fH (dh hr) (ac 3) al)) (ai (aK (em (aa al (aa (bi (VW T) hr.m T.rj.m T.rj.F.kp T.rj.b .nil az (aa (ac 2) ae)) ae))))) bn)
   (ad (aX (bO (fH (dh hr) (ac 3) al)) (ai (aK (em (aa al (aa al ae))))) bn)
   (ad (aP 5 C2.nd (kF _q _r vN (ac 2) (aa al ae)))
   (ad (aX (bB CK (bw T.aO T.kS.h (zW T) hr.m T.kS.b .nil az (ac 0) (aa am (aa (ci (bD (K:=K) rfl) (ac 5) (io mR am)) ae))) aw) (ai (aK (em (aa al (aa al ae))))) bn)
   (ai (aK (em (aa al (aa (my T.aO T.jh.h (xh T) hr.m T.jh.b .nil az (ac 0)) ae)))))))))))) ?_
  refine stI [some (V.ref AA.a),some (V.int (ww:Int)),some (V.str (Tx.S t)),some (V.ref fl),none,none] ?_;refine ck (fun σ' H'=>ag H H'/\Hm g ww 5/\∃ t1,σ'=[some (V.ref AA.a),some (V.int (ww:Int)),some (V.str (Tx.S t)),some (V.ref fl),t1,none]) ?_ ?_
  ·left;refine ⟨fits (by simp),fun p hp=>⟨⟨_,aD.of au⟩,?_⟩⟩;refine eY hp fun H1 s1 b1=>?_;have f1:=s1 _ _ aY;refine wI (xs:=[V.str "asker",V.str "path",V.str "lead",V.str "rights",V.str "text"]) (fun i σ' H'=>H'=H1/\Hm g ww i/\∃ t1,σ'=[some (V.ref AA.a),some (V.int (ww:Int)),some (V.str (Tx.S t)),some (V.ref fl),t1,none]) ⟨rfl,trivial,_,rfl⟩ (fun i σ' H' _ h=>by rw [h.1]; exact aD.of b1) ?_ (fun σ' H' h=>⟨by rw [h.1]; exact s1,h.2.1,h.2.2⟩);rintro i x σ' H' hx ⟨rfl,nf,t1,rfl⟩;have T1:∀ {x y:Str} {X Y:Prop},x≠y->X->(if (!decide (x=y))=true then X else Y):=fun h k=>by rw [AC (by rw [pc h]; rfl)]; exact k
   have F1:∀ {x:Str} {X Y:Prop},Y->(if (!decide (x=x))=true then X else Y):=fun k=>by rw [xL (by simp)]; exact k
   match i,hx with
   | 0,hx =>
    cases hx;left;refine ⟨fl,_,rfl,eh f1 (by symm),?_⟩;cases hg:g "asker" with
    | false=>exact aQ ⟨rfl,hg,_,rfl⟩
    | true =>
     refine aV (T1 (by symm) (aV (T1 (by symm) (aV (T1 (by symm) (aV ?_))))));refine ⟨fits (by simp),fun p2 cg=>?_⟩;simp only [bj,au];rw [AC (by symm)];rw [lC];exact ⟨fits (by simp),fun p3 ee=>q _ _ _ (.kb hg) (s1.trans ((ag.upd cg).trans (ag.upd ee))) au⟩
   | 1,hx =>
    cases hx;left;refine ⟨fl,_,rfl,eh f1 (by symm),?_⟩;cases hg:g "path" with
    | false=>exact aQ ⟨rfl,⟨nf,hg⟩,_,rfl⟩
    | true =>
     refine aV (T1 (by symm) (aV (T1 (by symm) (aV (T1 (by symm) (aV ?_))))));refine ⟨fits (by simp),fun p2 cg=>?_⟩;simp only [bj,au];rw [AC (by symm)];rw [lC];exact ⟨fits (by simp),fun p3 ee=>q _ _ _ (.path nf hg) (s1.trans ((ag.upd cg).trans (ag.upd ee))) au⟩
   | 2,hx =>
    cases hx;left;refine ⟨fl,_,rfl,eh f1 (by symm),?_⟩;cases hg:g "lead" with
    | false=>exact aQ ⟨rfl,⟨nf.1,nf.2,fun _=>hg⟩,_,rfl⟩
    | true =>
     refine aV (F1 ?_);by_cases h2:ww=2
     ·refine dC (wP (by omega)) (T1 (by symm) (aV (T1 (by symm) (aV ?_))));refine ⟨fits (by simp),fun p2 cg=>?_⟩;simp only [bj,au];rw [xL (by symm)];rw [e8];exact ⟨fits (by simp),fun p3 ee=>q _ _ _ (.lead nf.1 nf.2 h2 hg) (s1.trans ((ag.upd cg).trans (ag.upd ee))) au⟩
     ·exact cU (pc (by omega)) ⟨rfl,⟨nf.1,nf.2,fun e=>absurd e h2⟩,_,rfl⟩
   | 3,hx =>
    cases hx;left;refine ⟨fl,_,rfl,eh f1 (by symm),?_⟩;cases hg:g "rights" with
    | false=>exact aQ ⟨rfl,⟨nf.1,nf.2.1,nf.2.2,fun _=>hg⟩,_,rfl⟩
    | true =>
     refine aV (T1 (by symm) (aV (F1 ?_)));by_cases h2:ww < 2
     ·refine dC (wP (by omega)) (T1 (by symm) (aV ?_));refine ⟨fits (by simp),fun p2 cg=>?_⟩;simp only [bj,au];rw [AC (by symm)];rw [lC];exact ⟨fits (by simp),fun p3 ee=>q _ _ _ (.wu nf.1 nf.2.1 h2 hg) (s1.trans ((ag.upd cg).trans (ag.upd ee))) au⟩
     ·exact cU (pc (by omega)) ⟨rfl,⟨nf.1,nf.2.1,nf.2.2,fun e=>absurd e h2⟩,_,rfl⟩
   | 4,hx =>
    cases hx;left;refine ⟨fl,_,rfl,eh f1 (by symm),?_⟩;cases hg:g "text" with
    | false=>exact aQ ⟨rfl,⟨nf.1,nf.2.1,nf.2.2.1,nf.2.2.2,fun _=>hg⟩,_,rfl⟩
    | true =>
     refine aV (T1 (by symm) (aV (T1 (by symm) (aV (F1 ?_)))));by_cases h2:ww=1
     ·refine dC (wP (by omega)) ?_;refine ⟨fits (by simp),fun p2 cg=>?_⟩;simp only [bj,au];rw [AC (by symm)];rw [lC];exact ⟨fits (by simp),fun p3 ee=>q _ _ _ (.text nf.1 nf.2.1 h2 (nf.2.2.2 (by omega)) hg) (s1.trans ((ag.upd cg).trans (ag.upd ee))) au⟩
     ·exact cU (pc (by omega)) ⟨rfl,⟨nf.1,nf.2.1,nf.2.2.1,nf.2.2.2,fun e=>absurd e h2⟩,_,rfl⟩
   | n+5,hx=>cases hx
  ·rintro σ' H1 ⟨s1,nf,t1,rfl⟩;have f1:=s1 _ _ aY;have lY:Str.ofString "/" = Tx.S [47]:=by symm
   have ib:=Tx.sW 47 t;have eQ:Due M om g ww t b:=.eQ nf.1 nf.2.1 nf.2.2.1 nf.2.2.2.1 nf.2.2.2.2 ds;right;refine ⟨fl,_,rfl,eh f1 (by symm),?_⟩;cases ds with
   | fD h1 =>
    rw [h1];exact aV ⟨fits (by simp),fun p hp=>q _ _ _ eQ (s1.trans (ag.upd hp)) au⟩
   | way h1 h2 hw =>
    rw [h1];refine aQ (ah ?_);left;refine ⟨fl,_,rfl,eh f1 (by symm),?_⟩;rw [h2];refine aV ⟨t,_,_,rfl,tl,hw,fun p H2 s2 hp=>⟨fits (by simp),fun p2 cg=>q _ _ _ eQ ((s1.trans s2).trans (ag.upd cg)) ⟨p,au,(ag.upd cg) _ _ hp⟩⟩⟩
   | kept h1 h2 h3 =>
    rw [h1];refine aQ (ah ?_);left;refine ⟨fl,_,rfl,eh f1 (by symm),?_⟩;rw [h2];refine aQ (ah ?_);left;refine ⟨fl,_,rfl,eh f1 (by symm),?_⟩;rw [h3];exact aV ⟨fits (by simp),fun p hp=>q _ _ _ eQ (s1.trans (ag.upd hp)) au⟩
   | @there nm _ h1 h2 h3 hc hn hv =>
    rw [h1];refine aQ (ah ?_);left;refine ⟨fl,_,rfl,eh f1 (by symm),?_⟩;rw [h2];refine aQ (ah ?_);left;refine ⟨fl,_,rfl,eh f1 (by symm),?_⟩;rw [h3];refine aQ (ah ?_);left;simp only [lY];refine ⟨rfl,by rw [Tx.cC]; exact fits (by omega),?_,fun l hl=>?_⟩
    ·rw [Tx.rf,Tx.ji,Tx.qe,Tx.md,pp];exact fits (by omega)
    rw [Tx.uz t 47 (by decide)];obtain ⟨dl,ec⟩:=List.getLast?_eq_some_iff.mp hc;rw [ec];have s2:=s1.trans (ag.upd (o:=.lst (((dl++[nm]).map Tx.S).map V.str)) hl);have b2:upd H1 l (.lst (((dl++[nm]).map Tx.S).map V.str)) l=some (.lst (((dl++[nm]).map Tx.S).map V.str)):=au;generalize upd H1 l (.lst (((dl++[nm]).map Tx.S).map V.str))=H2 at s2 b2 ⊢;have i2:=i.same s2;obtain ⟨fX,gc,gh,f6,bP⟩:=i2.h;obtain ⟨a1,kC⟩:=adr i.len hf.r1;right;refine .mk AA.a _ _ rfl gh ((bP _).trans rfl) ?_;simp only [bj,b2];rw [Ev,Ev,Ch,Tk,Ch,Tk,mF];refine ⟨AA,L,M,1,a1,_,i2,rfl,rfl,kC,hf.r1,ua hn,by rw [Tx.cC]; have:=(qh hn).2.2.2; omega,fun H3 s3=>⟨by trivial,?_⟩⟩;rw [show (fo "lgw" om cO).aR=om from rfl,hv];obtain ⟨c,rfl⟩:=Dn hv;exact dC (by simp) ⟨fits (by simp),fun p hp=>q _ _ _ eQ ((s2.trans s3).trans (ag.upd hp)) au⟩
   | @told nm h1 h2 h3 hc hn hv =>
    rw [h1];refine aQ (ah ?_);left;refine ⟨fl,_,rfl,eh f1 (by symm),?_⟩;rw [h2];refine aQ (ah ?_);left;refine ⟨fl,_,rfl,eh f1 (by symm),?_⟩;rw [h3];refine aQ (ah ?_);left;simp only [lY];refine ⟨rfl,by rw [Tx.cC]; exact fits (by omega),?_,fun l hl=>?_⟩
    ·rw [Tx.rf,Tx.ji,Tx.qe,Tx.md,pp];exact fits (by omega)
    rw [Tx.uz t 47 (by decide)];obtain ⟨dl,ec⟩:=List.getLast?_eq_some_iff.mp hc;rw [ec];have s2:=s1.trans (ag.upd (o:=.lst (((dl++[nm]).map Tx.S).map V.str)) hl);have b2:upd H1 l (.lst (((dl++[nm]).map Tx.S).map V.str)) l=some (.lst (((dl++[nm]).map Tx.S).map V.str)):=au;generalize upd H1 l (.lst (((dl++[nm]).map Tx.S).map V.str))=H2 at s2 b2 ⊢;have i2:=i.same s2;obtain ⟨fX,gc,gh,f6,bP⟩:=i2.h;obtain ⟨a1,kC⟩:=adr i.len hf.r1;right;refine .mk AA.a _ _ rfl gh ((bP _).trans rfl) ?_;simp only [bj,b2];rw [Ev,Ev,Ch,Tk,Ch,Tk,mF];refine ⟨AA,L,M,1,a1,_,i2,rfl,rfl,kC,hf.r1,ua hn,by rw [Tx.cC]; have:=(qh hn).2.2.2; omega,fun H3 s3=>⟨by trivial,?_⟩⟩;rw [show (fo "lgw" om cO).aR=om from rfl,hv];refine cU (by simp) ?_;have i3:=i.same (s2.trans s3);obtain ⟨gfs3,gc3,gh3,ghl3,gsf3⟩:=i3.h;refine .mk AA.a _ _ rfl gh3 ((gsf3 _).trans rfl) ⟨AA,L,M,i3,rfl,⟨fits (by simp),fun p hp=>q _ _ _ eQ ((s2.trans s3).trans (ag.upd hp)) au⟩⟩
def PK:Stmt->Expr
 | .If _ (.Return (some (.Call _ (e::_) _ _)) _::_) _ _=>e
 | .Return (some (.Call _ (e::_) _ _)) _=>e
 | .Assign _ (.Call _ (e::_) _ _) _=>e
 | .Assign _ (.List (.Call _ (e::_) _ _::_) _) _=>e
 | .Expr (.Call _ (.Call _ (e::_) _ _::_) _ _) _=>e
 | _=>.Constant .none 0 ⟨0,0,0,0⟩
def xt:Expr->Scope
 | .Lambda _ _ sc _=>sc
 | _=>aB sF
def OE:Expr->Arguments
 | .Lambda a _ _ _=>a
 | _=>fm sF
def aaJ:Expr->Expr
 | .Lambda _ b _ _=>b
 | e=>e
abbrev LH:List Str:=["_law_house_here","_law_source_here","_law_words","_law_faults","_law_way_here","_law_asker","_law_path","_law_good","_law_mine","_law_rest","_law_lead","_law_text","_law_due_here","_law_many","_law_names","_law_found"]
abbrev iI:Str := "_law_right.<locals>.<lambda>"
abbrev xG (k:Nat):Expr:=PK ((bb qW).getD k (.Pass ⟨0,0,0,0⟩))
abbrev xj (n:Nat):List (Str×Addr):=[("_law_way_here",n+9),("_law_text",n+8),("_law_rest",n+7),("_law_path",n+6),("_law_mine",n+5),("_law_lead",n+4),("_law_house_here",n+1),("_law_asker",n+3)]
section
variable {f c Pt:Addr} {ao:Value} {A:Around} {outer:List Env} {s:Shared} {H:Hp} {E:XK}
def W8 (hc:ao=.ref c) (C:PySem.W.CodeHd base c Pt) (hb:base.BuiltinsAt mg Pt):wC (en (bI P w) P w K mg base LH "_law_right" (aB qW) f ao A outer s H E) Pt (OE (xG 18)) (xt (xG 18)) (xj s.heap.objs.size) iI:=⟨rfl,rfl,⟨c,hc,C⟩,hb,by kernel_rfl⟩
def X0 (n:Nat):qR ["_law_house_here","_law_way_here","_law_asker","_law_path","_law_mine","_law_rest","_law_text","_law_lead"] (xt (xG 18)) (xj n):=.of rfl rfl rfl (by symm) (by symm) ⟨fun _=>⟨_,rfl⟩,fun _=>⟨_,rfl⟩,fun _=>⟨_,rfl⟩,fun _=>⟨_,rfl⟩,fun _=>⟨_,rfl⟩,fun _=>⟨_,rfl⟩,fun _=>⟨_,rfl⟩,fun _=>⟨_,rfl⟩,(fun z=>nomatch z),trivial⟩ (by simp)
def O2:sy (en (bI P w) P w K mg base LH "_law_right" (aB qW) f ao A outer s H E) ["_law_house_here","_law_way_here","_law_asker","_law_path","_law_mine","_law_rest","_law_text","_law_lead"] [0,4,5,6,8,9,11,10] (xj s.heap.objs.size):=.of rfl rfl ⟨⟨rfl,rfl,rfl⟩,⟨rfl,rfl,rfl⟩,⟨rfl,rfl,rfl⟩,⟨rfl,rfl,rfl⟩,⟨rfl,rfl,rfl⟩,⟨rfl,rfl,rfl⟩,⟨rfl,rfl,rfl⟩,⟨rfl,rfl,rfl⟩,trivial⟩ ⟨rfl,rfl,rfl,rfl,rfl,rfl,rfl,rfl,trivial⟩
end
abbrev Qw (P:Program) (w:World) (K:ν) (mg:Str->Option Value) (base:Heap) (N:List Str) (q:Str) (e:Expr) (cl:List (Str×Addr)) (W:List V->fg):Prop:=∀ (f:Addr) (ao:Value) (vs:List V) (A:Around) (outer:List Env) (s:Shared) (H:Hp) (Q:VK) (E:XK),bf 16 (A.deeper (PySem.W.envX q (xt e) s.heap.objs.size f ao cl))->W vs H Q E->∃ t,PE (mB P w K mg base N q (xt e) f ao cl A outer s H E) (aaJ e) t/\t (vs.map some) H Q
section
variable {st:Addr} {H H':Hp}
def vL {v:V} {ty:String} (d:Dr st H) (d':Dr st H') (k:cJ st H H') (h:clsName H v=some ty):clsName H' v=some ty:=by
 cases v with
 | ref p =>
  by_cases e:p=st
  ·subst e;obtain ⟨x,y,z,e⟩:=d;obtain ⟨x',y',z',e'⟩:=d';rw [qA e] at h;rw [qA e']; exact h
  ·unfold clsName at h ⊢;dsimp only at h ⊢;cases ho:H p with
   | none=>rw [ho] at h; cases h
   | some o =>
    rw [k _ _ e ho];rw [ho] at h;exact h
 | _=>exact h
def GY {v:V} (d:Dr st H) (d':Dr st H') (k:cJ st H H') (h:fQ H v):fQ H' v:=by
 cases v with
 | str z=>exact h
 | _=>obtain ⟨ty,h⟩:=h; exact ⟨ty,vL d d' k h⟩
def acE {v:V} (d:Dr st H) (d':Dr st H') (k:cJ st H H') (h:la H v):la H' v:=h.imp (GY d d' k) id
end
def abr {K:ν} {l:Addr} {xs:List V} {te:TE} {H:Hp} {Q:VK} {vs:List V} (W:Nat->List V->Hp->Prop) (hz:xs.length<=1000) (w0:W 0 [] H) (wl:∀ i ys H1,W i ys H1->ys.length=i) (ws:∀ i ys H1,W i ys H1->aD K H1 l xs)
  (he:∀ k x ys H1,xs[k]?=some x->W k ys H1->∀ R:VK,(∀ z H2,W (k+1) (ys++[z]) H2->R z H2)->te (some x::vs.map some) H1 R)
  (q:∀ ys H1 l',W xs.length ys H1->H1 l'=none->Q (.ref l') (upd H1 l' (.lst ys))):oF (lF K l) 1 vs (fE 0) jg te Q H:=by
 have hsz:xs.length<=sizeLine:=fits hz;refine ⟨fun i zs k H1=>W i zs H1/\i<=xs.length/\k=xs.length - i,⟨_,w0,Cl _,rfl⟩,?_⟩;rintro i zs k H1 ⟨hw,hi,rfl⟩;have hlen:=wl _ _ _ hw;have hs:=ws _ _ _ hw;refine ⟨by omega,?_⟩;by_cases h:i < xs.length
 ·have hx:xs[i]?=some xs[i]:=ss h;refine .inr ⟨⟨xs,xs[i],hs,hx⟩,by omega,?_⟩;rintro y H' ⟨rfl,hy⟩ σ0 hσ0;obtain ⟨a,rfl⟩:=xi hσ0;have yf:=hy xs hs;refine ⟨⟨[some y],rfl,rfl⟩,?_⟩;show jg _ _ _;unfold jg;dsimp only;rw [AC rfl];exact he i y zs _ yf hw _ fun z H3 x=>⟨xs.length - (i+1),by omega,x,h,rfl⟩
 ·have e:i=xs.length:=by omega
  subst e;exact .inl ⟨⟨xs,hs,sK _⟩,fun l' hl'=>q _ _ _ hw hl'⟩
def JS:∀ (L:List Str),L.Nodup->∀ bs:List Bool,bs.length=L.length->∃ g:Str->Bool,L.map g=bs
 | [],_,[],_=>⟨fun _=>false,rfl⟩
 | x::r,nd,b::bs,h=>by
  obtain ⟨g,hg⟩:=JS r (Do.mp nd).2 bs (by simpa using h);refine ⟨fun z=>if z=x then b else g z,?_⟩;rw [Ch,AC rfl,<- hg]
  congr 1
  refine List.map_congr_left fun z hz=>xL fun (e:z=x)=>(Do.mp nd).1 (e ▸ hz)
def abF:FW.Nodup:=by symm
structure RJ (T:Tx K mg) (st fl:Addr) (H0:Hp) (A:Ad) (L:List Ta) (M:Hs) (om:List (Str×Nat)) (rest:List Th) (n:Nat) (g:Str->Bool) (H:Hp):Prop where
 i:aE T.aH T.aL T.aU H A L M
 h:HF M om rest n
 d:Dr st H
 f:H fl=some (.dK (jd g FW))
 k:nE st H0 H
section
variable {T:Tx K mg} {st fl:Addr} {H0 H H':Hp} {A:Ad} {L:List Ta} {M:Hs} {om:List (Str×Nat)} {rest:List Th} {n:Nat} {g:Str->Bool}
def RJ.same (j:RJ T st fl H0 A L M om rest n g H) (s:ag H H'):RJ T st fl H0 A L M om rest n g H':=⟨j.i.same s,j.h,j.d.same s,s _ _ j.f,j.k.trans (c7.of s).l⟩
def RJ.drawn (j:RJ T st fl H0 A L M om rest n g H) (d':Dr st H') (k:cJ st H H'):RJ T st fl H0 A L M om rest n g H':=⟨j.i.drawn j.h.g.ne j.d k,j.h,d',k _ _ (fun z=>by obtain ⟨_,_,_,d⟩:=j.d; have:=j.f; rw [z,d] at this; cases this) j.f,j.k.trans fun c o n _ e=>k c o n e⟩
end
structure n6 (H:Hp) (M:Hs) (g:Str->Bool) (t:List Nat) (va vp:V):Prop where
 a1:g "asker" = true->(∃ ty,clsName H va=some ty)/\∀ z,va=.str z->aG (sD M.ro) (.inr z)=none
 a0:g "asker" = false->va=.str "guest"
 p1:g "path" = true->fQ H vp
 p0:g "path" = false->vp=.str (Tx.S t)
structure pE (H:Hp) (g:Str->Bool) (vm vr:V):Prop where
 r1:g "rights" = true->qP H vm vr
 r0:g "rights" = false->vm=.str "lgw" /\ vr=.str "l"
structure tK (H:Hp) (g:Str->Bool) (vl:V):Prop where
 l1:g "lead" = true->la H vl
 l0:g "lead" = false->∃ tl,vl=.str (Tx.S tl)/\dj tl/\tl.length<=120
structure XQ (H:Hp) (g:Str->Bool) (vx:V):Prop where
 x1:g "text" = true->(∃ ty,clsName H vx=some ty)/\ur vx=true
 x0:g "text" = false->∃ z,vx=.str z/\z.length<=60
section
variable {st:Addr} {H H':Hp} {M:Hs} {g:Str->Bool} {t:List Nat} {va vp vm vr vl vx:V}
def vT (d:Dr st H) (d':Dr st H') (k:cJ st H H') {v:V} (h:∃ ty,clsName H v=some ty):∃ ty,clsName H' v=some ty:=let ⟨ty,h⟩:=h; ⟨ty,vL d d' k h⟩
def n6.keep (h:n6 H M g t va vp) (d:Dr st H) (d':Dr st H') (k:cJ st H H'):n6 H' M g t va vp:=⟨fun e=>⟨vT d d' k (h.a1 e).1,(h.a1 e).2⟩,h.a0,fun e=>GY d d' k (h.p1 e),h.p0⟩
def pE.keep (h:pE H g vm vr) (d:Dr st H) (d':Dr st H') (k:cJ st H H'):pE H' g vm vr:=⟨fun e=>match h.r1 e with
 | .qM c b=>.qM (vT d d' k c) b
 | .rest a b c e=>.rest a b (vT d d' k c) e,h.r0⟩
def tK.keep (h:tK H g vl) (d:Dr st H) (d':Dr st H') (k:cJ st H H'):tK H' g vl:=⟨fun e=>acE d d' k (h.l1 e),h.l0⟩
def oh.of (a:n6 H M g t va vp) (r:pE H g vm vr) (x:XQ H g vx) (l:tK H g vl):oh H M g t va vp vm vr vx vl:=⟨a.a1,a.a0,a.p1,a.p0,r.r1,r.r0,x.x1,x.x0,l.l1,l.l0⟩
end
def aa0 {H H':Hp} (k:NX H H') {v:V} {ty:String} (h:clsName H v=some ty):clsName H' v=some ty:=by
 cases v with
 | ref p =>
  unfold clsName at h ⊢;dsimp only at h ⊢;cases ho:H p with
  | none=>rw [ho] at h; cases h
  | some o =>
   rw [ho] at h;rw [k p o (fun φ e=>by subst e; cases h) ho];exact h
 | _=>exact h
def HA {H H':Hp} (c:∀ {v:V} {ty:String},clsName H v=some ty->clsName H' v=some ty) {v:V} (h:fQ H v):fQ H' v:=by
 cases v with
 | str z=>exact h
 | _=>obtain ⟨ty,h⟩:=h; exact ⟨ty,c h⟩
def oh.mono {H H':Hp} {M:Hs} {g:Str->Bool} {t:List Nat} {va vp vm vr vx vl:V} (h:oh H M g t va vp vm vr vx vl) (c:∀ {v:V} {ty:String},clsName H v=some ty->clsName H' v=some ty):oh H' M g t va vp vm vr vx vl:=by
 have c1:∀ {v:V},(∃ ty,clsName H v=some ty)->∃ ty,clsName H' v=some ty:=fun ⟨ty,h⟩=>⟨ty,c h⟩;exact ⟨fun e=>⟨c1 (h.a1 e).1,(h.a1 e).2⟩,h.a0,fun e=>HA c (h.p1 e),h.p0,fun e=>match h.r1 e with
  | .qM a b=>.qM (c1 a) b
  | .rest a b d e=>.rest a b (c1 d) e,h.r0,fun e=>⟨c1 (h.x1 e).1,(h.x1 e).2⟩,h.x0,fun e=>(h.l1 e).imp (HA c) id,h.l0⟩
def fj.nx {H H':Hp} (k:NX H H') {p:Addr} {a:An} (h:fj H p a):fj H' p a:=by
 cases a with
 | w=>exact k _ _ nofun h
 | cP=>exact k _ _ nofun h
 | way=>obtain ⟨q,a,b⟩:=h; exact ⟨q,k _ _ nofun a,k _ _ nofun b⟩
 | told=>exact k _ _ nofun h
def jC (M:Hs) (H:Hp) (ys:List V) (n:Nat):Prop:=ys.length=n/\∀ (j:Nat) (y:V),ys[j]?=some y->∃ a tj,y=.ref a/\M.ts[j]?=some tj/\H a=some (.lst ((gG (tj.aR.map (·.1))).map V.str))
def jC.nx {M:Hs} {H H':Hp} {ys:List V} {n:Nat} (h:jC M H ys n) (k:NX H H'):jC M H' ys n:=⟨h.1,fun j y hy=>let ⟨a,tj,e1,e2,e3⟩:=h.2 j y hy; ⟨a,tj,e1,e2,k _ _ nofun e3⟩⟩
def si {H H':Hp} (s:ag H H'):NX H H':=fun b o _ e=>s b o e
def jC.de {M:Hs} {H:Hp} {ys zs:List V} {n:Nat} (h:jC M H ys n) (h':jC M H zs n):ys.length=zs.length/\∀ i (h1:i < ys.length) (h2:i < zs.length),DE K H 4 ys[i] zs[i]:=by
 refine ⟨h.1.trans h'.1.symm,fun i h1 h2=>?_⟩;obtain ⟨a,tj,e1,e2,e3⟩:=h.2 i _ (ss h1);obtain ⟨b,tj',f1,f2,f3⟩:=h'.2 i _ (ss h2);rw [e2] at f2; cases f2;exact .inr ⟨a,b,_,_,e1,f1,.inl ⟨aD.of e3,aD.of f3⟩,rfl,tN (At.mpr fun x hx=>by obtain ⟨z,_,rfl⟩:=EQ.mp hx; rfl)⟩
def aaZ (T:Tx K mg) (Pe:Addr):Sp:=fun vs H Q _=>∃ A L M om rest n st es,vs=[.ref A.a,.ref st]/\aE T.aH T.aL T.aU H A L M/\HF M om rest n/\n<=54/\Dr st H/\fc H Pe iI es/\∀ L' M' om' rest' es' H',aE T.aH T.aL T.aU H' A L' M'->HF M' om' rest' (n+1)->fc H' Pe iI es'->(∀ c o,c≠st->c≠Pe->kc o->H c=some o->H' c=some o)->Q (.bl true) H'
def Kn (T:Tx K mg):List V->fg
 | [h,wy,a,p,m,r,x,l]=>fun H Q E=>∀ ml,H ml=none->FP T [h,wy,a,p,.ref ml] (upd H ml (.lst [m,r,x,l])) Q E
 | _=>fun _ _ _=>False
def XA {Pe:Addr} (C:PySem.W.CodeHd base T.oW Pe) (E2:base.BuiltinsAt mg Pe):aA P w K mg base (bI P w) 19 T.D4 T.yq ["_law_house_here","_law_source_here"] (aaZ T Pe):=by
 refine T.w9.okC eJ (fun vs H Q E h=>?_) (fun ao A outer s H vs Q E bQ hr h=>?_)
 ·obtain ⟨_,_,_,_,_,_,_,_,rfl,_⟩:=h;rfl
 ·obtain ⟨AA,L,M,om,rest,n,st,es,rfl,i,hf,hn,aM,tab,q⟩:=h;have hst0:=aM;have LB_l_right:Qw P w K mg base ["_law_house_here","_law_way_here","_law_asker","_law_path","_law_mine","_law_rest","_law_text","_law_lead"] iI (xG 18) (xj s.heap.objs.size) (Kn T):=by
   intro f ao vs A outer s' H Q E hr hw;unfold Kn at hw;split at hw
   ·refine ⟨_,(cL (ace T) hr.m T.qw.m T.qw.F.kp T.qw.b .nil OO (aa (ac 0) (aa (ac 1) (aa (ac 2) (aa (ac 3) (aa (cr (aa (ac 4) (aa (ac 5) (aa (ac 6) (aa (ac 7) ae))))) ae)))))).h,?_⟩;simp only [Ch,Tk];left;exact ⟨fits (by simp),hw⟩
   ·exact hw.elim
  refine bJ (b:=bb qW) ((ad (aP 2 eJ.nd (cr (aa al (aa al (aa al (aa al (aa al (aa al (aa al (aa al (aa al ae)))))))))))
   (ad (aP 3 eJ.nd (wV (ZY (K:=K) rfl) T.Qc aci (aa (Bn rfl (TN:=["_law_word"]) (caps:=["_law_source_here"]) (ix:=[1]) (jV (K:=K) rfl (ac 2)) (fun _ _ _ _=>by exact qI) (fun _ _ _ _=>by exact (gq 0 (show List.Nodup (["_law_word","_law_source_here"]:List Str) by decide))) (fun _ _ _ _=>by exact (em (aa (ac 0) (aa (gl eZ (bi (nQ T) hr.m T.dR.m T.dR.F.kp T.dR.b .nil az (aa (ac 1) (aa am ae))) am) ae)))) (.of rfl (by exact ⟨rfl,trivial⟩) (by walk_at "c") rfl (by exact ⟨⟨rfl,rfl,rfl,rfl⟩,trivial⟩))) ae)))
   (ad (aP 4 eJ.nd (bi (nQ T) hr.m T.dR.m T.dR.F.kp T.dR.b .nil az (aa (ac 1) (aa am ae))))
   (ad (aP 5 eJ.nd al)
   (ad (aX (bO (fH (dh hr) (ac 3) al)) (ai (aP 5 eJ.nd (bi (qr T) hr.m T.eD.m T.eD.F.kp T.eD.b .nil az (aa (ac 1) (aa (cr (aa al (aa aw (aa am (aa al (aa al (aa al (aa f8 (aa (cr (aa al ae)) ae))))))))) ae))))) bn)
   (ad (aP 6 eJ.nd (bi (Q7 T) hr.m T.qK.m T.qK.F.kp T.qK.b .nil az (aa (ac 1) (aa (ac 3) ae))))
   (ad (aP 7 eJ.nd (ac 6))
   (ad (aX (bO (fH (dh hr) (ac 3) al)) (ai (aP 6 eJ.nd (bi (aaL T) hr.m T.qC.m T.qC.F.kp T.qC.b .nil az (aa (ac 1) ae)))) bn)
   (ad (aP 8 eJ.nd al)
   (ad (aP 9 eJ.nd al)
   (ad (aX (bO (fH (dh hr) (ac 3) al)) (ad (aP 8 eJ.nd (bi (qr T) hr.m T.eD.m T.eD.F.kp T.eD.b .nil az (aa (ac 1) (aa (cr (aa al (aa (bi (Gi T) hr.m T.lD.m T.lD.F.kp T.lD.b .nil az (aa (ac 1) ae)) ae))) ae))))
   (ai (aP 9 eJ.nd (bi (Gi T) hr.m T.lD.m T.lD.F.kp T.lD.b .nil az (aa (ac 1) ae))))) bn)
   (ad (aP 10 eJ.nd (ci (bD (K:=K) rfl) (cr (aa al (aa al (aa (bv cW (bv jX al am) al) ae)))) (bi (nQ T) hr.m T.dR.m T.dR.F.kp T.dR.b .nil az (aa (ac 1) (aa am ae)))))
   (ad (aX (bO (fH (dh hr) (ac 3) al)) (ai (aP 10 eJ.nd (bi (Ov T) hr.m T.qp.m T.qp.F.kp T.qp.b .nil az (aa (ac 1) ae)))) bn)
   (ad (aP 11 eJ.nd (ci (bD (K:=K) rfl) (cr (aa al (aa (bv jX al am) ae))) (bi (nQ T) hr.m T.dR.m T.dR.F.kp T.dR.b .nil az (aa (ac 1) (aa am ae)))))
   (ad (aX (bO (fH (dh hr) (ac 3) al)) (ai (aP 11 eJ.nd (bi (qr T) hr.m T.eD.m T.eD.F.kp T.eD.b .nil az (aa (ac 1) (aa (cr (aa (bv jX al am) (aa aw (aa am (aa f8 (aa (cr (aa al ae)) ae)))))) ae))))) bn)
   (ad (aP 12 eJ.nd (bi (VY T) hr.m T.qF.m T.qF.F.kp T.qF.b .nil az (aa (ac 0) (aa (ac 4) (aa (ac 7) (aa (ac 3) ae))))))
   (ad (aP 13 eJ.nd (my T.aO T.jh.h (xh T) hr.m T.jh.b .nil az (ac 0)))
   (ad (Bj 14 rfl eJ.nd (TN:=["_law_number"]) (caps:=["_law_house_here"]) (ix:=[0]) (zI T.CU (aa am ae)) (fun _ _ _ _=>by exact qI) (fun _ _ _ _=>by exact (gq 0 (show List.Nodup (["_law_number","_law_house_here"]:List Str) by decide))) (fun _ _ _ _=>by exact (bw T.aO T.oQ.h (HS T) hr.m T.oQ.b .nil az (ac 1) (aa (ac 0) ae))) (.of rfl (by exact ⟨rfl,trivial⟩) (by walk_at "c") rfl (by exact ⟨⟨rfl,rfl,rfl,rfl⟩,trivial⟩)))
   (ad (aP 15 eJ.nd (Y5 (WV T) hr.m T.qE.m T.qE.F.kp T.qE.b gW LB_l_right (W8 (bQ.symm.trans T.ZJ) C E2) (X0 _) O2))
   (ad (aX (bB (aav (K:=K) 4 rfl hr.Ja) (ac 15) (ac 12)) (ai (aK f8)) bn)
   (ad (aX (bB eZ (ci (bD (K:=K) rfl) (ac 12) am) al) (ai (aK (nH (gl eZ (my T.aO T.jh.h (xh T) hr.m T.jh.b .nil az (ac 0)) (bv cW (ac 13) am)) (im (gl eZ (bw T.aO T.sC.h (W4 T) hr.m T.sC.b .nil az (ac 0) (aa (ac 13) ae)) al))))) bn)
   (ai (aK (nH (gl eZ (my T.aO T.jh.h (xh T) hr.m T.jh.b .nil az (ac 0)) (ac 13)) (im (gl (S4 (K:=K) 4 rfl hr.Ja) (Bn rfl (TN:=["_law_number"]) (caps:=["_law_house_here"]) (ix:=[0]) (zI T.CU (aa am ae)) (fun _ _ _ _=>by exact qI) (fun _ _ _ _=>by exact (gq 0 (show List.Nodup (["_law_number","_law_house_here"]:List Str) by decide))) (fun _ _ _ _=>by exact (bw T.aO T.oQ.h (HS T) hr.m T.oQ.b .nil az (ac 1) (aa (ac 0) ae))) (.of rfl (by exact ⟨rfl,trivial⟩) (by walk_at "c") rfl (by exact ⟨⟨rfl,rfl,rfl,rfl⟩,trivial⟩))) (ac 14)))))))))))))))))))))))))))) ?_
  refine stI [some (.ref AA.a),some (.ref st),none,none,none,none,none,none,none,none,none,none,none,none,none,none] ?_;right;refine ⟨fits (by simp),fun lw hlw=>?_⟩;have s1:=ag.upd (o:=.lst (FW.map V.str)) hlw;have b1:upd H lw (.lst (FW.map V.str)) lw=some (.lst (FW.map V.str)):=au;have N4:=aM.ne hlw;change nK _ _ _ _ (upd H lw (.lst (FW.map V.str)));generalize upd H lw (.lst (FW.map V.str))=H1 at s1 b1 ⊢;have d1:=aM.same s1;refine ck (fun σ' H'=>∃ fl g,σ'=[some (.ref AA.a),some (.ref st),some (.ref lw),some (.ref fl),none,none,none,none,none,none,none,none,none,none,none,none]/\RJ T st fl H AA L M om rest n g H') ?_ ?_
  ·left;refine ⟨[.ref st],gZ rfl sZ,⟨_,aD.of b1⟩,abr (xs:=FW.map V.str) (fun i ys H'=>cJ st H1 H'/\Dr st H'/\ys.length=i/\∃ bs:List Bool,bs.length=i/\∀ (j:Nat) (y:V),ys[j]?=some y->∃ a z b,y=.ref a/\FW[j]?=some z/\bs[j]?=some b/\H' a=some (.tup [.str z,.bl b])) (by decide) ⟨fun _ _ _ e=>e,d1,rfl,[],rfl,fun j y h=>by simp at h⟩ (fun i ys H' h=>h.2.2.1) (fun i ys H' h=>aD.of (h.1 _ _ N4 b1)) ?_ ?_⟩
   ·rintro k x ys H2 hx ⟨k2,d2,cf,bs,hb,hT⟩ R hR;rw [Da] at hx;obtain ⟨z,hz,rfl⟩:=PP.mp hx;left;refine tF d2 (by decide) (by decide) fun d H3 e0 e1 d3 k3=>⟨fits (by simp),fun p hp=>?_⟩;have s4:=ag.upd (o:=.tup [V.str z,V.bl (decide (d=0))]) hp;refine hR _ _ ⟨(k2.trans k3).trans (s4.keep st),d3.same s4,by simp [cf],bs++[decide (d=0)],by simp [hb],fun j y hy=>?_⟩;rcases Nat.lt_or_ge j ys.length with h | h
    ·rw [Db h] at hy;obtain ⟨a,z',b,h1,h2,h3,h4⟩:=hT j y hy;exact ⟨a,z',b,h1,h2,by rw [Db (by omega)]; exact h3,s4 _ _ (k3 _ _ (fun e=>by obtain ⟨_,_,_,dd⟩:=d2; rw [e,dd] at h4; cases h4) h4)⟩
    ·rw [AT h] at hy
     match hj:j - ys.length with
     | 0 =>
      rw [hj] at hy;cases hy;have:j=k:=by omega
      subst this;exact ⟨p,z,_,rfl,hz,by rw [AT (by omega),show j - bs.length=0 by omega]; rfl,au⟩
     | m+1=>rw [hj] at hy; cases hy
   ·rintro ys H2 l' ⟨k2,d2,cf,bs,hb,hT⟩ hl';obtain ⟨g,hg⟩:=JS FW abF bs (by rw [hb,pp]);have s3:=ag.upd (o:=.lst ys) hl';refine ⟨l',ys,jd g FW,rfl,au,by rw [cf]; rfl,(show 9<=1000 by decide),by rw [show (jd g FW).map (·.1)=FW.map Sum.inr from rfl]; symm,fun j y hy=>?_,fun fl aY=>⟨fl,g,rfl,?_⟩⟩
    ·obtain ⟨a,z,b,h1,h2,h3,h4⟩:=hT j y hy;refine ⟨a,.inr z,.bl b,h1,?_,s3 _ _ h4⟩;unfold jd;rw [Da,h2];rw [<- hg,Da,h2] at h3;cases h3;rfl
    ·have s4:=s3.trans (ag.upd (o:=.dK (jd g FW)) aY);have kk:=k2.trans (s4.keep st);exact ⟨(i.same s1).drawn hf.g.ne d1 kk,hf,d2.same s4,au,(c7.of s1).l.trans fun c o n _ e=>kk c o n e⟩
  rintro σ' H2 ⟨fl,g,rfl,j⟩;clear s1 b1 N4 d1 hlw i aM;right;refine tF j.d (by decide) (by decide) fun dw H3 w0 w1 d3 k3=>?_;obtain ⟨ww,rfl⟩:=_M w0;have j3:=j.drawn d3 k3;clear j d3 k3 H2;right;have ro:M.ro=iC:=by rw [hf.e]; rfl
  refine ck (fun σ' H'=>∃ va,σ'=[some (.ref AA.a),some (.ref st),some (.ref lw),some (.ref fl),some (.int (ww:Int)),some va,none,none,none,none,none,none,none,none,none,none]/\RJ T st fl H AA L M om rest n g H'/\(g "asker" = true->(∃ ty,clsName H' va=some ty)/\∀ z,va=.str z->aG (sD M.ro) (.inr z)=none)/\(g "asker" = false->va=.str "guest")) ?_ ?_
  ·left;refine ⟨fl,_,rfl,eh j3.f (by symm),?_⟩;cases hg:g "asker" with
   | false=>exact aQ ⟨_,rfl,j3,(fun e=>by cases e),fun _=>rfl⟩
   | true =>
    refine aV ⟨fits (by simp),fun p hp=>⟨fits (by simp),fun l hl=>?_⟩⟩;have s4:=ag.upd (o:=.lst [V.str "guest"]) hp;have b4:upd H3 p (.lst [V.str "guest"]) p=some (.lst [V.str "guest"]):=au;have j4:=j3.same s4;have np:=j3.d.ne hp;generalize upd H3 p (.lst [V.str "guest"])=H4 at s4 b4 j4 hl ⊢;refine ⟨_,au,j4.d.ne hl,j4.d.same (ag.upd hl),by simp,by simp,fun v H' hv d' k'=>⟨v,rfl,(j4.same (ag.upd hl)).drawn d' k',fun _=>?_,(fun e=>by cases e)⟩⟩;have bp:=k' _ _ np ((ag.upd hl) _ _ b4);rw [ro];simp only [mo,nn,xz] at hv;rcases hv with rfl | rfl | rfl | rfl | rfl | rfl | rfl | rfl
    ·exact ⟨⟨_,rfl⟩,fun z e=>by cases e; symm⟩
    ·exact ⟨⟨_,rfl⟩,nofun⟩
    ·exact ⟨⟨_,rfl⟩,nofun⟩
    ·exact ⟨⟨_,rfl⟩,fun z e=>by cases e; symm⟩
    ·exact ⟨⟨_,rfl⟩,fun z e=>by cases e; symm⟩
    ·exact ⟨⟨_,rfl⟩,fun z e=>by cases e; symm⟩
    ·exact ⟨⟨_,rfl⟩,nofun⟩
    ·exact ⟨⟨_,qA bp⟩,nofun⟩
  clear j3;rintro σ' H4 ⟨va,rfl,j4,Ff,Ny⟩;right;refine ⟨g,j4.d,j4.f,fun t H5 sk d5 k5=>?_⟩;have j5:=j4.drawn d5 k5;have pa1':g "asker" = true->(∃ ty,clsName H5 va=some ty)/\∀ z,va=.str z->aG (sD M.ro) (.inr z)=none:=fun e=>⟨let ⟨ty,h⟩:=(Ff e).1; ⟨ty,vL j4.d d5 k5 h⟩,(Ff e).2⟩;clear j4 d5 k5 Ff;right;refine ck (fun σ' H'=>∃ vp,σ'=[some (.ref AA.a),some (.ref st),some (.ref lw),some (.ref fl),some (.int (ww:Int)),some va,some vp,some (.str (Tx.S t)),none,none,none,none,none,none,none,none]/\RJ T st fl H AA L M om rest n g H'/\Dr st H5/\cJ st H5 H'/\(g "path" = true->fQ H' vp)/\(g "path" = false->vp=.str (Tx.S t))) ?_ ?_
  ·left;refine ⟨fl,_,rfl,eh j5.f (by symm),?_⟩;cases hg:g "path" with
   | false=>exact aQ ⟨_,rfl,j5,j5.d,fun _ _ _ e=>e,(fun e=>by cases e),fun _=>rfl⟩
   | true=>exact aV ⟨j5.d,fun v H' hb d' k'=>⟨v,rfl,j5.drawn d' k',j5.d,k',fun _=>hb,(fun e=>by cases e)⟩⟩
  rintro σ' H6 ⟨vp,rfl,j6,d5,k6,Me,LL⟩;have pa:g "asker" = true->(∃ ty,clsName H6 va=some ty)/\∀ z,va=.str z->aG (sD M.ro) (.inr z)=none:=fun e=>⟨let ⟨ty,h⟩:=(pa1' e).1; ⟨ty,vL d5 j6.d k6 h⟩,(pa1' e).2⟩;clear j5 pa1' k6 d5 H5;right;right;have Fe:n6 H6 M g t va vp:=⟨pa,Ny,Me,LL⟩;clear pa Ny Me LL;refine ck (fun σ' H'=>∃ vm vr,σ'=[some (.ref AA.a),some (.ref st),some (.ref lw),some (.ref fl),some (.int (ww:Int)),some va,some vp,some (.str (Tx.S t)),some vm,some vr,none,none,none,none,none,none]/\RJ T st fl H AA L M om rest n g H'/\n6 H' M g t va vp/\pE H' g vm vr) ?_ ?_
  ·left;refine ⟨fl,_,rfl,eh j6.f (by symm),?_⟩;cases hg:g "rights" with
   | false=>exact aQ ⟨_,_,rfl,j6,Fe,(fun e=>by rw [hg] at e; cases e),fun _=>⟨rfl,rfl⟩⟩
   | true =>
    refine aV (ah ?_);left;refine ⟨j6.d,fun v H7 hb d7 k7=>⟨fits (by simp),fun l hl=>?_⟩⟩;have j7:=j6.drawn d7 k7;have s8:=ag.upd (o:=.lst [V.str "lgw",v]) hl;have j8:=j7.same s8;refine ⟨_,au,d7.ne hl,j8.d,by simp,by simp,fun u H9 hu d9 k9=>?_⟩;have Nf:cJ st H7 H9:=(s8.keep st).trans k9;have j9:=j8.drawn d9 k9;left;refine ⟨d9,fun vr ky hr10 d10 iP=>⟨u,vr,rfl,j9.drawn d10 iP,Fe.keep j6.d d10 ((k7.trans Nf).trans iP),fun _=>?_,(fun e=>by rw [hg] at e; cases e)⟩⟩;simp only [mo,nn,xz] at hu;rcases hu with rfl | rfl
    ·exact .rest rfl (by symm) hr10.1 hr10.2
    ·exact .qM (vT d7 d10 (Nf.trans iP) hb.1) hb.2
  clear j6 Fe;rintro σ' H7 ⟨vm,vr,rfl,j7,LY,MB⟩;right;refine ⟨by rw [show Str.ofString "x/" = Tx.S [120,47] by symm]; exact Tx.pF [120,47] 59 (by decide) (by decide),by symm,?_⟩;refine zT j7.d rfl (by simp) (by simp) fun v H8 hv d8 k8=>?_;obtain ⟨tl,bN,NR,rfl⟩:∃ tl,dj tl/\tl.length<=120/\v=V.str (Tx.S tl):=by
   simp only [mo,nn,xz] at hv;rcases hv with rfl | rfl | rfl
   ·exact ⟨[47,97],⟨by symm,by symm,by symm⟩,by symm,by symm⟩
   ·exact ⟨[98],⟨by symm,by symm,by symm⟩,by symm,by symm⟩
   ·exact ⟨(List.replicate 59 [120,47]).flatten++[97,98],⟨by symm,by symm,by symm⟩,by symm,by symm⟩
  have j8:=j7.drawn d8 k8;have D5:=LY.keep j7.d d8 k8;have Ex:=MB.keep j7.d d8 k8;clear j7 LY MB k8 d8 hv;refine ck (fun σ' H'=>∃ vl,σ'=[some (.ref AA.a),some (.ref st),some (.ref lw),some (.ref fl),some (.int (ww:Int)),some va,some vp,some (.str (Tx.S t)),some vm,some vr,some vl,none,none,none,none,none]/\RJ T st fl H AA L M om rest n g H'/\n6 H' M g t va vp/\pE H' g vm vr/\tK H' g vl) ?_ ?_
  ·left;refine ⟨fl,_,rfl,eh j8.f (by symm),?_⟩;cases hg:g "lead" with
   | false=>exact aQ ⟨_,rfl,j8,D5,Ex,(fun e=>by rw [hg] at e; cases e),fun _=>⟨tl,rfl,bN,NR⟩⟩
   | true=>exact aV ⟨j8.d,fun v H' hb d' k'=>⟨v,rfl,j8.drawn d' k',D5.keep j8.d d' k',Ex.keep j8.d d' k',fun _=>hb,(fun e=>by rw [hg] at e; cases e)⟩⟩
  clear j8 D5 Ex bN NR;rintro σ' H9 ⟨vl,rfl,j9,NF,Mn,NP⟩;right;refine ⟨by rw [show Str.ofString "t" = Tx.S [116] by symm]; exact Tx.pF [116] 60 (by decide) (by decide),?_⟩;refine zT j9.d rfl (by simp) (by simp) fun v ky hv d10 iP=>?_;obtain ⟨tx,rG,rfl⟩:∃ tx,tx.length<=60/\v=V.str tx:=by
   simp only [mo,nn,xz] at hv;rcases hv with rfl | rfl
   ·exact ⟨_,by symm,rfl⟩
   ·exact ⟨_,by symm,rfl⟩
  have m3:=j9.drawn d10 iP;have DS:=NF.keep j9.d d10 iP;have E6:=Mn.keep j9.d d10 iP;have E7:=NP.keep j9.d d10 iP;clear j9 NF Mn NP iP d10 hv;refine ck (fun σ' H'=>∃ vx,σ'=[some (.ref AA.a),some (.ref st),some (.ref lw),some (.ref fl),some (.int (ww:Int)),some va,some vp,some (.str (Tx.S t)),some vm,some vr,some vl,some vx,none,none,none,none]/\RJ T st fl H AA L M om rest n g H'/\oh H' M g t va vp vm vr vx vl) ?_ ?_
  ·left;refine ⟨fl,_,rfl,eh m3.f (by symm),?_⟩;cases hg:g "text" with
   | false=>exact aQ ⟨_,rfl,m3,.of DS E6 ⟨(fun e=>by rw [hg] at e; cases e),fun _=>⟨tx,rfl,rG⟩⟩ E7⟩
   | true =>
    refine aV ⟨by rw [show Str.ofString "t" = Tx.S [116] by symm]; exact Tx.pF [116] 61 (by decide) (by decide),fits (by simp),fun p hp=>⟨fits (by simp),fun l hl=>?_⟩⟩;have vc:=ag.upd (o:=.lst [V.str "t"]) hp;have LW:upd ky p (.lst [V.str "t"]) p=some (.lst [V.str "t"]):=au;have kD:=m3.same vc;have np:=m3.d.ne hp;generalize upd ky p (.lst [V.str "t"])=H11 at vc LW kD hl ⊢;refine ⟨_,au,kD.d.ne hl,kD.d.same (ag.upd hl),by simp,by simp,fun v H' hv d' k'=>?_⟩;have kk:cJ st ky H':=((vc.trans (ag.upd hl)).keep st).trans k';refine ⟨v,rfl,(kD.same (ag.upd hl)).drawn d' k',.of (DS.keep m3.d d' kk) (E6.keep m3.d d' kk) ⟨fun _=>?_,(fun e=>by rw [hg] at e; cases e)⟩ (E7.keep m3.d d' kk)⟩;have bp:=k' _ _ np ((ag.upd hl) _ _ LW);simp only [mo,nn,xz] at hv;rcases hv with rfl | rfl | rfl | rfl | rfl
    ·exact ⟨⟨_,rfl⟩,by symm⟩
    ·exact ⟨⟨_,rfl⟩,rfl⟩
    ·exact ⟨⟨_,rfl⟩,rfl⟩
    ·exact ⟨⟨_,rfl⟩,rfl⟩
    ·exact ⟨⟨_,qA bp⟩,rfl⟩
  clear m3 DS E6 E7 rG;rintro σ' H11 ⟨vx,rfl,kD,cD⟩;right;obtain ⟨_,tl,b,ds,_⟩:=hf.Dd (T:=T) (Q:=Q) (E:=E) kD.i (by omega) sk;refine ⟨AA,L,M,om,rest,n,g,t,fl,b,ww,rfl,kD.i,hf,kD.f,tl,ds,by omega,fun pd a H12 du rT an=>?_⟩;have vg:=kD.same rT;have LQ:=cD.mono fun h=>kT rT h;clear kD cD rT ds tl;have yE:∀ {k:Nat} {tk:Th},M.ts[k]?=some tk->tk.aR.length < 64:=fun h=>by have:=(hf.g.th _ _ h).nl; have:=hf.n; omega
  have l7:M.ts.length=7+rest.length:=by rw [hf.e]; show (T7 om++rest).length=_; rw [wE]; rfl
  have names:∀ {H':Hp} {Q':VK},aE T.aH T.aL T.aU H' AA L M->(∀ ys H2 l,jC M H2 ys 4->ag H' H2->H2 l=none->Q' (.ref l) (upd H2 l (.lst ys)))->oF (oK 0 ((4:Nat):Int).toNat) 1 [.ref AA.a] (fE 0) jg (qU T.aH (Str.ofString "names_in") (lb T.aH T.aL T.aU Ad.a AW) [] E0 (iY 1) (oi (iY 0) jE)) Q' H':=fun {H' Q'} i q'=>by
   refine Wr 4 (fun i ys H2=>ag H' H2/\jC M H2 ys i) (by decide) ⟨ag.refl _,rfl,fun j y h=>by simp at h⟩ (fun i ys H2 h=>h.2.1) (fun k ys H2 hk h R hR=>?_) (fun ys H2 l h hl=>q' ys H2 l h.2 h.1 hl);obtain ⟨s2,hy⟩:=h;have i2:=i.same s2;obtain ⟨fX,gc,gh,f6,bP⟩:=i2.h;have ko:k < M.ts.length:=by omega
   have uU:M.ts[k]?=some M.ts[k]:=ss ko;generalize M.ts[k]=tk at uU;obtain ⟨ak,gM⟩:=adr i2.len uU;rw [show ([V.ref AA.a]:List V).map some=[some (V.ref AA.a)] from rfl];left;refine .mk AA.a _ _ rfl gh ((bP _).trans rfl) ⟨AA,L,M,k,ak,tk,i2,rfl,rfl,gM,uU,yE uU,fun l hl=>?_⟩;have s3:=ag.upd (o:=.lst ((gG (tk.aR.map (·.1))).map V.str)) hl;refine hR _ _ ⟨s2.trans s3,by rw [wE,hy.1]; rfl,fun j y hjy=>?_⟩;rcases Nat.lt_or_ge j ys.length with h | h
   ·rw [Db h] at hjy;obtain ⟨a,tj,e1,e2,e3⟩:=hy.2 j y hjy;exact ⟨a,tj,e1,e2,s3 _ _ e3⟩
   ·rw [AT h] at hjy
    match hj:j - ys.length with
    | 0 =>
     rw [hj] at hjy;cases hjy;have:j=k:=by have:=hy.1; omega
     subst this;exact ⟨l,tk,rfl,uU,au⟩
    | m+1=>rw [hj] at hjy; cases hjy
  obtain ⟨fX,gc,gh,f6,bP⟩:=vg.i.h;right;refine mI gh bP ⟨AA,L,M,vg.i,rfl,?_⟩;right;refine ⟨[.ref AA.a],gZ rfl sZ,⟨by decide,by decide⟩,names vg.i fun ys H13 ln hy s13 kj=>?_⟩;have vj:=s13.trans (ag.upd (o:=.lst ys) kj);have yr:upd H13 ln (.lst ys) ln=some (.lst ys):=au;have yo:=hy.nx (si (ag.upd (o:=.lst ys) kj));generalize upd H13 ln (.lst ys)=H14 at vj yr yo ⊢;have uT:=vg.same vj;have Ey:=LQ.mono fun h=>kT vj h;have D2:=an.same vj;have DI:fc H14 Pe iI es:=G9 tab fun b φ e=>uT.k _ _ (fun z=>by obtain ⟨_,_,_,d⟩:=id (show Dr st H from hst0); rw [z,d] at e; cases e) trivial e;clear vg LQ an vj s13 hy kj gh bP;refine ck (fun σ' H'=>∃ pf,σ'=[some (.ref AA.a),some (.ref st),some (.ref lw),some (.ref fl),some (.int (ww:Int)),some va,some vp,some (.str (Tx.S t)),some vm,some vr,some vl,some vx,some (.ref pd),some (.int ((M.ts.length:Nat):Int)),some (.ref ln),some (.ref pf)]/\fj H' pf a/\fj H' pd a/\((∀ m,a≠.told m)/\H' ln=some (.lst ys)/\jC M H' ys 4/\aE T.aH T.aL T.aU H' AA L M\/a=.told M.ts.length/\∃ L' nm tn,tn.ow=("guest" : Str)/\HF (ik M om rest nm tn) (om++[(Tx.S nm,M.ts.length)]) (rest++[tn]) (n+1)/\aE T.aH T.aL T.aU H' AA L' (ik M om rest nm tn))/\(∃ es',fc H' Pe iI es')/\∀ c o,c≠st->c≠Pe->kc o->H c=some o->H' c=some o) ?_ ?_
  ·left;refine ⟨es,[.ref AA.a,.int (ww:Int),va,vp,vm,vr,vx,vl],DI,gZ rfl (gZ rfl (gZ rfl (gZ rfl (gZ rfl (gZ rfl (gZ rfl (gZ rfl sZ))))))),fun c oX yj=>⟨yj.code,fun ml fA=>?_⟩⟩;have nx:=UI yj DI;have kl:=ab7 yj;obtain ⟨es15,NH⟩:=yj.tab;have jt:=ag.upd (o:=.lst [vm,vr,vx,vl]) fA;have Ei:=(uT.i.kO nx).same jt;have M5:=(Ey.mono fun h=>aa0 nx h).mono fun h=>kT jt h;have Fb:=(D2.nx nx).same jt;have Nv:=jt _ _ (nx _ (.lst ys) (fun φ e=>by cases e) yr);have NB:=(yo.nx nx).nx (si jt);have Mh:upd oX ml (.lst [vm,vr,vx,vl]) ml=some (.lst [vm,vr,vx,vl]):=au;have E8:fc (upd oX ml (.lst [vm,vr,vx,vl])) Pe iI es15:=(c7.of jt).tab NH;have DR:∀ c o,c≠st->c≠Pe->kc o->H c=some o->upd oX ml (.lst [vm,vr,vx,vl]) c=some o:=fun c o n1 n2 ho e=>jt _ _ (kl _ _ n2 ho (uT.k _ _ n1 ho e));generalize upd oX ml (.lst [vm,vr,vx,vl])=H16 at jt Ei M5 Fb Nv NB Mh E8 DR ⊢;clear nx kl NH jt uT Ey D2 yr yo;have ref:∀ {p:Addr} {H2:Hp},(∀ m,a≠.told m)->ag H16 H2->fj H2 p a->∃ pf,[some (V.ref AA.a),some (V.ref st),some (V.ref lw),some (V.ref fl),some (V.int (ww:Int)),some va,some vp,some (V.str (Tx.S t)),some vm,some vr,some vl,some vx,some (V.ref pd),some (V.int ((M.ts.length:Nat):Int)),some (V.ref ln),some (V.ref p)]=[some (V.ref AA.a),some (V.ref st),some (V.ref lw),some (V.ref fl),some (V.int (ww:Int)),some va,some vp,some (V.str (Tx.S t)),some vm,some vr,some vl,some vx,some (V.ref pd),some (V.int ((M.ts.length:Nat):Int)),some (V.ref ln),some (V.ref pf)]/\fj H2 pf a/\fj H2 pd a/\((∀ m,a≠.told m)/\H2 ln=some (.lst ys)/\jC M H2 ys 4/\aE T.aH T.aL T.aU H2 AA L M\/a=.told M.ts.length/\∃ L' nm tn,tn.ow=("guest" : Str)/\HF (ik M om rest nm tn) (om++[(Tx.S nm,M.ts.length)]) (rest++[tn]) (n+1)/\aE T.aH T.aL T.aU H2 AA L' (ik M om rest nm tn))/\(∃ es',fc H2 Pe iI es')/\∀ c o,c≠st->c≠Pe->kc o->H c=some o->H2 c=some o :=
    fun nt s2 ar=>⟨_,rfl,ar,Fb.same s2,.inl ⟨nt,s2 _ _ Nv,NB.nx (si s2),Ei.same s2⟩,⟨_,(c7.of s2).tab E8⟩,fun c o n1 n2 ho e=>s2 _ _ (DR c o n1 n2 ho e)⟩
   refine ⟨AA,L,M,om,rest,n,g,t,vm,vr,vx,vl,a,va,vp,ml,ww,rfl,by omega,Ei,hf,by omega,sk,Mh,M5,du,?_⟩;cases a with
   | w wd =>
    intro C j hm H' s';have hx:mz T C j/\(j,wd)∈[(0,("asker" : Str)),(1,"path"),(3,"rights"),(4,"text")]:=by
     simp only [mo,Jaj,nn,xz] at hm ⊢;rcases hm with ⟨rfl,rfl,rfl⟩ | ⟨rfl,rfl,rfl⟩ | ⟨rfl,rfl,rfl⟩ | ⟨rfl,rfl,rfl⟩
     ·exact ⟨QF T,by simp⟩
     ·exact ⟨aaE T,by simp⟩
     ·exact ⟨Wl T,by simp⟩
     ·exact ⟨OP T,by simp⟩
    exact ⟨C,j,rfl,hx.1,.inl ⟨wd,hx.2,fun p H2 s2 ar=>ref nofun (s'.trans s2) ar⟩⟩
   | cP y=>exact fun d H' s' e=>⟨T.cw,10,rfl,aak T,.inr (.inr ⟨rfl,rfl,d,y,rfl,e,fun p H2 s2 ar=>ref nofun (s'.trans s2) ar⟩)⟩
   | way k y=>exact fun fd d H' s' te e=>⟨T.cu,9,rfl,ab5 T,.inr (.inl ⟨rfl,rfl,d,fd,k,y,rfl,e,te,fun p H2 s2 ar=>ref nofun (s'.trans s2) ar⟩)⟩
   | told m =>
    have hm:m=M.ts.length:=by
     cases du with
     | eQ _ _ _ _ _ ds=>cases ds; rfl
    subst hm;refine ⟨rfl,fun L' nm tn H' how hf' i' k' p H2 s2 hp=>⟨p,rfl,hp,s2 _ _ (k' _ _ (show kc (.tup _) from trivial) Fb),.inr ⟨rfl,L',nm,tn,how,hf',i'.same s2⟩,⟨_,(c7.of s2).tab (k'.tab E8)⟩,fun c o n1 n2 ho e=>s2 _ _ (k' _ _ ho (DR c o n1 n2 ho e))⟩⟩
  clear uT Ey D2 yr yo DI;rintro σ' oX ⟨pf,rfl,arf,vf,hcase,⟨es',tab'⟩,kk⟩;right;refine ⟨.inr (arf.de vf),cU (by decide) (ah ?_)⟩;left;rcases hcase with ⟨nt,kj,Mp,kz⟩ | ⟨rfl,L',nm,tn,how,hf',kz⟩
  ·obtain ⟨fX,gc,gh,f6,bP⟩:=kz.h;obtain ⟨w1,xs,Fm,E9⟩:∃ w1 xs,oX pd=some (.tup (.str w1::xs))/\w1≠("told" : Str):=by
    cases a with
    | w wd =>
     refine ⟨wd,_,vf,?_⟩;cases du with
     | eQ _ _ _ _ _ ds=>cases ds
     | _=>symm
    | cP y=>exact ⟨_,_,vf,by symm⟩
    | way k y=>obtain ⟨q',h1,_⟩:=vf; exact ⟨_,_,h1,by symm⟩
    | told m=>exact absurd rfl (nt m)
   simp only [bj,Fm,e8];refine cU (pc E9) ?_;refine mI gh bP ⟨AA,L,M,kz,rfl,?_⟩;refine dC (by simp) ?_;refine ⟨[.ref AA.a],gZ rfl sZ,⟨by decide,by decide⟩,names kz fun zs H16 l hz jt hl=>?_⟩;have u7:=jt.trans (ag.upd (o:=.lst zs) hl);obtain ⟨e1,e2⟩:=(hz.nx (si (ag.upd (o:=.lst zs) hl))).de (K:=K) (Mp.nx (si u7));refine ⟨zs,ys,.inl ⟨aD.of au,aD.of (u7 _ _ kj)⟩,e1,e2,?_⟩;exact q L M om rest es' _ (kz.same u7) ⟨hf.e,hf.f,hf.g,Nat.le_succ_of_le hf.n⟩ ((c7.of u7).tab tab') fun c o n1 n2 ho e=>u7 _ _ (kk c o n1 n2 ho e)
  ·obtain ⟨fX,gc,gh,f6,bP⟩:=kz.h;have Fm:oX pd=some (.tup [.str "told",.int ((M.ts.length:Nat):Int)]):=vf;simp only [bj,Fm,e8];refine dC (by decide) ?_;refine mI gh bP ⟨AA,L',_,kz,rfl,?_⟩;have el:(ik M om rest nm tn).ts.length=M.ts.length+1:=by
    show (T7 (om++[(Tx.S nm,M.ts.length)])++(rest++[tn])).length=_;rw [wE,wE,l7];show 7+(rest.length+1)=_;omega
   rw [el];refine dC (by simp) ?_;have et:(ik M om rest nm tn).ts[M.ts.length]?=some tn:=by
    show (T7 (om++[(Tx.S nm,M.ts.length)])++(rest++[tn]))[M.ts.length]?=_;rw [<- _w,AT (by rw [wE,l7]; exact sK _),show M.ts.length - (T7 (om++[(Tx.S nm,M.ts.length)])++rest).length=0 by rw [wE,l7]; show 7+rest.length - (7+rest.length)=0; omega];rfl
   obtain ⟨an',iZ⟩:=adr kz.len et;refine mI gh bP ⟨AA,L',_,M.ts.length,an',tn,kz,rfl,rfl,iZ,et,?_⟩;dsimp only [Il];rw [how,wP rfl];exact q L' _ _ _ es' _ kz hf' tab' kk
def Ae (K:ν) (tabs:nB):Sp:=ja fun a H Q _=>A3 (∃ ns:List Int,aD K H a (ns.map V.int)) (oN tabs H) (∀ H',vH tabs H'->Q (.bl true) H')
def qO (K:ν) (H:Hp) (a:Addr) (ns:List Int):Prop:=(∀ J,aD K J a (ns.map V.int))\/∃ o,H a=some (.eV o (.lst (ns.map V.int)))
def qO.sq {H:Hp} {a:Addr} {ns:List Int} (h:qO K H a ns):aD K H a (ns.map V.int):=by
 rcases h with h | h
 ·exact h H
 ·exact .inl (.inr h)
def qO.kp {H H':Hp} {a:Addr} {ns:List Int} (h:qO K H a ns) (k:∀ o,H a=some (.eV o (.lst (ns.map V.int)))->H' a=some (.eV o (.lst (ns.map V.int)))):qO K H' a ns:=by
 rcases h with h | ⟨o,h⟩
 ·exact .inl h
 ·exact .inr ⟨o,k _ h⟩
def abv (ns:List Int) (lo:Option Int) (k:Nat):∃ ms:List Int,gC (ns.map V.int) lo (some (k:Int))=ms.map V.int/\ms.length<=k:=by
 refine ⟨((ns.drop (HT.dQ (ns.map V.int).length 0 lo)).take (HT.dQ (ns.map V.int).length (ns.map V.int).length (some (k:Int)) - HT.dQ (ns.map V.int).length 0 lo)),?_,?_⟩
 ·unfold gC;rw [<- List.map_drop,<- List.map_take]
 ·rw [Ty,HT.z0];omega
def Ou:HF (hM (Ms 6)) [(Tx.S cF,4)] [] 7:=⟨rfl,by symm,g6,sK _⟩
def V9 {Pe:Addr} (C:PySem.W.CodeHd base T.oW Pe) (E2:base.BuiltinsAt mg Pe):aA P w K mg base (bI P w) 20 T.DM T.xW ["_law_script"] (Ae K [(T.oW,Pe)]):=by
 have G_l_right:=XA (P:=P) (w:=w) (base:=base) T C E2;refine T.wU.dJ yY (fun vs H Q E h=>?_) (fun ao A outer s H vs Q E hr h=>?_)
 ·exact dv h fun _ _=>rfl
 ·refine dv h fun a h=>?_;obtain ⟨⟨ns,hS⟩,hO,q⟩:=h;refine bJ (b:=bb sF) ((ad (aP 1 yY.nd (Yk (aa7 T) hr.m T.qg.m T.qg.F.kp T.qg.b .nil bS))
  (ad (xu Ht rfl (jV (K:=K) rfl (li (uH (K:=K) rfl) (ac 0) uO (tO am))) (gq 2 yY.nd) (ai (aX (dW (bO (cL G_l_right hr.m T.abh T.w9.kp T.C9 .nil bS (aa (ac 1) (aa (bi (O9 T) hr.m T.pZ.m T.pZ.F.kp T.pZ.b .nil az (aa (ac 2) ae)) ae))))) (ai (aK f8)) bn)))
  (ai (aK f8))))) ?_
  refine stI [some (.ref a),none,none] ?_;have tab0:fc H Pe iI []:=hO.ok (c:=T.oW) _ (by simp);have fin:∀ {H':Hp} {es:List Ent},fc H' Pe iI es->Q (.bl true) H':=fun {H' es} t=>q H' fun qq hq=>by
   rw [FM.mp hq];exact ⟨es,t.tab⟩
  have sc0:qO K H a ns:=by
   rcases hS with hS | hS
   ·rcases hS with hS | hS
    ·rcases hO.all a with z | ⟨o,xs,z⟩ | ⟨qq,hq,z⟩
     ·rw [z] at hS; cases hS
     ·rw [z] at hS; cases hS
     ·have z2:=hO.tab qq hq;rw [<- z,hS] at z2; cases z2
    ·exact .inr hS
   ·exact .inl fun J=>.inr hS
  right;intro A1 L1 H1 i1 k1;have M8:=k1.tab tab0;have Mx:=sc0.kp fun o e=>k1 _ _ trivial e;refine ck (fun σ' H'=>∃ es,fc H' Pe iI es) ?_ ?_
  ·left;refine ⟨_,Mx.sq,fun ll hll=>⟨⟨_,aD.of au⟩,?_⟩⟩;obtain ⟨zs,ez,hzl⟩:=abv ns none 40;rw [show ((40:Nat):Int)=40 from rfl] at ez;rw [ez];refine eY hll fun H2 s2 b2=>?_;have i2:=i1.same s2;have NW:=(c7.of s2).tab M8;refine wI (xs:=zs.map V.int) (fun i σ' H'=>(H' ll=some (.lst (zs.map V.int))/\∃ L M om rest es,aE T.aH T.aL T.aU H' A1 L M/\HF M om rest (7+i)/\fc H' Pe iI es)/\∃ t1,σ'=[some (.ref a),some (.ref A1.a),t1]) ⟨⟨b2,_,_,_,_,_,i2,Ou,NW⟩,_,rfl⟩ (fun i σ' H' _ h=>aD.of h.1.1) ?_ (fun σ' H' h=>let ⟨⟨_,_,_,_,_,es,_,_,t⟩,_⟩:=h; ⟨es,t⟩);clear b2 i2 NW s2 i1 k1 M8 Mx hll;rintro i x σ' H3 hx ⟨⟨b3,L,M,om,rest,es,i3,hf3,tab3⟩,t1,rfl⟩;obtain ⟨m,hm,rfl⟩:=EQ.mp (Pi hx);have hi:=(sw.mp hx).1;rw [pp] at hi;left;intro st a0 b0 c0 aM;have s4:=ag.upd (o:=.lst [.int a0,.int b0,.int c0]) aM;have d4:Dr st (upd H3 st (.lst [.int a0,.int b0,.int c0])):=⟨a0,b0,c0,au⟩;have nl:ll≠st:=fun z=>by rw [z,aM] at b3; cases b3
   have b4:=s4 _ _ b3;have i4:=i3.same s4;have EI:=(c7.of s4).tab tab3;generalize upd H3 st (.lst [.int a0,.int b0,.int c0])=H4 at d4 b4 i4 EI ⊢;refine ⟨A1,L,M,om,rest,7+i,st,es,rfl,i4,hf3,by omega,d4,EI,fun L' M' om' rest' es' H5 i5 hf5 tab5 k5=>?_⟩;refine cU (by decide) ⟨⟨k5 _ _ nl (fun z=>by rw [z,EI.tab] at b4; cases b4) (show kc (.lst _) from Lx zs) b4,L',M',om',rest',es',i5,hf5,tab5⟩,_,rfl⟩
  ·rintro σ' H5 ⟨es,t⟩;left;exact fin t
end
def SV {K:ν} {a:Addr} {od:Option Addr} {tk:Nat} {sl:Array (Option Value)} {t0 t1:Tok} (l:K.lookup a=some ⟨.type "tuple",od,.seq ([.str "." t0,.str ".." t1]:List Value).toArray tk,sl⟩) (H:Hp):bE K H a [.str ".",.str ".."]:=.inr ⟨_,_,_,l,rfl,rfl,fits (by simp),(.cons ⟨_,rfl⟩ (.cons ⟨_,rfl⟩ .nil))⟩
def Ra {K:ν} {a:Addr} {od:Option Addr} {tk:Nat} {sl:Array (Option Value)} {t0 t1 t2 t3 t4 t5 t6 t7:Tok} (l:K.lookup a=some ⟨.type "tuple",od,.seq ([.str "" t0,.str "l" t1,.str "g" t2,.str "w" t3,.str "lg" t4,.str "lw" t5,.str "gw" t6,.str "lgw" t7]:List Value).toArray tk,sl⟩) (H:Hp):bE K H a [.str "",.str "l",.str "g",.str "w",.str "lg",.str "lw",.str "gw",.str "lgw"]:=.inr ⟨_,_,_,l,rfl,rfl,fits (by simp),(.cons ⟨_,rfl⟩ (.cons ⟨_,rfl⟩ (.cons ⟨_,rfl⟩ (.cons ⟨_,rfl⟩ (.cons ⟨_,rfl⟩ (.cons ⟨_,rfl⟩ (.cons ⟨_,rfl⟩ (.cons ⟨_,rfl⟩ .nil))))))))⟩
def OZ {K:ν} {a:Addr} {od:Option Addr} {tk:Nat} {sl:Array (Option Value)} {t0 t1 t2:Tok} (l:K.lookup a=some ⟨.type "tuple",od,.seq ([.str "l" t0,.str "g" t1,.str "w" t2]:List Value).toArray tk,sl⟩) (H:Hp):bE K H a [.str "l",.str "g",.str "w"]:=.inr ⟨_,_,_,l,rfl,rfl,fits (by simp),(.cons ⟨_,rfl⟩ (.cons ⟨_,rfl⟩ (.cons ⟨_,rfl⟩ .nil)))⟩
def Tv {K:ν} {H:Hp} {a:Addr} {ns:List Int} {tabs:nB} (hO:oN tabs H) (hS:aD K H a (ns.map V.int)):Ae K tabs [.ref a] H (fun v H'=>v=.bl true/\vH tabs H') fun _ _ _=>False:=⟨⟨ns,hS⟩,hO,fun H' t=>⟨rfl,t⟩⟩
def Vi {P:Program} {w:World} {outer:List Env} {H:Hp} {s s':Shared} {e:Value} (z:bI P w outer H s (fun _ _ _=>False) e s'):False:=by
 obtain ⟨_,_,_,_,_,_,z⟩:=z;exact z
def Yx {l:PySem.W.OpenLaw} {q:Program} {loose:List Str} {XP:(Str->Option Value)->Heap->Prop} {YP:World->Heap->Prop} {d:DefRec} {K:Params->ν} {ce Pe:Addr} (hn:l.most=some 63) (vt:d.params.defaults=[]) (jq:d.name = "law")
  (hY:∀ (w:World) (h:Heap),YP w h->(K w.params).In h) (o9:∀ w:World,PySem.W.noTabs (K w.params)=true)
  (jl:∀ w:World,∃ e,(recsOf q).find? (fun e=>e.name == ("_law_right" : Str))=some e/\PySem.W.tabIn (K w.params) "_law_right" = some (ce,Pe))
  (F:∀ (w:World) (mg:Str->Option Value) (h:Heap),(K w.params).In h->h.Ns mainGlobals mg->∃ T:Tx (K w.params) mg,T.oW=ce) :
  PySem.W.WalkO q loose XP YP l.row.toRowW d [] (fun f vs=>PySem.call f vs) :=
 L2.ab2 (n:=63) (k:=20) (x := "_law_script") (CX:=fun w=>bI l.prog w) (sp:=fun w=>Ae (K w.params) [(ce,Pe)]) (tabs:=[(ce,Pe)]) hn (by decide) vt ⟨rfl,by decide,by decide⟩ hY o9
  (fun w t ht=>by
   rw [FM.mp ht];exact let ⟨e,h1,h2⟩:=jl w; ⟨_,e,h1,h2⟩)
  (fun w mg fa h KX G hfa=>by
   obtain ⟨T,rfl⟩:=F w mg h KX G;rw [jq] at hfa;have e:=hfa.symm.trans T.Q4;cases e;refine ⟨T.xW,fun s u=>by obtain ⟨oc,od,kV,doc,pm,an,ao,ct,dF,e,_⟩:=T.wU.ex; rw [e]; exact .of_eq rfl,fun base _ _ hb=>?_⟩;have g0:=hb (T.oW,Pe) (by simp);exact V9 T g0.1 g0.2)
  (fun _ _ a ns _ hO hS=>Tv hO hS) fun _ _ _ _ _ z=>Vi z
end L2.bM

open PySem PySem.W PyProof.Rows
local macro_rules | `(tactic| walk_at "fa")=>`(tactic| (refine' L2.FA.mk ?n ?l ?c ?k; (case n=>k_is); (case l=>k_is); (case c=>k_is); (case k=>k_is)))
local macro_rules | `(tactic| walk_at "ma")=>`(tactic| (refine' L2.MA.mk ?n ?l ?c ?k ?t; (case n=>k_is); (case l=>k_is); (case c=>k_is); (case k=>k_is); (case t=>k_is)))
local macro_rules | `(tactic| walk_at "ar")=>`(tactic| (intro _ _ _ _ _ _; first | (refine L2.Gu ?_; exact fun _=>rfl) | (refine L2.KU ?_; exact fun _ _=>rfl) | (refine L2.Ck ?_; exact fun _ _ _=>rfl) | (refine L2.wH ?_; exact fun _ _ _ _=>rfl) | (refine L2.vy ?_; exact fun _ _ _ _ _=>rfl) | (refine L2.Dw ?_; exact fun _ _ _ _ _ _=>rfl) | (refine L2.YZ ?_; exact fun _ _ _ _ _ _ _=>rfl) | (refine L2.Fu ?_; exact rfl)))
local macro_rules | `(tactic| walk_at "mg")=>`(tactic| (refine' PySem.W.mg_of (by assumption) (by assumption) ?n; (case n=>k_is)))
local macro_rules | `(tactic| walk_at "mn")=>`(tactic| (refine' PySem.W.mg_none_of (by assumption) (by assumption) ?n; (case n=>k_is)))
local macro_rules | `(tactic| walk_at "ft")=>`(tactic| (refine' Classical.choice (L2.FA.gt (by assumption) (by assumption) ?b ?a); (case a=>walk_at "fa"); (case b=>walk_at "ar")))
local macro_rules | `(tactic| walk_at "mt")=>`(tactic| (refine' Classical.choice (L2.MA.gt ?b ?a); (case a=>walk_at "ma"); (case b=>walk_at "ar")))
local macro_rules | `(tactic| walk_at "mk")=>`(tactic| (refine' L2.Xm ?a ?b; (case a=>k_is); (case b=>k_is)))
local macro_rules | `(tactic| walk_at "xf")=>`(tactic| (refine' L2.Ym ?a ?b ?c ?d ?e ?f ?g; (case a=>kernel_rfl); (case b=>k_is); (case c=>k_is); (case d=>k_is); (case e=>k_is); (case f=>k_is); (case g=>k_is)))
local macro_rules | `(tactic| walk_at "cl")=>`(tactic| (refine' L2.df.mk ?a ?b ?c ?d; (case a=>k_is); (case b=>k_is); (case c=>k_is); (case d=>k_is)))
local macro_rules | `(tactic| walk_at "fu")=>`(tactic| (refine' L2.CB ?l ?c ?k; (case l=>k_is); (case c=>k_is); (case k=>k_is)))
local macro_rules | `(tactic| walk_at "fd")=>`(tactic| (refine' L2.Tt ?l ?c ?k ?d ?h; (case l=>k_is); (case c=>k_is); (case k=>k_is); (case d=>k_is); (case h=>exact rfl)))
set_option maxRecDepth 100000 in
set_option maxHeartbeats 0 in
theorem PySem.Challenge.cw_leadnames_k43_which_refusal_first_holds : PySem.Challenge.rw_leadnames_k43_which_refusal_first.Holds := by
 refine L2.bM.hd0 ?_;unfold L2.bM.fJ
 k_fill
 refine L2.bM.Yx (l:=PySem.Challenge.rw_leadnames_k43_which_refusal_first) (ce:=?ce) (Pe:=?Pe) rfl rfl rfl (fun w h Y=>PySem.W.km_in_of (e:=fun _=>by kernel_rfl) Y) ?o9 ?jl ?F
 case o9=>intro w; first | kernel_rfl | exact rfl
 case jl =>
  intro w;refine' ⟨_,rfl,L2.ack ?n0 ?l0 ?c0 ?lc0 ?v0⟩
  (case n0=>k_is)
  (case l0=>k_is)
  (case c0=>exact rfl)
  (case lc0=>k_is)
  (case v0=>exact rfl)
 case F =>
  intro w mg h KX G;refine' ⟨L2.bM.Tx.mk ?_ ?_ ?_ ?_ ?_ ?_ ?_ ?_ ?_ ?_ ?_ ?_ ?_ ?_ ?_ ?_ ?_ ?_ ?_ ?_ ?_ ?_ ?_ ?_ ?_ ?_ ?_ ?me ?_ ?qS ?Ku ?KA ?pB ?_ ?Cs ?GN ?Am ?_ ?_ ?_ ?_ ?_ ?_ ?_ ?_ ?_ ?_ ?_ ?_ ?_ ?_ ?w9 ?_ ?C9 ?_ ?wU ?_ ?Kb ?_ ?zp ?_ ?_ ?_ ?_ ?_ ?_ ?_ ?_ ?_ ?_ ?_ ?_ ?_ ?_ ?_ ?_ ?_ ?_ ?_ ?_ ?_ ?_ ?_ ?_ ?_ ?_ ?wL ?_ ?_ ?Ai ?_ ?_ ?_ ?_ ?_ ?_ ?_ ?_ ?_ ?_ ?_ ?_ ?_ ?_ ?_ ?_ ?_ ?_ ?_ ?_ ?_ ?_ ?_ ?_ ?_ ?_ ?_ ?_ ?_ ?_ ?_ ?_ ?_ ?_ ?_ ?_ ?_ ?_ ?_ ?_ ?_ ?_ ?_ ?_ ?_ ?_ ?_ ?_ ?_ ?_ ?_ ?_ ?_ ?_ ?_ ?_ ?_ ?_ ?_ ?_ ?_ ?_ ?_ ?_ ?_ ?_ ?_ ?_ ?_ ?_ ?_ ?_ ?_ ?_ ?_ ?_ ?_ ?_ ?_ ?_ ?_ ?_ ?_ ?_ ?_ ?_ ?_ ?_ ?_ ?_ ?_ ?_ ?_ ?_ ?_ ?_ ?_ ?_ ?_ ?_ ?_ ?_ ?_ ?_ ?_ ?_ ?_ ?_ ?_ ?_ ?_ ?_ ?_ ?_ ?_ ?_ ?_ ?_ ?_ ?_ ?_ ?_ ?_ ?_ ?_ ?_ ?_ ?_ ?_ ?_ ?_ ?_ ?_ ?_ ?_ ?_ ?_ ?_ ?_ ?_ ?_ ?_ ?_ ?_ ?_ ?_ ?_ ?_ ?_ ?_ ?_ ?_ ?_ ?_ ?_ ?_ ?_ ?_ ?_ ?_ ?_ ?_ ?_ ?_ ?_ ?_ ?_ ?_ ?_ ?_ ?_ ?_ ?_ ?_ ?_ ?_ ?_ ?_ ?_ ?_ ?_ ?_ ?_ ?_ ?_ ?_ ?_ ?_ ?_ ?_ ?_ ?_ ?_ ?_ ?_ ?_ ?_ ?_ ?_ ?_ ?_ ?_ ?_ ?_ ?_ ?_ ?_ ?_ ?_ ?_ ?_ ?_ ?_ ?_ ?_ ?_ ?_ ?_ ?_ ?_ ?_ ?_ ?_ ?_ ?_ ?_ ?_ ?_ ?_ ?_ ?_ ?_ ?_ ?_ ?_ ?_ ?_ ?_ ?_ ?_ ?_ ?_ ?_ ?_ ?_ ?_ ?_ ?_ ?_ ?_ ?_ ?_ ?_ ?_ ?_ ?_ ?_ ?_ ?_ ?_ ?_ ?_ ?_ ?_ ?_ ?_ ?_,rfl⟩

  all_goals try (first | walk_at "mg" | walk_at "ft" | walk_at "mt" | k_is | (show PySem.W.findIn _ _ _=some none; k_is) | walk_at "mn" | kit_is | k_exc | walk_at "mk" | walk_at "cl" | walk_at "xf" | exact rfl | kernel_rfl)
  (case zp=>(refine' L2.bM.SV ?l_DOTS; (case l_DOTS=>k_is)))
  (case wL=>(refine' L2.bM.Ra ?l_RIGHTS; (case l_RIGHTS=>k_is)))
  (case Ai=>(refine' L2.bM.OZ ?l_SINGLE_RIGHTS; (case l_SINGLE_RIGHTS=>k_is)))
  (case me=>walk_at "fd")
  (case qS=>exact L2.qB (x := "make_folder") (y := "make_folder") (st:=L2.bM.nY) (ds:=[.str "lgw" _,.str "" _]) 2 (by k_is) (by exact rfl) (fun _ _ _ _ _ _ _ us hl=>by (have e:us.length=5:=(by have h:=hl; rw [List.length_append] at h; simp at h; omega)); clear hl; revert us; refine L2.vy ?_; exact fun _ _ _ _ _=>⟨_,rfl,rfl⟩))
  (case Ku=>exact L2.qB (x := "make_folder") (y := "make_folder") (st:=L2.bM.nY) (ds:=[.str "lgw" _,.str "" _]) 1 (by k_is) (by exact rfl) (fun _ _ _ _ _ _ _ us hl=>by (have e:us.length=4:=(by have h:=hl; rw [List.length_append] at h; simp at h; omega)); clear hl; revert us; refine L2.wH ?_; exact fun _ _ _ _=>⟨_,rfl,rfl⟩))
  (case KA=>exact L2.qB (x := "make_folder") (y := "make_folder") (st:=L2.bM.nY) (ds:=[.str "lgw" _,.str "" _]) 0 (by k_is) (by exact rfl) (fun _ _ _ _ _ _ _ us hl=>by (have e:us.length=3:=(by have h:=hl; rw [List.length_append] at h; simp at h; omega)); clear hl; revert us; refine L2.Ck ?_; exact fun _ _ _=>⟨_,rfl,rfl⟩))
  (case pB=>walk_at "fd")
  (case Cs=>exact L2.qB (x := "make_file") (y := "make_file") (st:=L2.bM.oM) (ds:=[.str "lgw" _,.str "" _]) 2 (by k_is) (by exact rfl) (fun _ _ _ _ _ _ _ us hl=>by (have e:us.length=6:=(by have h:=hl; rw [List.length_append] at h; simp at h; omega)); clear hl; revert us; refine L2.Dw ?_; exact fun _ _ _ _ _ _=>⟨_,rfl,rfl⟩))
  (case GN=>exact L2.qB (x := "make_file") (y := "make_file") (st:=L2.bM.oM) (ds:=[.str "lgw" _,.str "" _]) 1 (by k_is) (by exact rfl) (fun _ _ _ _ _ _ _ us hl=>by (have e:us.length=5:=(by have h:=hl; rw [List.length_append] at h; simp at h; omega)); clear hl; revert us; refine L2.vy ?_; exact fun _ _ _ _ _=>⟨_,rfl,rfl⟩))
  (case Am=>exact L2.qB (x := "make_file") (y := "make_file") (st:=L2.bM.oM) (ds:=[.str "lgw" _,.str "" _]) 0 (by k_is) (by exact rfl) (fun _ _ _ _ _ _ _ us hl=>by (have e:us.length=4:=(by have h:=hl; rw [List.length_append] at h; simp at h; omega)); clear hl; revert us; refine L2.wH ?_; exact fun _ _ _ _=>⟨_,rfl,rfl⟩))
  (case w9=>walk_at "fu")
  (case C9=>exact L2.Binds.all (fun us hl=>match us,hl with | [_,_],_=>rfl))
  (case wU=>walk_at "fu")
  (case Kb=>exact L2.Binds.all (fun us hl=>match us,hl with | [_],_=>rfl))
  all_goals try (first | walk_at "mg" | walk_at "ft" | walk_at "mt" | k_is | (show PySem.W.findIn _ _ _=some none; k_is) | walk_at "mn" | kit_is | k_exc | walk_at "mk" | walk_at "cl" | walk_at "xf" | exact rfl | kernel_rfl)

