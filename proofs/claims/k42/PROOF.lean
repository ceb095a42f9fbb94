import PyProof.Rows.All
import Wide.All
import OpenK.AllK
import Wide.FinOn
import Lean
import PyProof.EqAt
import PyProof.EqKinds
import PyProof.TupleCall
import PyProof.NsDelKeeps
import PyProof.InstStoreFacts
import KE.KLam
import KE.KRevIter
import PyProof.ZipIter
import KE.KUnpack
import PyProof.Conv_int_bool
import PyProof.CallStr
import PySem.Challenge.RW_leadnames_k42_seats
set_option Elab.async false
set_option linter.all false
set_option maxRecDepth 100000
namespace L2
open PySem PySem.W
def pO (tb:String->Option Builtin) (p:Program) (w:World) (n₀:Nat) (ann:Option Value):Nat->SharedT->Thread->Option SharedT
 | 0,_,_=>none
 | n+1,s,t=>match through t with
  | true=>some s
  | false=>match stepOk n₀ ann t with
   | false=>none
   | true=>match stepT (denote tb) p w s t with
    | some (s',t')=>pO tb p w n₀ ann n s' t'
    | none=>none
theorem JB {tb:String->Option Builtin} {p:Program} {w:World} {n₀:Nat} {ann:Option Value}:∀ {n:Nat} {s s':SharedT} {t:Thread},pO tb p w n₀ ann n s t=some s'->topRun tb p w n₀ ann n s.abs t=some s'.abs
 | 0,_,_,_,h=>by cases h
 | n+1,s,s',t,h=>by
  unfold pO at h;unfold topRun;cases he:through t with
  | true=>rw [he] at h; cases h; rfl
  | false =>
   rw [he] at h;cases hk:stepOk n₀ ann t with
   | false=>rw [hk] at h; cases h
   | true =>
    rw [hk] at h;cases hs:stepT (denote tb) p w s t with
    | none=>rw [hs] at h; cases h
    | some r=>obtain ⟨s₂,t₂⟩:=r; rw [hs] at h; rw [stepT_spec hs]; exact JB h
def treeOf:List Obj->Nat->BT->BT
 | [],_,t=>t
 | o::r,n,t=>treeOf r (n+1) (t.ins n o)
theorem LeftO.RT {p q:Program} {loose:List Str} {Xt:Shared->Bool} {α:Type} {Yf:Shared->α} {Ya:World->α} {N:Nat} {g0:Bool} {H₀:Params->Heap} {T₀:Params->BT} {n₀:Nat} {life:Life} {m5:Array GenState} {d₀:Drawn} {k₀:Nat} {ann:Option Value}
  (EI:∀ w:World,(fencedOpening treeTable p w N).map (fun s=>(s.heap,s.gens,s.drawn,s.toks))=some (H₀ w.params,m5,d₀,k₀))
  (tr:∀ P:Params,absHeap (T₀ P) n₀ life=H₀ P)
  (size:∀ P:Params,((H₀ P).isNs mainGlobals && m5.size == 0,(H₀ P).objs.size,(H₀ P).nsMap mainGlobals "__annotations__")=(true,n₀,ann))
  (run:∀ (w:World) (os:OsState),(pO treeTable p w n₀ ann N ⟨T₀ w.params,n₀,life,m5,d₀,k₀,os⟩ (topStub p)).map (fun s=>((staticsOk (importedModules p.main.body) (H₀ w.params) s.abs.heap && namesBound p s.abs.heap && gensDone s.abs && laidKept (H₀ w.params) s.abs.heap),
    openSeen q loose (importedModules p.main.body) Xt g0 s.abs,Yf s.abs))=some (true,openGood q loose,Ya w)):LeftO p q loose Xt Yf Ya N g0:=fun w=>by
 obtain ⟨⟨h,gs,d,k,os⟩,e,e'⟩:=Option.map_eq_some_iff.mp (EI w);obtain ⟨rfl,rfl,rfl,rfl⟩:h=H₀ w.params/\gs=m5/\d=d₀/\k=k₀:=by simpa using e'
 obtain ⟨z1,z2,z3⟩:_/\_/\_:=by simpa only [Prod.mk.injEq] using size w.params
 obtain ⟨s₁,r1,r2⟩:=Option.map_eq_some_iff.mp (run w os);obtain ⟨l1,l2,l3⟩:_/\_/\_:=by simpa only [Prod.mk.injEq] using r2
 have r:=JB r1;have ea:SharedT.abs ⟨T₀ w.params,n₀,life,gs,d,k,os⟩=⟨H₀ w.params,gs,d,k,os⟩:=by
  unfold SharedT.abs;rw [tr]
 rw [ea] at r;have t:topFrom treeTable p w N ⟨H₀ w.params,gs,d,k,os⟩=some s₁.abs:=by
  unfold topFrom;dsimp only;rw [z1,z2,z3,r];show (match staticsOk (importedModules p.main.body) (H₀ w.params) s₁.abs.heap && namesBound p s₁.abs.heap && gensDone s₁.abs && laidKept (H₀ w.params) s₁.abs.heap with | true=>_ | false=>_)=_;rw [l1]
 unfold openEnds;rw [e];show (topFrom treeTable p w N _).map _=_;rw [t];exact congrArg some (Prod.ext l2 l3)
def eG (ok:Nat->Option Value->Thread->Bool) (st:SharedT->Thread->Option (SharedT×Thread)) (n₀:Nat) (ann:Option Value):Nat->SharedT->Thread->Option SharedT
 | 0,_,_=>none
 | n+1,s,t=>match through t with
  | true=>some s
  | false=>match ok n₀ ann t with
   | false=>none
   | true=>match st s t with
    | some (s',t')=>eG ok st n₀ ann n s' t'
    | none=>none
theorem Gj {tb:String->Option Builtin} {p:Program} {w:World} {n₀:Nat} {ann:Option Value}:∀ (n:Nat) (s:SharedT) (t:Thread),eG stepOk (stepT (denote tb) p w) n₀ ann n s t=pO tb p w n₀ ann n s t
 | 0,_,_=>rfl
 | n+1,s,t=>by
  unfold eG pO;cases through t with
  | true=>rfl
  | false =>
   cases stepOk n₀ ann t with
   | false=>rfl
   | true =>
    cases stepT (denote tb) p w s t with
    | none=>rfl
    | some r=>exact Gj n r.1 r.2
theorem LeftO.TM {p q:Program} {loose:List Str} {Xt:Shared->Bool} {α:Type} {Yf:Shared->α} {Ya:World->α} {N:Nat} {g0:Bool} {H₀:Params->Heap} {T₀:Params->BT} {n₀:Nat} {life:Life} {m5:Array GenState} {d₀:Drawn} {k₀:Nat} {ann:Option Value}
  {ok:Nat->Option Value->Thread->Bool} {st:(Code->Sem Fin)->Program->World->SharedT->Thread->Option (SharedT×Thread)} {den:(String->Option Builtin)->Code->Sem Fin} {tb:String->Option Builtin}
  (e1:stepOk=ok) (e2:stepT=st) (e3:denote=den) (e4:treeTable=tb)
  (EI:∀ w:World,(fencedOpening treeTable p w N).map (fun s=>(s.heap,s.gens,s.drawn,s.toks))=some (H₀ w.params,m5,d₀,k₀))
  (tr:∀ P:Params,absHeap (T₀ P) n₀ life=H₀ P)
  (size:∀ P:Params,((H₀ P).isNs mainGlobals && m5.size == 0,(H₀ P).objs.size,(H₀ P).nsMap mainGlobals "__annotations__")=(true,n₀,ann))
  (run:∀ (w:World) (os:OsState),(eG ok (st (den tb) p w) n₀ ann N ⟨T₀ w.params,n₀,life,m5,d₀,k₀,os⟩ (topStub p)).map (fun s=>((staticsOk (importedModules p.main.body) (H₀ w.params) s.abs.heap && namesBound p s.abs.heap && gensDone s.abs && laidKept (H₀ w.params) s.abs.heap),
    openSeen q loose (importedModules p.main.body) Xt g0 s.abs,Yf s.abs))=some (true,openGood q loose,Ya w)):LeftO p q loose Xt Yf Ya N g0:=by
 subst e1 e2 e3 e4;refine LeftO.RT EI tr size fun w os=>?_;rw [<- Gj];exact run w os
noncomputable def fC (P:Params):BT:=treeOf (boot_heap P).objs.toList 0 .nil
end L2

namespace L2
open PySem PySem.W PyProof.Rows
theorem QM {α β γ:Type} {o:Option α} {F:α->β×γ} {G:β×γ} (h1:o.map (fun s=>(F s).1)=some G.1) (h2:o.map (fun s=>(F s).2)=some G.2):o.map F=some G:=by
 cases o with
 | none=>cases h1
 | some a=>injection h1 with h1; injection h2 with h2; exact congrArg some (Prod.ext h1 h2)
theorem atS {α β:Type} {o:Option α} {s:α} {f:α->β} {g:β} (hs:o=some s) (h:o.map f=some g):f s=g:=by
 subst hs; exact Option.some.inj h
theorem jz {α β:Type} {a b:α} {c d:β} (h:a=b) (k:c=d):(a,c)=(b,d):=by rw [h,k]
def F0 (p:Program) (H₀:Heap) (s:SharedT):Bool:=staticsOk (importedModules p.main.body) H₀ s.abs.heap && namesBound p s.abs.heap && gensDone s.abs && laidKept H₀ s.abs.heap
def F3 (p q:Program) (loose:List Str) (Xt:Shared->Bool) (g0:Bool) (s:SharedT):Bool:=s.abs.heap.keysOk (looseW q loose) ((recsOf q).map (·.name)) ((litsOf q).map (·.1)) ((clssOf q (looseW q loose)).map (·.name)) && s.abs.heap.accountedOkI (importedModules p.main.body) && s.abs.heap.isNs mainGlobals && s.abs.heap.isNs builtinsNs && tablesOk q s.abs.heap && Xt s.abs && (if g0 then s.abs.gens.size == 0 else !leftWithCleanup s.abs.gens)
def F1 (q:Program) (s:SharedT):=seen ((recsOf q).map (·.name)) (ownsOf q) [] { s.abs with gens:=#[] }
theorem PB {p q:Program} {loose:List Str} {Xt:Shared->Bool} {α:Type} {Yf:Shared->α} {Ya:World->α} {g0:Bool} {H₀:Heap} {o:Option SharedT} {w:World}
  (q0:o.map (F0 p H₀)=some true) (q1:o.map (F1 q)=some (expectedOf q)) (q2:o.map (fun s:SharedT=>s.abs.heap.bltView)=some bltViewBooted)
  (q3:o.map (F3 p q loose Xt g0)=some true) (q4:o.map (fun s:SharedT=>tabsOk q s.abs)=some true) (q5:o.map (fun s:SharedT=>pinSeenD q (drecsOf q) s.abs)=some (pinGoodD (drecsOf q)))
  (q6:o.map (fun s:SharedT=>plainSeenE q (looseW q loose) s.abs)=some (plainGoodE q (looseW q loose))) (q7:o.map (fun s:SharedT=>plainSeenD q loose s.abs)=some (plainGoodD q loose))
  (q8:o.map (fun s:SharedT=>wideSeen q s.abs)=some (wideGood q)) (q9:o.map (fun s:SharedT=>clsSeenW q loose s.abs)=some (clsGoodW q loose))
  (pX:o.map (fun s:SharedT=>Yf s.abs)=some (Ya w)) :
  o.map (fun s:SharedT=>(F0 p H₀ s,openSeen q loose (importedModules p.main.body) Xt g0 s.abs,Yf s.abs))=some (true,openGood q loose,Ya w):=by
 obtain ⟨s,hs,a0⟩:=Option.map_eq_some_iff.mp q0;have a1:=atS hs q1;have a2:=atS hs q2;have a3:=atS hs q3;have a4:=atS hs q4;have a5:=atS hs q5;have a6:=atS hs q6;have a7:=atS hs q7;have a8:=atS hs q8;have a9:=atS hs q9;have a10:=atS hs pX;clear q0 q1 q2 q3 q4 q5 q6 q7 q8 q9 pX;subst hs;show some _=some _;refine congrArg some (jz a0 (jz ?_ a10));unfold openSeen openGood;exact jz a1 (jz a2 (jz a3 (jz a4 (jz a5 (jz a6 (jz a7 (jz a8 a9)))))))
theorem rR {α β γ:Type} {o:Option α} {f:α->β} {g:α->γ} {b:β} {c:γ} (h:o.map (fun s=>(f s,g s))=some (b,c)):o.map f=some b:=by
 cases o with
 | none=>cases h
 | some a=>injection h with h; exact congrArg some (congrArg Prod.fst h)
theorem fP {α β γ:Type} {o:Option α} {f:α->β} {g:α->γ} {b:β} {c:γ} (h:o.map (fun s=>(f s,g s))=some (b,c)):o.map g=some c:=by
 cases o with
 | none=>cases h
 | some a=>injection h with h; exact congrArg some (congrArg Prod.snd h)
theorem sV {α β γ:Type} {o:Option α} {l:List β} {f:α->β->γ} {g:β->γ} (n:Nat) (h1:o.map (fun s=>(l.take n).map (f s))=some ((l.take n).map g)) (h2:o.map (fun s=>(l.drop n).map (f s))=some ((l.drop n).map g)):o.map (fun s=>l.map (f s))=some (l.map g):=by
 cases o with
 | none=>cases h1
 | some a =>
  injection h1 with h1;injection h2 with h2;refine congrArg some ?_;show l.map (f a)=l.map g;rw [<- List.take_append_drop n l,List.map_append,List.map_append];exact congr (congrArg _ h1) h2
theorem Sb {K:Params->Frag} {as:List Addr} {e:∀ P,as=(K P).map (·.1)} {ts:List Addr} {o:Option SharedT} {w:World} (h:o.map (fun s=>(K w.params).map fun p=>s.abs.heap.get? p.1)=some ((K w.params).map fun p=>some p.2)) (ht:o.map (fun s=>ts.map s.abs.heap.get?)=some (ts.map fun _=>some (tabObj #[]))) :
  o.map (fun s=>(kmHook K as e ts).obs s.abs)=some ((kmHook K as e ts).val w):=by
 refine QM (F:=fun s:SharedT=>(kmHook K as e ts).obs s.abs) (G:=(kmHook K as e ts).val w) ?_ ht;show o.map (fun s:SharedT=>as.map s.abs.heap.get?)=some ((K w.params).map fun p=>some p.2);rw [e w.params];simp only [List.map_map];exact h
end L2

section
open PySem PySem.W PyProof.Rows
namespace L2.bG
theorem sa:(PySem.Challenge.rw_leadnames_k42_seats).row.wellSaid=true:=by kernel_rfl
theorem Hj:(PySem.Challenge.rw_leadnames_k42_seats).wellSaid=true:=by
 unfold OpenLaw.wellSaid
 iterate 18 refine look_both ?_ ?_
 ·exact sa
 all_goals kernel_rfl
noncomputable def QV:Program:=view (PySem.Challenge.rw_leadnames_k42_seats).prog [0,2,3,4,5,6,7,8,9,10,11,13,14,15,16,17,19,20,21,22,23,24,25,26,27,28,29,30,31,32,33,34,35,36,37,39,40,41,42,43,45,46,47,48,49,50,51,52,53,54,58,59,60,61,62,63,64,65,66,67,68,69,70,71,72,75,76,77,79,80,82,83,84,85,86,87,88,89,90,91,92,93,94,95]
theorem gP:∀ w:World,(fencedOpening treeTable (PySem.Challenge.rw_leadnames_k42_seats).prog w 16178).map (fun s=>(s.heap,s.gens,s.drawn,s.toks))=some (boot_heap w.params,Array.mk [],boot_drawn,boot_toks):=boot_open rfl rfl (fun _=>rfl)
theorem cy:∀ P:Params,absHeap (L2.fC P) 11 {}=boot_heap P:=by intro P; kernel_rfl
theorem js:∀ P:Params,((boot_heap P).isNs mainGlobals && (Array.mk ([]:List GenState)).size == 0,(boot_heap P).objs.size,(boot_heap P).nsMap mainGlobals "__annotations__")=(true,11,some (.ref 6)):=by intro P; kernel_rfl
set_option maxHeartbeats 0
theorem qL (w:World) (os:OsState):((eG PySem.W.Fast.tw6613529449190102663 (PySem.W.Fast.tw10156331382660048174 (PySem.W.Fast.tw11892475500146522536 PySem.W.Fast.tw14364793385576792824) (PySem.Challenge.rw_leadnames_k42_seats).prog w) 11 (some (.ref 6)) 16178 ⟨L2.fC w.params,11,{},Array.mk [],boot_drawn,boot_toks,os⟩ (topStub (PySem.Challenge.rw_leadnames_k42_seats).prog))).map (fun s=>(((staticsOk (importedModules (PySem.Challenge.rw_leadnames_k42_seats).prog.main.body) (boot_heap w.params) s.abs.heap && namesBound (PySem.Challenge.rw_leadnames_k42_seats).prog s.abs.heap && gensDone s.abs && laidKept (boot_heap w.params) s.abs.heap)),s.abs.heap.bltView,pinSeenD QV (drecsOf QV) s.abs,plainSeenD QV [PySem.Str.ofString "walk",PySem.Str.ofString "asked_of",PySem.Str.ofString "make_folder",PySem.Str.ofString "make_file"] s.abs,clsSeenW QV [PySem.Str.ofString "walk",PySem.Str.ofString "asked_of",PySem.Str.ofString "make_folder",PySem.Str.ofString "make_file"] s.abs,[1101,1077].map s.abs.heap.get?))=some ((true,bltViewBooted,pinGoodD (drecsOf QV),plainGoodD QV [PySem.Str.ofString "walk",PySem.Str.ofString "asked_of",PySem.Str.ofString "make_folder",PySem.Str.ofString "make_file"],clsGoodW QV [PySem.Str.ofString "walk",PySem.Str.ofString "asked_of",PySem.Str.ofString "make_folder",PySem.Str.ofString "make_file"],[1101,1077].map fun _=>some (tabObj #[]))):=by kernel_rfl
theorem qMa (w:World) (os:OsState):((eG PySem.W.Fast.tw6613529449190102663 (PySem.W.Fast.tw10156331382660048174 (PySem.W.Fast.tw11892475500146522536 PySem.W.Fast.tw14364793385576792824) (PySem.Challenge.rw_leadnames_k42_seats).prog w) 11 (some (.ref 6)) 16178 ⟨L2.fC w.params,11,{},Array.mk [],boot_drawn,boot_toks,os⟩ (topStub (PySem.Challenge.rw_leadnames_k42_seats).prog))).map (fun s=>seen ((recsOf QV).map (·.name)) (ownsOf QV) [] { s.abs with gens:=#[] })=some (expectedOf QV):=by kernel_rfl
theorem Xc (w:World) (os:OsState):((eG PySem.W.Fast.tw6613529449190102663 (PySem.W.Fast.tw10156331382660048174 (PySem.W.Fast.tw11892475500146522536 PySem.W.Fast.tw14364793385576792824) (PySem.Challenge.rw_leadnames_k42_seats).prog w) 11 (some (.ref 6)) 16178 ⟨L2.fC w.params,11,{},Array.mk [],boot_drawn,boot_toks,os⟩ (topStub (PySem.Challenge.rw_leadnames_k42_seats).prog))).map (fun s=>wideSeen QV s.abs)=some (wideGood QV):=by kernel_rfl
theorem q3 (w:World) (os:OsState):((eG PySem.W.Fast.tw6613529449190102663 (PySem.W.Fast.tw10156331382660048174 (PySem.W.Fast.tw11892475500146522536 PySem.W.Fast.tw14364793385576792824) (PySem.Challenge.rw_leadnames_k42_seats).prog w) 11 (some (.ref 6)) 16178 ⟨L2.fC w.params,11,{},Array.mk [],boot_drawn,boot_toks,os⟩ (topStub (PySem.Challenge.rw_leadnames_k42_seats).prog))).map (fun s=>(s.abs.heap.keysOk (looseW QV [PySem.Str.ofString "walk",PySem.Str.ofString "asked_of",PySem.Str.ofString "make_folder",PySem.Str.ofString "make_file"]) ((recsOf QV).map (·.name)) ((litsOf QV).map (·.1)) ((clssOf QV (looseW QV [PySem.Str.ofString "walk",PySem.Str.ofString "asked_of",PySem.Str.ofString "make_folder",PySem.Str.ofString "make_file"])).map (·.name)) && s.abs.heap.accountedOkI (importedModules (PySem.Challenge.rw_leadnames_k42_seats).prog.main.body) && s.abs.heap.isNs mainGlobals && s.abs.heap.isNs builtinsNs && tablesOk QV s.abs.heap && (fun s=>xlAt QV [] s && recOk (RowW.records (OpenRow.toRowW (PySem.Challenge.rw_leadnames_k42_seats).row)) s) s.abs && (if true then s.abs.gens.size == 0 else !leftWithCleanup s.abs.gens)))=some (true):=by kernel_rfl
theorem q4 (w:World) (os:OsState):((eG PySem.W.Fast.tw6613529449190102663 (PySem.W.Fast.tw10156331382660048174 (PySem.W.Fast.tw11892475500146522536 PySem.W.Fast.tw14364793385576792824) (PySem.Challenge.rw_leadnames_k42_seats).prog w) 11 (some (.ref 6)) 16178 ⟨L2.fC w.params,11,{},Array.mk [],boot_drawn,boot_toks,os⟩ (topStub (PySem.Challenge.rw_leadnames_k42_seats).prog))).map (fun s=>tabsOk QV s.abs)=some (true):=by kernel_rfl
theorem OW (w:World) (os:OsState):((eG PySem.W.Fast.tw6613529449190102663 (PySem.W.Fast.tw10156331382660048174 (PySem.W.Fast.tw11892475500146522536 PySem.W.Fast.tw14364793385576792824) (PySem.Challenge.rw_leadnames_k42_seats).prog w) 11 (some (.ref 6)) 16178 ⟨L2.fC w.params,11,{},Array.mk [],boot_drawn,boot_toks,os⟩ (topStub (PySem.Challenge.rw_leadnames_k42_seats).prog))).map (fun s=>(((plainsOf QV (looseW QV [PySem.Str.ofString "walk",PySem.Str.ofString "asked_of",PySem.Str.ofString "make_folder",PySem.Str.ofString "make_file"])).take 8).take 4).map fun c=>s.abs.heap.plainShapeAt c.withCmp)=some ((((plainsOf QV (looseW QV [PySem.Str.ofString "walk",PySem.Str.ofString "asked_of",PySem.Str.ofString "make_folder",PySem.Str.ofString "make_file"])).take 8).take 4).map fun c=>some c.withCmp.plainShape):=by kernel_rfl
theorem ZE (w:World) (os:OsState):((eG PySem.W.Fast.tw6613529449190102663 (PySem.W.Fast.tw10156331382660048174 (PySem.W.Fast.tw11892475500146522536 PySem.W.Fast.tw14364793385576792824) (PySem.Challenge.rw_leadnames_k42_seats).prog w) 11 (some (.ref 6)) 16178 ⟨L2.fC w.params,11,{},Array.mk [],boot_drawn,boot_toks,os⟩ (topStub (PySem.Challenge.rw_leadnames_k42_seats).prog))).map (fun s=>(((plainsOf QV (looseW QV [PySem.Str.ofString "walk",PySem.Str.ofString "asked_of",PySem.Str.ofString "make_folder",PySem.Str.ofString "make_file"])).take 8).drop 4).map fun c=>s.abs.heap.plainShapeAt c.withCmp)=some ((((plainsOf QV (looseW QV [PySem.Str.ofString "walk",PySem.Str.ofString "asked_of",PySem.Str.ofString "make_folder",PySem.Str.ofString "make_file"])).take 8).drop 4).map fun c=>some c.withCmp.plainShape):=by kernel_rfl
theorem RS (w:World) (os:OsState):((eG PySem.W.Fast.tw6613529449190102663 (PySem.W.Fast.tw10156331382660048174 (PySem.W.Fast.tw11892475500146522536 PySem.W.Fast.tw14364793385576792824) (PySem.Challenge.rw_leadnames_k42_seats).prog w) 11 (some (.ref 6)) 16178 ⟨L2.fC w.params,11,{},Array.mk [],boot_drawn,boot_toks,os⟩ (topStub (PySem.Challenge.rw_leadnames_k42_seats).prog))).map (fun s=>((plainsOf QV (looseW QV [PySem.Str.ofString "walk",PySem.Str.ofString "asked_of",PySem.Str.ofString "make_folder",PySem.Str.ofString "make_file"])).take 8).map fun c=>s.abs.heap.plainShapeAt c.withCmp)=some (((plainsOf QV (looseW QV [PySem.Str.ofString "walk",PySem.Str.ofString "asked_of",PySem.Str.ofString "make_folder",PySem.Str.ofString "make_file"])).take 8).map fun c=>some c.withCmp.plainShape):=L2.sV 4 (OW w os) (ZE w os)
theorem QD (w:World) (os:OsState):((eG PySem.W.Fast.tw6613529449190102663 (PySem.W.Fast.tw10156331382660048174 (PySem.W.Fast.tw11892475500146522536 PySem.W.Fast.tw14364793385576792824) (PySem.Challenge.rw_leadnames_k42_seats).prog w) 11 (some (.ref 6)) 16178 ⟨L2.fC w.params,11,{},Array.mk [],boot_drawn,boot_toks,os⟩ (topStub (PySem.Challenge.rw_leadnames_k42_seats).prog))).map (fun s=>((plainsOf QV (looseW QV [PySem.Str.ofString "walk",PySem.Str.ofString "asked_of",PySem.Str.ofString "make_folder",PySem.Str.ofString "make_file"])).drop 8).map fun c=>s.abs.heap.plainShapeAt c.withCmp)=some (((plainsOf QV (looseW QV [PySem.Str.ofString "walk",PySem.Str.ofString "asked_of",PySem.Str.ofString "make_folder",PySem.Str.ofString "make_file"])).drop 8).map fun c=>some c.withCmp.plainShape):=by kernel_rfl
theorem q6 (w:World) (os:OsState):((eG PySem.W.Fast.tw6613529449190102663 (PySem.W.Fast.tw10156331382660048174 (PySem.W.Fast.tw11892475500146522536 PySem.W.Fast.tw14364793385576792824) (PySem.Challenge.rw_leadnames_k42_seats).prog w) 11 (some (.ref 6)) 16178 ⟨L2.fC w.params,11,{},Array.mk [],boot_drawn,boot_toks,os⟩ (topStub (PySem.Challenge.rw_leadnames_k42_seats).prog))).map (fun s=>plainSeenE QV (looseW QV [PySem.Str.ofString "walk",PySem.Str.ofString "asked_of",PySem.Str.ofString "make_folder",PySem.Str.ofString "make_file"]) s.abs)=some (plainGoodE QV (looseW QV [PySem.Str.ofString "walk",PySem.Str.ofString "asked_of",PySem.Str.ofString "make_folder",PySem.Str.ofString "make_file"])):=L2.sV 8 (RS w os) (QD w os)
end L2.bG
end
section
open PySem PySem.W PyProof.Rows
local macro_rules | `(tactic| o_head $H)=>`(tactic| (refine (by assumption:∀ h':PySem.W.Hook,h'=_->PySem.W.OpenRow.Holds _) $H ?_; rfl))
set_option maxHeartbeats 0 in
noncomputable def L2.bG.eV:(h:Hook) ×' ((∀ h':Hook,h'=h->(PySem.Challenge.rw_leadnames_k42_seats).row.Holds)->(PySem.Challenge.rw_leadnames_k42_seats).row.Holds):=by
 refine' ⟨_,fun x=>_⟩
 rotate_left
 k_head
end
section
open PySem PySem.W PyProof.Rows
namespace L2.bG
set_option maxHeartbeats 0
theorem ya (w:World) (os:OsState):((eG PySem.W.Fast.tw6613529449190102663 (PySem.W.Fast.tw10156331382660048174 (PySem.W.Fast.tw11892475500146522536 PySem.W.Fast.tw14364793385576792824) (PySem.Challenge.rw_leadnames_k42_seats).prog w) 11 (some (.ref 6)) 16178 ⟨L2.fC w.params,11,{},Array.mk [],boot_drawn,boot_toks,os⟩ (topStub (PySem.Challenge.rw_leadnames_k42_seats).prog))).map (fun s=>(((eV.heap_1 w.params).take 347).take 173).map fun p=>s.abs.heap.get? p.1)=some ((((eV.heap_1 w.params).take 347).take 173).map fun p=>some p.2):=by kernel_rfl
theorem yb (w:World) (os:OsState):((eG PySem.W.Fast.tw6613529449190102663 (PySem.W.Fast.tw10156331382660048174 (PySem.W.Fast.tw11892475500146522536 PySem.W.Fast.tw14364793385576792824) (PySem.Challenge.rw_leadnames_k42_seats).prog w) 11 (some (.ref 6)) 16178 ⟨L2.fC w.params,11,{},Array.mk [],boot_drawn,boot_toks,os⟩ (topStub (PySem.Challenge.rw_leadnames_k42_seats).prog))).map (fun s=>(((eV.heap_1 w.params).take 347).drop 173).map fun p=>s.abs.heap.get? p.1)=some ((((eV.heap_1 w.params).take 347).drop 173).map fun p=>some p.2):=by kernel_rfl
theorem yc (w:World) (os:OsState):((eG PySem.W.Fast.tw6613529449190102663 (PySem.W.Fast.tw10156331382660048174 (PySem.W.Fast.tw11892475500146522536 PySem.W.Fast.tw14364793385576792824) (PySem.Challenge.rw_leadnames_k42_seats).prog w) 11 (some (.ref 6)) 16178 ⟨L2.fC w.params,11,{},Array.mk [],boot_drawn,boot_toks,os⟩ (topStub (PySem.Challenge.rw_leadnames_k42_seats).prog))).map (fun s=>(((eV.heap_1 w.params).drop 347).take 174).map fun p=>s.abs.heap.get? p.1)=some ((((eV.heap_1 w.params).drop 347).take 174).map fun p=>some p.2):=by kernel_rfl
theorem yd (w:World) (os:OsState):((eG PySem.W.Fast.tw6613529449190102663 (PySem.W.Fast.tw10156331382660048174 (PySem.W.Fast.tw11892475500146522536 PySem.W.Fast.tw14364793385576792824) (PySem.Challenge.rw_leadnames_k42_seats).prog w) 11 (some (.ref 6)) 16178 ⟨L2.fC w.params,11,{},Array.mk [],boot_drawn,boot_toks,os⟩ (topStub (PySem.Challenge.rw_leadnames_k42_seats).prog))).map (fun s=>(((eV.heap_1 w.params).drop 347).drop 174).map fun p=>s.abs.heap.get? p.1)=some ((((eV.heap_1 w.params).drop 347).drop 174).map fun p=>some p.2):=by kernel_rfl
theorem pX (w:World) (os:OsState):((eG PySem.W.Fast.tw6613529449190102663 (PySem.W.Fast.tw10156331382660048174 (PySem.W.Fast.tw11892475500146522536 PySem.W.Fast.tw14364793385576792824) (PySem.Challenge.rw_leadnames_k42_seats).prog w) 11 (some (.ref 6)) 16178 ⟨L2.fC w.params,11,{},Array.mk [],boot_drawn,boot_toks,os⟩ (topStub (PySem.Challenge.rw_leadnames_k42_seats).prog))).map (fun s=>Hook.obs eV.1 s.abs)=some (Hook.val eV.1 w) :=
 L2.Sb (K:=eV.heap_1) (e:=fun _=>by kernel_rfl) (L2.sV 347 (L2.sV 173 (ya w os) (yb w os)) (L2.sV 174 (yc w os) (yd w os))) (L2.fP (L2.fP (L2.fP (L2.fP (L2.fP (qL w os))))))
end L2.bG
local macro_rules | `(tactic| o_law)=>`(tactic| refine PySem.W.holds_law L2.bG.Hj fun Hj=>?_)
local macro_rules | `(tactic| k_head)=>`(tactic| (
 refine holds_open (q:=L2.bG.QV) (loose:=[PySem.Str.ofString "walk",PySem.Str.ofString "asked_of",PySem.Str.ofString "make_folder",PySem.Str.ofString "make_file"]) (Xt:=fun s=>xlAt L2.bG.QV [] s && recOk (RowW.records (OpenRow.toRowW (PySem.Challenge.rw_leadnames_k42_seats).row)) s) (XP:=XL L2.bG.QV []) (Yf:=Hook.obs L2.bG.eV.1) (Ya:=Hook.val L2.bG.eV.1) (YP:=Hook.says L2.bG.eV.1) (N:=16178) ?hl (Hook.of L2.bG.eV.1) (Hook.keeps L2.bG.eV.1) (fun s e=>xl_of s (Bool.and_eq_true_iff.mp e).1) XL.keeps (by rfl) (by rfl) (by rfl) (fun s e=>recFacts_of (Bool.and_eq_true_iff.mp e).2) (by rfl) (by first | assumption | decide +kernel) (by decide +kernel) ⟨rfl,rfl,rfl,rfl,rfl,by decide +kernel⟩ ?hw ?hc
 case hl =>
  refine L2.LeftO.TM PySem.W.Fast.te6613529449190102663 PySem.W.Fast.te10156331382660048174 PySem.W.Fast.te11892475500146522536 PySem.W.Fast.te14364793385576792824 L2.bG.gP L2.bG.cy L2.bG.js (fun w os=>?_);exact L2.PB (L2.rR (L2.bG.qL w os)) (L2.bG.qMa w os) (L2.rR (L2.fP (L2.bG.qL w os))) (L2.bG.q3 w os) (L2.bG.q4 w os) (L2.rR (L2.fP (L2.fP (L2.bG.qL w os)))) (L2.bG.q6 w os) (L2.rR (L2.fP (L2.fP (L2.fP (L2.bG.qL w os))))) (L2.bG.Xc w os) (L2.rR (L2.fP (L2.fP (L2.fP (L2.fP (L2.bG.qL w os)))))) (L2.bG.pX w os)))
set_option maxHeartbeats 0 in
open_top L2.bG.hd0 for PySem.Challenge.rw_leadnames_k42_seats
end

namespace L2
open PySem PySem.Spec PyProof.Rows
def wT:=@wpAny_bind
def xz:=@Heap.get?_push_of_some
def At:=@List.length_map
def AT:=@List.mem_cons
def Ch:=@decide_eq_false
def Cl:=@wpAny_pure
def Da:=@List.length_append
def Db:=@List.getElem?_eq_getElem
def Do:=@List.getElem?_eq_some_iff
def Ev:=@Nat.le_refl
def EQ:=@List.not_mem_nil
def Fa:=@Ne.symm
def Fk:=@Heap.lt_size
def Fr:=@List.size_toArray
def FB:=@Nat.lt_of_lt_of_le
def FM:=@Heap.get?_push_size
def FS:=@Bool.false_ne_true
def Gc:=@Nat.le_trans
def Go:=@decide_eq_true
def GE:=@Nat.ne_of_lt
def GM:=@List.all_eq_true
def GT:=@Nat.zero_le
def Id:=@if_neg
def Ix:=@List.map_cons
def IN:=@if_pos
def IO:=@List.mem_append_right
def IR:=@Bool.and_eq_true
def KB:=@or_false
def KK:=@List.nodup_cons
def KM:=@List.mem_singleton
def LE:=@List.mem_map
def LT:=@List.mem_cons_of_mem
def No:=@PySem.F.slot_list_append
def NE:=@PySem.F.type_list_append
def On:=@beq_eq_false_iff_ne
def Op:=@List.getElem?_map
def Os:=@List.length_cons
def Pi:=@PySem.mem_of_lookup
def Ps:=@List.getElem?_append_right
def PP:=@Option.some.inj
def P3:=@Bool.false_eq_true
def Re:=@List.getElem?_append_left
def Rs:=@wpAny_holding
def Sc:=@List.nodup_append
def SC:=@wpAny_Call_Name_kw
def SL:=@PySem.W.looks_findIn
def ST:=@Heap.get?_update_other
def SZ:=@Nat.lt_irrefl
def Tk:=@PySem.W.kia_one
def Tm:=@List.map_append
def Ty:=@wpAny_mono
def TD:=@List.all_cons
def TW:=@List.mem_append
def T0:=@List.mem_cons_self
def Uf:=@List.getElem?_set_ne
def UF:=@congrArg
def UV:=@List.mem_of_getElem?
def Wp:=@List.getElem?_set_self
def WF:=@Nat.lt_succ_self
def WP:=@List.map_nil
def W1:=@Array.length_toList
def XV:=@wpAny_truthy_bool
def ZB:=@Array.getElem?_toList
def _a:=@List.mem_append_left
def _b:=@Heap.get?_update_self
def _c:=@PySem.W.callWith_K
def _d:=@call_meets
def _e:=@PySem.boot_len
def _f:=@decide_eq_true_eq
def _g:=@List.flatMap_cons
def _h:=@List.append_nil
def _i:=@if_false
def _j:=@List.replicate_succ
def _k:=@PyProof.Rows.callWith_type1
def _l:=@List.take_of_length_le
def _m:=@List.map_map
def _n:=@List.any_cons
def _o:=@beq_iff_eq
def _p:=@Heap.size_push
def _q:=@Calls.spliced_cons
def _r:=@wpAny_call
def _s:=@wpAny_passesOwn
def _t:=@Bool.eq_iff_iff
def _u:=@List.find?_cons
def _v:=@Heap.get?_none_of_le
def _w:=@Calls.spliced_nil
def _x:=@codeAny_call_builtin
def _y:=@List.filterMap_cons
def _z:=@List.getElem_of_mem
def _A:=@PySem.W.looks_mroIn
def _B:=@wpAny_loadPart
def _C:=@PySem.W.Looks.ld
def _D:=@PySem.F.attr_ValueError
def _E:=@List.length_eq_zero_iff
def _F:=@Int.eq_ofNat_of_zero_le
def _G:=@List.getElem_map
def _H:=@wpAny_typeNameOfWhole_keyiter
def _I:=@codeAny_mono
def _J:=@tupleKind_room_in1
def _K:=@Calls.callWith_builtin
def _L:=@Nat.lt_of_le_of_lt
def _M:=@List.length_nil
def _N:=@F.slot_dict_keyiterator_next
def _O:=@PassesOwn.never
def _P:=@not_or
def _Q:=@PySem.F.slot_str_join
def _R:=@PySem.F.type_str_join
def _S:=@wpAny_newObj_type
def _T:=@PySem.F.slot_str_startswith
def _U:=@PySem.F.type_str_startswith
def _V:=@sizeLine_eq
def _W:=@typeIs_str
def _X:=@Calls.evalArgs_plain
def _Y:=@List.getD_eq_getElem?_getD
def _Z:=@PySem.F.excBase_ValueError
def _0:=@List.length_take
def _1:=@List.getElem_mem
def _2:=@wpAny_call_entry
def _3:=@F.plain_min_loop
def _4:=@Calls.call_function_entry
def _5:=@List.getElem?_zip_eq_some
def _6:=@Bool.or_false
def _7:=@Bool.not_true
def _8:=@wpAny_execs_nil
def _9:=@List.all_append
def Ja0:=@Int.emod_nonneg
def Ja1:=@List.mem_filterMap
def Ja2:=@Int.emod_lt_of_pos
def Ja3:=@PySem.F.slot_list_index
def Ja4:=@PySem.W.cellsFrom_some
def Ja5:=@List.flatten_cons
def Ja6:=@Option.map_eq_some_iff
def Ja7:=@List.nodup_nil
def Ja8:=@Nat.lt_succ_of_lt
def Ja9:=@not_false_eq_true
def Jaa:=@PySem.W.methodCall_KW
def Jab:=@List.length_replicate
def Jac:=@PySem.F.slot_dict_get
def Jad:=@List.length_filter_le
def Jae:=@List.getElem?_eq_none
def Jaf:=@List.mem_iff_getElem?
def Jag:=@List.eq_nil_or_concat
def Jah:=@List.concat_eq_append
def Jai:=@Nat.succ_le_succ
def Jaj:=@wpAny_standAt
def Jak:=@Nat.le_succ
def Jal:=@List.not_lt
def Jam:=@Array.toArray_toList
def Jan:=@Around.under_plainId
def Jao:=@List.of_mem_zip
def Jap:=@codeAny_builtin
def Jaq:=@wpAny_ite_split
def Jar:=@Bool.or_eq_true
def Jas:=@PySem.W.hideAll_get
def Jat:=@PySem.W.plainGet_of
def Jau:=@ne_true_of_eq_false
def Jav:=@PySem.W.kdu_collect
def Jaw:=@List.length_reverse
def Jax:=@Nat.le_of_lt
def Jay:=@Nat.ne_of_gt
def Jaz:=@PySem.W.of_hideAll
def JaA:=@List.mem_range
def JaB:=@Bool.false_and
def JaC:=@F.args_str_split_2
def JaD:=@Obj.data_mapFields
def JaE:=@Code.quiet_builtin
def JaF:=@wpAny_seqItems
def JaG:=@wpAny_attempt
def JaH:=@wpAny_newList
abbrev Key:=Sum Int Str
def nZ:Key->Value->Bool
 | .inl k,v=>Value.isInt k v
 | .inr x,v=>Value.isStrOf x v
def R6 (w:World):Key->Int
 | .inl k=>hashInt k
 | .inr x=>hashStr w x
def kT:∀ {k:Key} {v:Value},nZ k v=true->(∃ i t,k=Sum.inl i/\v=Value.int i t)\/(∃ x t,k=Sum.inr x/\v=Value.str x t)
 | .inl i,v,h=>by
  obtain ⟨t,e⟩:=Value.isInt_shape (k:=i) (v:=v) h;exact .inl ⟨i,t,rfl,e⟩
 | .inr x,v,h=>by
  obtain ⟨t,e⟩:=Value.isStrOf_shape (x:=x) (v:=v) h;exact .inr ⟨x,t,rfl,e⟩
def Ul (i:Int) (t:Tok):nZ (.inl i) (.int i t)=true:=by simp [nZ,Value.isInt]
def aaT (x:Str) (t:Tok):nZ (.inr x) (.str x t)=true:=by simp [nZ,Value.isStrOf]
def Wn (a b:Int):decide ((Sum.inl a:Key)=Sum.inl b)=(a == b):=by
 by_cases e:a=b
 ·subst e; simp
 ·have h:¬ (Sum.inl a:Key)=Sum.inl b:=fun q=>e (Sum.inl.inj q);rw [Ch h];exact (On.mpr e).symm
def WM (a b:Str):decide ((Sum.inr a:Key)=Sum.inr b)=decide (a=b):=by
 by_cases e:a=b
 ·subst e; simp
 ·have h:¬ (Sum.inr a:Key)=Sum.inr b:=fun q=>e (Sum.inr.inj q);rw [Ch h,Ch e]
def VJ (a:Int) (b:Str):decide ((Sum.inl a:Key)=Sum.inr b)=false:=Ch (fun q=>nomatch q)
def U0 (a:Str) (b:Int):decide ((Sum.inr a:Key)=Sum.inl b)=false:=Ch (fun q=>nomatch q)
def eI (prog:Program) (w:World):PySem.KeyKind prog w Key where
 is:=nZ
 hash:=R6 w
 inj:=fun v a b ha hb=>by
  rcases kT ha with ⟨i,t,rfl,rfl⟩ | ⟨x,t,rfl,rfl⟩
  ·rcases kT hb with ⟨j,u,rfl,e⟩ | ⟨y,u,rfl,e⟩
   ·injection e with e1 _; rw [e1]
   ·exact nomatch e
  ·rcases kT hb with ⟨j,u,rfl,e⟩ | ⟨y,u,rfl,e⟩
   ·exact nomatch e
   ·injection e with e1 _; rw [e1]
 byValue:=fun k v h=>by
  rcases kT h with ⟨i,t,rfl,rfl⟩ | ⟨x,t,rfl,rfl⟩ <;> rfl
 pyHash:=fun hv h=>by
  rcases kT hv with ⟨i,t,rfl,rfl⟩ | ⟨x,t,rfl,rfl⟩
  ·exact wpAny_pyHash_int h
  ·exact wpAny_pyHash_str h
 eqBool:=fun hu hv h=>by
  rcases kT hu with ⟨i,t,rfl,rfl⟩ | ⟨x,t,rfl,rfl⟩
  ·rcases kT hv with ⟨j,u,rfl,rfl⟩ | ⟨y,u,rfl,rfl⟩
   ·rw [Wn] at h; exact wpAny_eqBool_int h
   ·rw [VJ] at h; exact SeqAt.EqAt.int_str i t y u _ _ _ _ h
  ·rcases kT hv with ⟨j,u,rfl,rfl⟩ | ⟨y,u,rfl,rfl⟩
   ·rw [U0] at h; exact SeqAt.EqAt.str_int x t j u _ _ _ _ h
   ·rw [WM] at h; exact wpAny_eqBool_str h
 «strs»:=fun k x t v h=>by
  rcases kT h with ⟨i,u,rfl,e⟩ | ⟨y,u,rfl,e⟩
  ·exact nomatch e
  ·injection e with e1 _;subst e1;cases v <;> rfl
def QX (prog:Program) (w:World) (i:Int) (t:Tok):(eI prog w).is (.inl i) (.int i t)=true:=Ul i t
def Ze (prog:Program) (w:World) (x:Str) (t:Tok):(eI prog w).is (.inr x) (.str x t)=true:=aaT x t
inductive V where
 | au | bl (b:Bool) | int (i:Int) | str (x:Str) | byt (b:Array UInt8) | nq (b:UInt64) | ref (a:Addr) | ty (n:String)
 deriving DecidableEq
def RelV:V->Value->Prop
 | .au,u=>u=Value.none
 | .bl b,u=>u=Value.bool b
 | .int i,u=>∃ t,u=Value.int i t
 | .str x,u=>∃ t,u=Value.str x t
 | .byt b,u=>∃ t,u=Value.bytes b t
 | .nq b,u=>∃ t,u=Value.float b t
 | .ref a,u=>u=Value.ref a
 | .ty n,u=>u=Value.type n
abbrev Vals:List V->List Value->Prop:=Paired RelV
def Vals.length {xs:List V} {us:List Value} (r:Vals xs us):xs.length=us.length:=Paired.length r
def Vals.get:∀ {xs:List V} {us:List Value} {i:Nat} {x:V},Vals xs us->xs[i]?=some x->∃ u,us[i]?=some u/\RelV x u
 | _,_,_,_,.nil,e=>by simp at e
 | _,_,0,_,.cons r _,e=>by simp at e; subst e; exact ⟨_,rfl,r⟩
 | _,_,i+1,x,.cons _ t,e=>by
  obtain ⟨u,h1,h2⟩:=Vals.get (i:=i) (x:=x) t (by simpa using e);exact ⟨u,by simpa using h1,h2⟩
def Vals.set {x:V} {u:Value} (r:RelV x u):∀ {xs:List V} {us:List Value} (i:Nat),Vals xs us->Vals (xs.set i x) (us.set i u)
 | _,_,_,.nil=>.nil
 | _,_,0,.cons _ t=>.cons r t
 | _,_,i+1,.cons q t=>.cons q (Vals.set r i t)
def Vals.append:∀ {xs ys:List V} {us ws:List Value},Vals xs us->Vals ys ws->Vals (xs++ys) (us++ws)
 | _,_,_,_,.nil,s=>s
 | _,_,_,_,.cons r t,s=>.cons r (Vals.append t s)
def Vals.take:∀ {xs:List V} {us:List Value} (n:Nat),Vals xs us->Vals (xs.take n) (us.take n)
 | _,_,0,_=>.nil
 | _,_,_+1,.nil=>.nil
 | _,_,n+1,.cons r t=>.cons r (Vals.take n t)
def Vals.drop:∀ {xs:List V} {us:List Value} (n:Nat),Vals xs us->Vals (xs.drop n) (us.drop n)
 | _,_,0,r=>r
 | _,_,_+1,.nil=>.nil
 | _,_,n+1,.cons _ t=>Vals.drop n t
def eE:Option V->Option Value->Prop
 | some v,some u=>RelV v u
 | none,none=>True
 | _,_=>False
def KV {κ:Type}:List (κ×V)->List (κ×Value)->Prop:=Paired fun (p:κ×V) (q:κ×Value)=>p.1=q.1/\RelV p.2 q.2
def kV:Key->V
 | .inl i=>.int i
 | .inr x=>.str x
inductive HO where
 /-- a list -/
 | lst (xs:List V)
 /-- a tuple (never changes) -/
 | tup (xs:List V)
 /-- a dict whose keys are ints and texts; one whose keys are tuples of ints and texts (jM empty one is both) -/
 | dK (kvs:List (Key×V)) | dT (kvs:List (List Key×V))
 /-- a set of ints: ao members,ao size -/
 | set (S:Int->Bool) (n:Nat)
 /-- an instance of jM class at C,ao dict at dx,ao attributes -/
 | ins (C dx:Addr) (fs:List (Str×V))
 /-- jM dict of jM instance at x -/
 | own (x:Addr)
 /-- jM dict of an exception -/
 | xd (fs:List (Str×V))
 /-- a bound method,f of x -/
 | met (f x:Addr)
 /-- a range object lo,lo+1,.. below hi -/
 | u3 (lo hi:Int)
 /-- a thing that is known to jM object (jM script; a dict while a loop walks it): read,never written while it is so -/
 | eC (o:Obj) (u:HO)
 /-- a code object's table -/
 | mF (ps:Array Value)
 /-- any other thing,by what is true of ao one object (a def of one's own: SetO a S n:=HO.ext fun h=>..) -/
 | ext (φ:Heap->Prop)
abbrev Hp:=Addr->Option HO
def upd (H:Hp) (a:Addr) (o:HO):Hp:=fun b=>if b=a then some o else H b
def aw {H:Hp} {a:Addr} {o:HO}:upd H a o a=some o:=by unfold upd; rw [IN rfl]
def aj {H:Hp} {a b:Addr} {o:HO} (h:b≠a):upd H a o b=H b:=by unfold upd; rw [Id h]
def md {H:Hp} {a:Addr} {o u:HO}:upd (upd H a o) a u=upd H a u:=by
 funext b; unfold upd; split <;> rfl
def PQ {H:Hp} {a b:Addr} {o u:HO} (h:H a=some o) (h':H b=some u) (d:o≠u):a≠b:=by
 intro e; subst e; rw [h] at h'; exact d (PP h')
def fV {H:Hp} {a b:Addr} {o:HO} (h:H a=some o) (h':H b=none):a≠b:=by
 intro e; subst e; rw [h] at h'; cases h'
def Dt (h:Heap) (a:Addr) (items:Array Value):Prop:=∃ o,h.get? a=some o/\o.cls=.type "tuple" /\ ∃ n,o.data=.seq items n/\o.dict=none
def Dt.t {h:Heap} {a:Addr} {items:Array Value} (x:Dt h a items):IsTup h a items:=let ⟨o,e,c,n,d,_⟩:=x; ⟨o,e,c,n,d⟩
section
variable (P:Program) (w:World)
def bI (H:Hp) (h:Heap) (a:Addr):HO->Prop
 | .lst xs=>xs.length<=sizeLine/\∃ (ao:List Value) (n:Nat),Vals xs ao/\h.get? a=some { cls:=.type "list",data:=.seq ao.toArray n }
 | .tup xs=>xs.length<=sizeLine/\∃ ao:List Value,Vals xs ao/\Dt h a ao.toArray
 | .dK kvs=>kvs.length<=sizeLine/\(a == sysModules)=false/\∃ vs,KV kvs vs/\h.DictOf (eI P w) a vs
 | .dT kvs=>kvs.length<=sizeLine/\(a == sysModules)=false/\∃ xs:List (List Key×Addr×Value),
   Paired (fun (p:List Key×V) (q:List Key×Addr×Value)=>p.1=q.1/\H q.2.1=some (.tup (p.1.map kV))/\RelV p.2 q.2.2) kvs xs /\
   ∃ o es ep,h.get? a=some o/\o.ExactDict/\o.data=.dict es ep/\es.toList=xs.map (entryOfKey (tupleKind (eI P w)))/\(xs.map (·.1)).Nodup
 | .set S n=>h.SetOf (intKind P w) a S n
 | .ins C dx fs=>H dx=some (.own a)/\fs.length<=1000/\dx≠a/\h.get? a=some (PySem.W.instObj C dx) /\
   ∃ mA,h.Ns1 dx mA/\(∀ f,eE (fs.lookup f) (mA f))/\PySem.Within mA (fs.map (·.1))
 | .own _=>∃ o,h.get? a=some o
 | .xd fs=>∃ mA,h.Ns1 a mA/\∀ f,eE (fs.lookup f) (mA f)
 | .u3 lo hi=>∃ t u v,h.get? a=some { cls:=.type "range",data:=.fields #[.int lo t,.int hi u,.int 1 v] }
 | .eC o u=>h.get? a=some o/\bI H h a u
 | .mF ps=>h.get? a=some { cls:=.none,data:=.fields ps }
 | .met f x=>h.get? a=some (PySem.W.methodObj (.ref f) (.ref x))
 | .ext φ=>φ h/\(∃ o,h.get? a=some o)/\∀ h1 h2:Heap,φ h1->(∀ o,h1.get? a=some o->h2.get? a=some o)->φ h2
def bU (H:Hp) (h:Heap):Prop:=∀ a o,H a=some o->bI P w H h a o
end
section
variable {P:Program} {w:World} {H H':Hp} {h h':Heap} {a:Addr} {o:HO}
def bI.lt (x:bI P w H h a o):a < h.objs.size:=by
 cases o with
 | lst xs=>obtain ⟨_,_,_,_,e⟩:=x; exact Fk e
 | tup xs=>obtain ⟨_,_,_,p⟩:=x; exact p.t.lt
 | dK kvs=>obtain ⟨_,_,_,_,o,_,_,e,_⟩:=x; exact Fk e
 | dT kvs=>obtain ⟨_,_,_,_,o,_,_,e,_⟩:=x; exact Fk e
 | set S n=>obtain ⟨o,_,_,_,e,_⟩:=x; exact Fk e
 | ins C dx fs=>obtain ⟨_,_,_,e,_⟩:=x; exact Fk e
 | own y=>obtain ⟨_,e⟩:=x; exact Fk e
 | xd fs=>obtain ⟨_,⟨_,_,_,e,_⟩,_⟩:=x; exact Fk e
 | u3 lo hi=>obtain ⟨_,_,_,e⟩:=x; exact Fk e
 | eC ob u=>obtain ⟨e,_⟩:=x; exact Fk e
 | mF ps=>exact Fk (show h.get? a=some _ from x)
 | met f y=>exact Fk (show h.get? a=some _ from x)
 | ext φ=>obtain ⟨_,⟨_,e⟩,_⟩:=x; exact Fk e
def Paired.zw {α β:Type} {F G:α->β->Prop}:∀ {l₁:List α} {l₂:List β},Paired F l₁ l₂->(∀ a b,F a b->G a b)->Paired G l₁ l₂
 | _,_,.nil,_=>.nil
 | _,_,.cons r t,f=>.cons (f _ _ r) (Paired.zw t f)
def bI.gJ (x:bI P w H h a o) (k:∀ b u,(b=a\/H b=some (.own a))->h.get? b=some u->h'.get? b=some u)
  (ho:∀ b,H b=some (.own a)->H' b=some (.own a)) (ht:∀ b xs,H b=some (.tup xs)->H' b=some (.tup xs)):bI P w H' h' a o:=by
 induction o with
 | lst xs=>obtain ⟨z,ao,n,r,e⟩:=x; exact ⟨z,ao,n,r,k _ _ (.inl rfl) e⟩
 | tup xs=>obtain ⟨z,ao,r,ob,e,c⟩:=x; exact ⟨z,ao,r,ob,k _ _ (.inl rfl) e,c⟩
 | dK kvs=>obtain ⟨z,y,vs,r,ob,es,ep,e,c⟩:=x; exact ⟨z,y,vs,r,ob,es,ep,k _ _ (.inl rfl) e,c⟩
 | dT kvs =>
  obtain ⟨z,y,xs,r,ob,es,ep,e,c⟩:=x;exact ⟨z,y,xs,Paired.zw r fun p q z=>⟨z.1,ht _ _ z.2.1,z.2.2⟩,ob,es,ep,k _ _ (.inl rfl) e,c⟩
 | set S n=>obtain ⟨ob,es,ep,t,e,c⟩:=x; exact ⟨ob,es,ep,t,k _ _ (.inl rfl) e,c⟩
 | ins C dx fs =>
  obtain ⟨d,z,ne,e,mA,⟨od,es,ep,e2,c⟩,r⟩:=x;exact ⟨ho _ d,z,ne,k _ _ (.inl rfl) e,mA,⟨od,es,ep,k _ _ (.inr d) e2,c⟩,r⟩
 | own y=>obtain ⟨ob,e⟩:=x; exact ⟨ob,k _ _ (.inl rfl) e⟩
 | xd fs=>obtain ⟨mA,⟨od,es,ep,e,c⟩,r⟩:=x; exact ⟨mA,⟨od,es,ep,k _ _ (.inl rfl) e,c⟩,r⟩
 | u3 lo hi=>obtain ⟨t,u,v,e⟩:=x; exact ⟨t,u,v,k _ _ (.inl rfl) e⟩
 | eC ob u ih=>obtain ⟨e,q⟩:=x; exact ⟨k _ _ (.inl rfl) e,ih q⟩
 | mF ps =>
  have e:h.get? a=some { cls:=.none,data:=.fields ps }:=x;show h'.get? a=some { cls:=.none,data:=.fields ps };exact k a _ (.inl rfl) e
 | met f y =>
  have e:h.get? a=some (PySem.W.methodObj (.ref f) (.ref y)):=x;show h'.get? a=some (PySem.W.methodObj (.ref f) (.ref y));exact k a _ (.inl rfl) e
 | ext φ=>obtain ⟨p,⟨o,e⟩,st⟩:=x; exact ⟨st _ _ p fun o q=>k _ _ (.inl rfl) q,⟨o,k _ _ (.inl rfl) e⟩,st⟩
def bU.lt (x:bU P w H h) (e:H a=some o):a < h.objs.size:=(x a o e).lt
def bU.fresh (x:bU P w H h) (e:h.objs.size<=a):H a=none:=by
 cases q:H a with
 | none=>rfl
 | some u=>exact absurd (FB (x.lt q) e) (SZ _)
def bU.kept (x:bU P w H h) (k:∀ b u,h.get? b=some u->h'.get? b=some u):bU P w H h':=fun a o e =>
 (x a o e).gJ (fun b u _ q=>k b u q) (fun _ q=>q) fun _ _ q=>q
def bU.laid (x:bU P w H h) (k:∀ b u,h.get? b=some u->h'.get? b=some u) (hp:h.objs.size<=a) (new:bI P w (upd H a o) h' a o):bU P w (upd H a o) h':=fun b u e=>by
 have hn:=x.fresh hp;by_cases hb:b=a
 ·subst hb; rw [aw] at e; cases e; exact new
 ·rw [aj hb] at e;exact (x b u e).gJ (fun c v _ q=>k c v q) (fun c q=>by rw [aj (fV q hn)]; exact q) fun c xs q=>by rw [aj (fV q hn)]; exact q
end
def Rd (H:Hp) (a:Addr) (u:HO):Prop:=H a=some u\/∃ o,H a=some (.eC o u)
def Rd.ok {P:Program} {w:World} {H:Hp} {h:Heap} {a:Addr} {u:HO} (r:Rd H a u) (x:bU P w H h):bI P w H h a u:=by
 rcases r with r | ⟨o,r⟩
 ·exact x a u r
 ·obtain ⟨_,q⟩:=x a _ r;exact q
def tD:Option HO->Prop
 | some (.lst _)=>True
 | some (.dK _)=>True
 | some (.dT _)=>True
 | some (.set _ _)=>True
 | some (.ins _ _ _)=>True
 | some (.ext _)=>True
 | _=>False
section
variable {P:Program} {w:World} {H:Hp} {h h':Heap} {x e:Addr} {o':HO}
def bU.write (ok:bU P w H h) (mu:tD (H x)) (he:e=x\/H e=some (.own x)) (k:∀ b u,b≠e->h.get? b=some u->h'.get? b=some u) (qz:∃ u,h'.get? e=some u)
  (new:bI P w (upd H x o') h' x o'):bU P w (upd H x o') h':=fun b u q=>by
 have OG:∀ c y,H c=some (.own y)->c≠x:=fun c y r z=>by subst z; rw [r] at mu; exact mu
 have ntup:∀ c xs,H c=some (.tup xs)->c≠x:=fun c xs r z=>by subst z; rw [r] at mu; exact mu
 by_cases hb:b=x
 ·subst hb; rw [aw] at q; cases q; exact new
 ·rw [aj hb] at q;by_cases oJ:b=e
  ·have q':H b=some (.own x):=by
    rcases he with z | z
    ·exact absurd (oJ.trans z) hb
    ·rw [oJ]; exact z
   rw [q] at q'; cases q';obtain ⟨v,hv⟩:=qz;exact ⟨v,by rw [oJ]; exact hv⟩
  ·refine (ok b u q).gJ (fun c v hc r=>k c v ?_ r) (fun c r=>by rw [aj (OG c b r)]; exact r) fun c xs r=>by rw [aj (ntup c xs r)]; exact r
   rcases hc with rfl | hc
   ·exact oJ
   ·rintro rfl;rcases he with z | z
    ·exact OG c b hc z
    ·rw [hc] at z; cases z; exact hb rfl
end
structure Un (fs ex:List Addr) (H H':Hp) (h h':Heap):Prop where
 keep:∀ b o,h.get? b=some o->H b=none->b ∉ fs->b ∉ ex->h'.get? b=some o
 slot:∀ b o,h.get? b=some o->H b=none->b∈fs->b ∉ ex->∃ sl,h'.get? b=some { o with slots:=sl }
 free:∀ b o,h.get? b=some o->H b=none->b ∉ ex->H' b=none
 there:∀ b o,h.get? b=some o->b ∉ ex->∃ o',h'.get? b=some o'
 fY:∀ b xs,H b=some (.tup xs)->H' b=some (.tup xs)
 fA:∀ b o u,H b=some (.eC o u)->H' b=some (.eC o u)
 fQ:∀ b ps,H b=some (.mF ps)->∃ more,H' b=some (.mF (ps++more))
section
variable {fs fs' ex ex':List Addr} {H H1 H2:Hp} {h h1 h2 h':Heap} {a x e:Addr} {o:HO}
def Un.any (u:Un fs ex H H1 h h1) {b:Addr} {ob:Obj} (q:h.get? b=some ob) (n:H b=none) (hx:b ∉ ex):∃ sl,h1.get? b=some { ob with slots:=sl }:=by
 by_cases hb:b∈fs
 ·exact u.slot b ob q n hb hx
 ·exact ⟨ob.slots,u.keep b ob q n hb hx⟩
def Un.kept (k:∀ b u,h.get? b=some u->h'.get? b=some u):Un fs ex H H h h' :=
 ⟨fun b ob q _ _ _=>k b ob q,fun b ob q _ _ _=>⟨ob.slots,k b ob q⟩,fun _ _ _ n _=>n,fun b ob q _=>⟨ob,k b ob q⟩,fun _ _ q=>q,fun _ _ _ q=>q,fun _ ps q=>⟨#[],by rw [q]; simp⟩⟩
def Un.refl:Un fs ex H H h h:=Un.kept fun _ _ q=>q
def Un.laid (k:∀ b u,h.get? b=some u->h'.get? b=some u) (hp:h.objs.size<=a) (hn:H a=none):Un fs ex H (upd H a o) h h' where
 keep:=fun b u q _ _ _=>k b u q
 slot:=fun b u q _ _ _=>⟨u.slots,k b u q⟩
 free:=fun b u q n _=>by rw [aj (GE (FB (Fk q) hp))]; exact n
 there:=fun b u q _=>⟨u,k b u q⟩
 fY:=fun b xs q=>by rw [aj (fV q hn)]; exact q
 fA:=fun b u xs q=>by rw [aj (fV q hn)]; exact q
 fQ:=fun b ps q=>⟨#[],by rw [aj (fV q hn),q]; simp⟩
def Un.write (mu:tD (H x)) (he:e=x\/H e=some (.own x)) (k:∀ b u,b≠e->h.get? b=some u->h'.get? b=some u) (qz:∃ u,h'.get? e=some u):Un fs ex H (upd H x o) h h':=by
 have hx:∀ b,H b=none->b≠x:=fun b n z=>by subst z; rw [n] at mu; exact mu
 have hb:∀ b,H b=none->b≠e:=fun b n z=>by
  subst z;rcases he with r | r
  ·exact hx b n r
  ·rw [n] at r; cases r
 have hm:∀ b u,H b=some u->¬ tD (some u)->b≠x:=fun b u q nm z=>by subst z; rw [q] at mu; exact nm mu
 refine ⟨fun b u q n _ _=>k b u (hb b n) q,fun b u q n _ _=>⟨u.slots,k b u (hb b n) q⟩,fun b u q n _=>by rw [aj (hx b n)]; exact n,fun b u q _=>?_,
  fun b xs q=>by rw [aj (hm b _ q fun z=>z)]; exact q,fun b u xs q=>by rw [aj (hm b _ q fun z=>z)]; exact q,fun b ps q=>⟨#[],by rw [aj (hm b _ q fun z=>z),q]; simp⟩⟩
 by_cases oJ:b=e
 ·subst oJ; exact qz
 ·exact ⟨u,k b u oJ q⟩
end
def xn (h:Heap) (H:Hp):List Addr:=(List.range h.objs.size).filter fun a=>(H a).isSome
def iP (h:Heap) (H:Hp):Heap:=PySem.W.hideAll h (xn h H)
def Rt (h:Heap) (H:Hp):(iP h H).objs.size=h.objs.size:=PySem.W.hideAll_size _ _
def O8 {h:Heap} {H:Hp} {b:Addr} {o:Obj} (e:h.get? b=some o) (n:H b=none):(iP h H).get? b=some o :=
 Jas _ e fun hm=>by
  have q:(H b).isSome=true:=(List.mem_filter.mp hm).2;rw [n] at q; simp at q
def Ux {h:Heap} {H:Hp} {b:Addr} {o:Obj} (e:(iP h H).get? b=some o):h.get? b=some o/\H b=none:=by
 have e':h.get? b=some o:=Jaz (xn h H) e;refine ⟨e',?_⟩;cases q:H b with
 | none=>rfl
 | some x =>
  have hm:b∈xn h H:=List.mem_filter.mpr ⟨JaA.mpr (Fk e'),by simp [q]⟩;have z:(iP h H).get? b=none:=PySem.W.hideAll_none (xn h H) hm;rw [z] at e; cases e
def RI (g h:Heap) (L:Addr):List (Addr×Obj):=(List.range h.objs.size).filterMap fun a=>if a=L\/(g.get? a).isSome=true then none else (h.get? a).map fun o=>(a,o)
def rest (g h:Heap) (L d:Addr):List (Addr×Obj):=(RI g h L).filter fun p=>decide (p.1≠d)
structure Mod (K:PySem.W.Frag) (mg:Str->Option Value) (base:Heap):Prop where
 ie:K.In base
 glob:base.Ns mainGlobals mg
 blt:∃ mb,base.Ns builtinsNs mb/\∀ x:Str,x ≠ "__name__" -> mb x=bootBuiltins x
 nolimit:base.NoLimit
structure Cx where
 prog:Program
 w:World
 K:PySem.W.Frag
 mg:Str->Option Value
 base:Heap
 A:Around
 N:List Str
 s₀:Shared
 H₀:Hp
 env:Env
 outer:List Env
 stack:List Env
 ex:List Addr
 fn:Str->Bool
 calm:Bool
 pn:List (Addr×Obj)
 xe:Value->Shared->Prop
def bJ (l:List Env):List Addr:=l.filterMap (·.frame)
abbrev Cx.fs (X:Cx):List Addr:=bJ X.outer
def mW (sc:Scope) (x:Str):Prop:=sc.names.lookup x=some .local\/sc.names.lookup x=some .cell\/sc.names.lookup x=some .free
def Loc (sc:Scope) (x:Str):Prop:=sc.names.lookup x=some .local\/sc.names.lookup x=some .cell
def Look (env:Env) (h:Heap) (m:Str->Option Value) (x:Str) (u:Value):Prop :=
 (env.kindOf x=some .local/\m x=some u)\/((env.kindOf x=some .cell\/env.kindOf x=some .free)/\∃ c,env.cells.lookup x=some c/\h.IsCell c (some u))
structure Cx.Ok (X:Cx):Prop where
 mod:Mod X.K X.mg X.base
 kind:X.env.scope.kind=.function
 glob:X.env.globals=mainGlobals
 blt:X.env.builtins=builtinsNs
 above:X.s₀.heap.objs.size<=X.env.locals
 inj:∀ x y c,X.env.cells.lookup x=some c->X.env.cells.lookup y=some c->x=y
 has:∀ x,(X.env.kindOf x=some .cell\/X.env.kindOf x=some .free)->∃ c,X.env.cells.lookup x=some c
 kK:∀ x c,X.fn x=true->X.env.cells.lookup x=some c->X.s₀.heap.objs.size<=c
 hd:X.calm=true->X.A.handled=none
 frames:X.A.frames=some X.stack
 dj:X.stack=X.outer\/(X.stack=X.env::X.outer/\X.env.frame=some X.env.locals)
 ub:∀ b∈X.ex,b≠X.env.locals/\∀ x c,X.env.cells.lookup x=some c->c≠b
 bs:∀ b o,X.base.get? b=some o->X.s₀.heap.get? b=some o/\X.H₀ b=none
 gN:X.base.objs.size<=X.s₀.heap.objs.size
 mL:∀ b o,X.base.get? b=some o->b ∉ X.ex
 mz:∀ b∈X.ex,b ∉ X.fs
 eX:X.s₀.heap.FunFrames X.base X.outer
 iM:∀ b∈X.fs,X.H₀ b=none
structure Inv (X:Cx) (pins:List (Addr×Obj)) (σ:List (Option V)) (H:Hp) (s:Shared):Prop where
 ok:X.Ok
 os:s.os=X.s₀.os
 bare:AllBare s.gens
 base:Un X.fs X.ex X.H₀ H X.s₀.heap s.heap
 loc:∃ m,s.heap.Ns X.env.locals m/\∀ (i:Nat) (x:Str) (v:V),X.N[i]?=some x->σ[i]?=some (some v)->mW X.env.scope x->∃ u,RelV v u/\Look X.env s.heap m x u
 cell:∀ x c,X.env.cells.lookup x=some c->∃ v,s.heap.IsCell c v
 free:H X.env.locals=none
 e8:∀ x c,X.env.cells.lookup x=some c->H c=none
 pin:∀ p∈X.pn++pins,s.heap.get? p.1=some p.2/\H p.1=none/\p.1≠X.env.locals/\p.1 ∉ X.fs/\∀ v,p.2.data≠.cell v
 aA:bU X.prog X.w H s.heap
 len:σ.length=X.N.length
section
variable {X:Cx} {pins:List (Addr×Obj)} {σ:List (Option V)} {H H':Hp} {s:Shared} {h':Heap}
def Cx.Ok.Pd (ok:X.Ok) {b:Addr} {o:Obj} (e:X.base.get? b=some o):b ∉ X.fs:=fun hb=>by
 have:=(ok.eX.mem hb).1;rw [e] at this; cases this
def Inv.bs (I:Inv X pins σ H s):∀ b o,X.base.get? b=some o->s.heap.get? b=some o/\H b=none:=fun b o e =>
 ⟨I.base.keep b o (I.ok.bs b o e).1 (I.ok.bs b o e).2 (I.ok.Pd e) (I.ok.mL b o e),I.base.free b o (I.ok.bs b o e).1 (I.ok.bs b o e).2 (I.ok.mL b o e)⟩
def Inv.bk (I:Inv X pins σ H s):∀ b o,X.base.get? b=some o->s.heap.get? b=some o:=fun b o e=>(I.bs b o e).1
def Inv.mod (I:Inv X pins σ H s):Mod X.K X.mg X.base:=I.ok.mod
def Inv.bR (I:Inv X pins σ H s):X.K.In s.heap:=I.ok.mod.ie.keeps I.bk
def Inv.lt (I:Inv X pins σ H s):X.env.locals < s.heap.objs.size:=let ⟨_,hn,_⟩:=I.loc; hn.lt
def Inv.sz (I:Inv X pins σ H s):X.s₀.heap.objs.size<=s.heap.objs.size:=Gc I.ok.above (Jax I.lt)
def Inv.J1 (I:Inv X pins σ H s) {a:Addr} (h:s.heap.objs.size<=a):a ∉ X.fs:=fun hb=>by
 obtain ⟨_,o,ho,_⟩:=I.ok.eX.mem hb;exact absurd (FB (Fk ho) (Gc I.sz h)) (SZ _)
def Inv.jq (I:Inv X pins σ H s):∀ x c,X.env.cells.lookup x=some c->c≠X.env.locals:=fun x c e z=>by
 obtain ⟨v,o,ho,hd⟩:=I.cell x c e;obtain ⟨m,⟨o',es,ep,ho',hd',_⟩,_⟩:=I.loc;rw [z,ho'] at ho; cases ho; rw [hd'] at hd; cases hd
def Inv.eX (I:Inv X pins σ H s):s.heap.FunFrames X.base X.outer:=by
 have all:∀ (l:List Env),(∀ b∈bJ l,b∈X.fs)->X.s₀.heap.FunFrames X.base l->s.heap.FunFrames X.base l:=by
  intro l
  induction l with
  | nil=>intro _ _; trivial
  | cons env r ih =>
   intro hs hl;obtain ⟨hk,⟨L,o,hf,hn,ho,hd⟩,hr⟩:=hl;have hL:L∈X.fs:=hs L (by unfold bJ; rw [_y,hf]; exact T0);obtain ⟨sl,e⟩:=I.base.slot L o ho (I.ok.iM L hL) hL fun z=>I.ok.mz L z hL;exact ⟨hk,⟨L,_,hf,hn,e,hd⟩,ih (fun b hb=>hs b (by unfold bJ; rw [_y,hf]; exact LT _ hb)) hr⟩
 exact all X.outer (fun _ hb=>hb) I.ok.eX
def Inv.stack (I:Inv X pins σ H s):s.heap.FunFrames X.base X.stack:=by
 rcases I.ok.dj with e | ⟨e,hf⟩
 ·rw [e]; exact I.eX
 ·rw [e];obtain ⟨m,hn,_⟩:=I.loc;refine .cons (by rw [I.ok.kind]; decide) hf hn ?_ I.eX;exact _v (Gc I.ok.gN I.ok.above)
def Inv.tK (I:Inv X pins σ H s):∀ b∈bJ X.stack,b∈X.env.locals::X.fs:=fun b hb=>by
 rcases I.ok.dj with e | ⟨e,hf⟩
 ·rw [e] at hb; exact LT _ hb
 ·rw [e] at hb;unfold bJ at hb;rw [_y,hf] at hb;exact hb
def Inv.xu (I:Inv X pins σ H s):∀ b∈bJ X.stack,H b=none:=fun b hb=>by
 rcases AT.mp (I.tK b hb) with e | hb
 ·rw [e]; exact I.free
 ·obtain ⟨_,o,ho,_⟩:=I.ok.eX.mem hb;exact I.base.free b o ho (I.ok.iM b hb) fun z=>I.ok.mz b z hb
def Inv.step {g':Array GenState} {t':Nat} {d':Drawn} {ch:List Addr} (I:Inv X pins σ H s)
  (jK:∀ b∈ch,(b∈X.ex\/X.s₀.heap.objs.size<=b)/\b≠X.env.locals/\(∀ x c,X.env.cells.lookup x=some c->c≠b)/\∀ p∈X.pn++pins,p.1≠b)
  (keep:∀ b o,b≠X.env.locals->b ∉ X.fs->b ∉ ch->s.heap.get? b=some o->H b=none->h'.get? b=some o)
  (slot:∀ b o,b≠X.env.locals->b∈X.fs->b ∉ ch->s.heap.get? b=some o->H b=none->∃ sl,h'.get? b=some { o with slots:=sl }) (free:∀ b o,b ∉ ch->s.heap.get? b=some o->H b=none->H' b=none)
  (there:∀ b o,b ∉ ch->s.heap.get? b=some o->∃ o',h'.get? b=some o')
  (fY:∀ b xs,H b=some (.tup xs)->H' b=some (.tup xs)) (fA:∀ b o u,H b=some (.eC o u)->H' b=some (.eC o u)) (fQ:∀ b ps,H b=some (.mF ps)->∃ more,H' b=some (.mF (ps++more)))
  (ns:∀ m,s.heap.Ns X.env.locals m->h'.Ns X.env.locals m) (aA:bU X.prog X.w H' h') (hg:AllBare g') :
  Inv X pins σ H' { s with heap:=h',gens:=g',drawn:=d',toks:=t' }:=by
 have uV:∀ b o,X.s₀.heap.get? b=some o->b≠X.env.locals:=fun b o e=>GE (FB (Fk e) I.ok.above);have xC:∀ b o,X.s₀.heap.get? b=some o->b ∉ X.ex->b ∉ ch:=fun b o e hx hb=>by
  rcases (jK b hb).1 with z | z
  ·exact hx z
  ·exact absurd (FB (Fk e) z) (SZ _)
 have cellK:∀ x c,X.env.cells.lookup x=some c->∀ v,s.heap.IsCell c v->h'.IsCell c v:=fun x c e v ⟨o,ho,hd⟩=>by
  have uG:c ∉ ch:=fun z=>(jK c z).2.2.1 x c e rfl;by_cases hc:c∈X.fs
  ·obtain ⟨sl,q⟩:=slot c o (I.jq x c e) hc uG ho (I.e8 x c e);exact ⟨_,q,hd⟩
  ·exact ⟨o,keep c o (I.jq x c e) hc uG ho (I.e8 x c e),hd⟩
 refine ⟨I.ok,I.os,hg,⟨fun b o e n hb hx=>?_,fun b o e n hb hx=>?_,fun b o e n hx=>?_,fun b o e hx=>?_,fun b xs e=>fY b xs (I.base.fY b xs e),fun b o xs e=>fA b o xs (I.base.fA b o xs e),fun b ps e=>?_⟩,?_,fun x c e=>?_,?_,fun x c e=>?_,fun p hp=>?_,aA,I.len⟩
 ·exact keep b o (uV b o e) hb (xC b o e hx) (I.base.keep b o e n hb hx) (I.base.free b o e n hx)
 ·obtain ⟨sl,e1⟩:=I.base.slot b o e n hb hx;obtain ⟨sl',e2⟩:=slot b _ (uV b o e) hb (xC b o e hx) e1 (I.base.free b o e n hx);exact ⟨sl',e2⟩
 ·obtain ⟨o',e1⟩:=I.base.there b o e hx;exact free b o' (xC b o e hx) e1 (I.base.free b o e n hx)
 ·obtain ⟨o',e1⟩:=I.base.there b o e hx;exact there b o' (xC b o e hx) e1
 ·obtain ⟨m1,e1⟩:=I.base.fQ b ps e;obtain ⟨m2,e2⟩:=fQ b _ e1;exact ⟨m1++m2,by rw [e2,Array.append_assoc]⟩
 ·obtain ⟨m,hn,hl⟩:=I.loc;refine ⟨m,ns m hn,fun i x v e1 e2 e3=>?_⟩;obtain ⟨u,r,l⟩:=hl i x v e1 e2 e3;refine ⟨u,r,?_⟩;rcases l with l | ⟨k,c,e,z⟩
  ·exact .inl l
  ·exact .inr ⟨k,c,e,cellK x c e _ z⟩
 ·obtain ⟨v,z⟩:=I.cell x c e;exact ⟨v,cellK x c e v z⟩
 ·obtain ⟨m,⟨o,_,_,ho,_⟩,_⟩:=I.loc;exact free _ o (fun z=>(jK _ z).2.1 rfl) ho I.free
 ·obtain ⟨v,o,ho,hd⟩:=I.cell x c e;exact free c o (fun z=>(jK c z).2.2.1 x c e rfl) ho (I.e8 x c e)
 ·obtain ⟨e,n,ne,nf,d⟩:=I.pin p hp;have uG:p.1 ∉ ch:=fun z=>(jK p.1 z).2.2.2 p hp rfl;exact ⟨keep p.1 p.2 ne nf uG e n,free p.1 p.2 uG e n,ne,nf,d⟩
def Inv.un {t':Nat} (I:Inv X pins σ H s) (u:Un X.fs [] H H' s.heap h') (aA:bU X.prog X.w H' h'):Inv X pins σ H' { s with heap:=h',toks:=t' }:=by
 obtain ⟨m,⟨o,es,ep,ho,r⟩,_⟩:=id I.loc;obtain ⟨sl,hL⟩:=u.any ho I.free (by simp);exact I.step (g':=s.gens) (d':=s.drawn) (ch:=[]) (fun _ z=>nomatch z) (fun b o _ hb _ e n=>u.keep b o e n hb (by simp)) (fun b o _ hb _ e n=>u.slot b o e n hb (by simp)) (fun b o _ e n=>u.free b o e n (by simp)) (fun b o _ e=>u.there b o e (by simp)) u.fY u.fA u.fQ (fun m' hm=>by
  obtain ⟨o',es',ep',ho',r'⟩:=hm;rw [ho] at ho'; cases ho';exact ⟨_,es',ep',hL,r'⟩) aA I.bare
def Inv.call {g':Array GenState} {t':Nat} {d':Drawn} {ch:List Addr} (I:Inv X pins σ H s) (u:Un (bJ X.stack) ch H H' s.heap h') (aA:bU X.prog X.w H' h') (hg:AllBare g')
  (jK:∀ b∈ch,(b∈X.ex\/X.s₀.heap.objs.size<=b)/\b≠X.env.locals/\(∀ x c,X.env.cells.lookup x=some c->c≠b)/\∀ p∈X.pn++pins,p.1≠b) :
  Inv X pins σ H' { s with heap:=h',gens:=g',drawn:=d',toks:=t' }:=by
 obtain ⟨m,⟨o,es,ep,ho,r⟩,_⟩:=id I.loc;obtain ⟨sl,hL⟩:=u.any ho I.free fun z=>(jK _ z).2.1 rfl;exact I.step (ch:=ch) jK (fun b o hL hb hc e n=>u.keep b o e n (fun z=>(AT.mp (I.tK b z)).elim hL hb) hc) (fun b o _ _ hc e n=>u.any e n hc) (fun b o hc e n=>u.free b o e n hc) (fun b o hc e=>u.there b o e hc) u.fY u.fA u.fQ (fun m' hm=>by
  obtain ⟨o',es',ep',ho',r'⟩:=hm;rw [ho] at ho'; cases ho';exact ⟨_,es',ep',hL,r'⟩) aA hg
def Inv.turned {t':Nat} {it:Addr} (I:Inv X pins σ H s) (k:∀ b o,b≠it->s.heap.get? b=some o->h'.get? b=some o) (hn:H it=none) (hL:it≠X.env.locals)
  (h1:it∈X.ex\/X.s₀.heap.objs.size<=it) (h2:∀ x c,X.env.cells.lookup x=some c->c≠it) (h3:∀ p∈X.pn++pins,p.1≠it):Inv X pins σ H { s with heap:=h',toks:=t' }:=by
 have Oj:∀ b u,H b=some u->b≠it:=fun b u e z=>by rw [z,hn] at e; cases e
 refine I.step (g':=s.gens) (d':=s.drawn) (ch:=[it]) (fun b hb=>?_) (fun b o _ _ hc e _=>k b o (fun z=>hc (by simp [z])) e) (fun b o _ _ hc e _=>⟨o.slots,k b o (fun z=>hc (by simp [z])) e⟩) (fun _ _ _ _ n=>n)
  (fun b o hc e=>⟨o,k b o (fun z=>hc (by simp [z])) e⟩) (fun _ _ e=>e) (fun _ _ _ e=>e) (fun b ps e=>⟨#[],by rw [e]; simp⟩) (fun m hm=>?_) (fun b u e=>?_) I.bare
 ·have e:b=it:=by simpa using hb
  subst e;exact ⟨h1,hL,h2,h3⟩
 ·obtain ⟨o,es,ep,ho,r⟩:=hm;exact ⟨o,es,ep,k _ o (Fa hL) ho,r⟩
 ·refine (I.aA b u e).gJ (fun c v hc q=>k c v ?_ q) (fun _ q=>q) fun _ _ q=>q;rcases hc with z | z
  ·rw [z]; exact Oj b u e
  ·exact Oj c _ z
def Inv.tok (I:Inv X pins σ H s) (t:Nat):Inv X pins σ H { s with toks:=t }:=I.un (h':=s.heap) (t':=t) Un.refl I.aA
def Inv.kept {t':Nat} (I:Inv X pins σ H s) (k:∀ b u,s.heap.get? b=some u->h'.get? b=some u):Inv X pins σ H { s with heap:=h',toks:=t' }:=I.un (Un.kept k) (I.aA.kept k)
def Inv.laid {a:Addr} {o:HO} {t':Nat} (I:Inv X pins σ H s) (k:∀ b u,s.heap.get? b=some u->h'.get? b=some u) (hp:s.heap.objs.size<=a) (new:bI X.prog X.w (upd H a o) h' a o) :
  Inv X pins σ (upd H a o) { s with heap:=h',toks:=t' }:=I.un (Un.laid k hp (I.aA.fresh hp)) (I.aA.laid k hp new)
def Inv.write {x e:Addr} {o:HO} {t':Nat} (I:Inv X pins σ H s) (mu:tD (H x)) (he:e=x\/H e=some (.own x)) (k:∀ b u,b≠e->s.heap.get? b=some u->h'.get? b=some u) (qz:∃ u,h'.get? e=some u)
  (new:bI X.prog X.w (upd H x o) h' x o):Inv X pins σ (upd H x o) { s with heap:=h',toks:=t' }:=I.un (Un.write mu he k qz) (I.aA.write mu he k qz new)
def Inv.uu {pins':List (Addr×Obj)} (I:Inv X pins σ H s) (h:∀ p∈pins',s.heap.get? p.1=some p.2/\H p.1=none/\p.1≠X.env.locals/\p.1 ∉ X.fs/\∀ v,p.2.data≠.cell v):Inv X pins' σ H s :=
 ⟨I.ok,I.os,I.bare,I.base,I.loc,I.cell,I.free,I.e8,fun p hp=>(TW.mp hp).elim (fun z=>I.pin p (_a _ z)) (h p),I.aA,I.len⟩
def A0 {N:List Str} (hN:N.Nodup) {i j:Nat} {x:Str} (a:N[i]?=some x) (b:N[j]?=some x):i=j:=by
 obtain ⟨h1,e1⟩:=Do.mp a;obtain ⟨h2,e2⟩:=Do.mp b;exact (List.getElem_inj hN).mp (e1.trans e2.symm)
def G1 {M:Model} {A:Around} {E:Value->Shared->Prop} {i:Nat} {x:Str} {v:V} {u:Value} {Q:Unit->Shared->Prop} (I:Inv X pins σ H s) (hN:X.N.Nodup) (hi:X.N[i]?=some x) (hx:Loc X.env.scope x) (r:RelV v u)
  (h:∀ s',Inv X pins (σ.set i (some v)) H s'->(∃ a,Heap.SameBut a s.heap s'.heap/\(a=X.env.locals\/X.env.cells.lookup x=some a))->Q () s') (hf:X.fn x=true\/X.env.scope.names.lookup x=some .local:=by first | exact .inl rfl | exact .inr rfl | assumption):wpAny M A (storeName X.env x u) Q E s:=by
 obtain ⟨m,hn,hl⟩:=id I.loc;have Fc:(X.env.scope.kind == .class || (X.env.scope.kind == .module && X.env.locals != X.env.globals))=false:=by rw [I.ok.kind]; rfl
 have M4:i < σ.length:=by rw [I.len]; exact (Do.mp hi).1
 have jq:=I.jq;have tracked:∀ {a:Addr} {h':Heap},(∃ o,s.heap.get? a=some o/\H a=none)->Heap.SameBut a s.heap h'->bU X.prog X.w H h':=fun {a h'} ha hs b ob e=>by
  obtain ⟨_,_,nj⟩:=ha;refine (I.aA b ob e).gJ (fun c w' hc q=>(hs.2 c ?_).trans q) (fun _ q=>q) fun _ _ q=>q;rintro rfl;rcases hc with rfl | hc
  ·rw [nj] at e; cases e
  ·rw [nj] at hc; cases hc
 rcases hx with hk | hk
 ·refine wpAny_storeName_local hk hn (fun h' hn' hs=>?_) Fc;obtain ⟨oL,_,_,gS,_⟩:=id hn;refine h _ ⟨I.ok,I.os,I.bare,⟨fun b o e n hb hx=>?_,fun b o e n hb hx=>?_,I.base.free,fun b o e hx=>?_,I.base.fY,I.base.fA,I.base.fQ⟩,⟨_,hn',fun j y v' e1 e2 e3=>?_⟩,fun y c e=>?_,I.free,I.e8,fun p hp=>?_,tracked ⟨oL,gS,I.free⟩ hs,by simpa using I.len⟩ ⟨_,hs,.inl rfl⟩
  ·exact (hs.2 b (GE (FB (Fk e) I.ok.above))).trans (I.base.keep b o e n hb hx)
  ·obtain ⟨sl,e1⟩:=I.base.slot b o e n hb hx;exact ⟨sl,(hs.2 b (GE (FB (Fk e) I.ok.above))).trans e1⟩
  ·obtain ⟨o',e1⟩:=I.base.there b o e hx;exact ⟨o',(hs.2 b (GE (FB (Fk e) I.ok.above))).trans e1⟩
  ·by_cases hj:j=i
   ·subst hj;rw [hi] at e1; cases e1;rw [Wp M4] at e2;cases e2;exact ⟨u,r,.inl ⟨hk,by simp⟩⟩
   ·rw [Uf (Fa hj)] at e2;obtain ⟨u',r',q⟩:=hl j y v' e1 e2 e3;refine ⟨u',r',?_⟩;rcases q with ⟨k,e⟩ | ⟨k,c,e,z⟩
    ·refine .inl ⟨k,?_⟩;have:y≠x:=fun e=>hj (A0 hN e1 (e ▸ hi));simp [this,e]
    ·exact .inr ⟨k,c,e,z.sameBut hs (jq y c e)⟩
  ·obtain ⟨w',z⟩:=I.cell y c e;exact ⟨w',z.sameBut hs (jq y c e)⟩
  ·obtain ⟨e,n,ne,nf,d⟩:=I.pin p hp;exact ⟨(hs.2 p.1 ne).trans e,n,ne,nf,d⟩
 ·have oB:X.fn x=true:=by
   rcases hf with z | z
   ·exact z
   ·rw [z] at hk; cases hk
  obtain ⟨c,hc⟩:=I.ok.has x (.inl hk);obtain ⟨w',z⟩:=I.cell x c hc;refine wpAny_storeName_cell I.ok.kind hk hc z (fun h' hc' hs=>?_);obtain ⟨oc,Ny,hocd⟩:=id z;refine h { s with heap:=h' } ⟨I.ok,I.os,I.bare,⟨fun b o e n hb hx=>?_,fun b o e n hb hx=>?_,I.base.free,fun b o e hx=>?_,I.base.fY,I.base.fA,I.base.fQ⟩,⟨m,hn.sameBut hs (Fa (jq x c hc)),fun j y v' e1 e2 e3=>?_⟩,fun y c' e=>?_,I.free,I.e8,fun p hp=>?_,tracked ⟨oc,Ny,I.e8 x c hc⟩ hs,by simpa using I.len⟩ ⟨c,hs,.inr hc⟩
  ·exact (hs.2 b (GE (FB (Fk e) (I.ok.kK x c oB hc)))).trans (I.base.keep b o e n hb hx)
  ·obtain ⟨sl,e1⟩:=I.base.slot b o e n hb hx;exact ⟨sl,(hs.2 b (GE (FB (Fk e) (I.ok.kK x c oB hc)))).trans e1⟩
  ·obtain ⟨o',e1⟩:=I.base.there b o e hx;exact ⟨o',(hs.2 b (GE (FB (Fk e) (I.ok.kK x c oB hc)))).trans e1⟩
  ·by_cases hj:j=i
   ·subst hj;rw [hi] at e1; cases e1;rw [Wp M4] at e2;cases e2;exact ⟨u,r,.inr ⟨.inl hk,c,hc,hc'⟩⟩
   ·rw [Uf (Fa hj)] at e2;obtain ⟨u',r',q⟩:=hl j y v' e1 e2 e3;refine ⟨u',r',?_⟩;rcases q with q | ⟨k,c',e,z'⟩
    ·exact .inl q
    ·refine .inr ⟨k,c',e,z'.sameBut hs ?_⟩;rintro rfl;exact hj (A0 hN e1 (I.ok.inj _ _ _ e hc ▸ hi))
  ·by_cases yp:c'=c
   ·subst yp; exact ⟨_,hc'⟩
   ·obtain ⟨w2,z2⟩:=I.cell y c' e;exact ⟨w2,z2.sameBut hs yp⟩
  ·obtain ⟨e,n,ne,nf,d⟩:=I.pin p hp;refine ⟨(hs.2 p.1 ?_).trans e,n,ne,nf,d⟩;intro q;rw [q,Ny] at e;have q':oc=p.2:=PP e;exact d w' (by rw [<- q']; exact hocd)
def Cm {M:Model} {A:Around} {E:Value->Shared->Prop} {i:Nat} {x:Str} {v:V} {u:Value} {Q:Unit->Shared->Prop} (I:Inv X pins σ H s) (hN:X.N.Nodup) (hi:X.N[i]?=some x) (hx:Loc X.env.scope x) (r:RelV v u)
  (h:∀ s',Inv X pins (σ.set i (some v)) H s'->Q () s') (hf:X.fn x=true\/X.env.scope.names.lookup x=some .local:=by first | exact .inl rfl | exact .inr rfl | assumption):wpAny M A (storeName X.env x u) Q E s :=
 G1 I hN hi hx r (fun s' I' _=>h s' I') hf
def Inv.Lj {s':Shared} {ch:List Addr} (I:Inv X pins σ H s) (ho:s'.os=s.os) (u:Un (bJ X.stack) ch H H' s.heap s'.heap) (aA:bU X.prog X.w H' s'.heap) (hg:AllBare s'.gens)
  (jK:∀ b∈ch,(b∈X.ex\/X.s₀.heap.objs.size<=b)/\b≠X.env.locals/\(∀ x c,X.env.cells.lookup x=some c->c≠b)/\∀ p∈X.pn++pins,p.1≠b):Inv X pins σ H' s':=by
 obtain ⟨h',g',d',t',o'⟩:=s';have e:o'=s.os:=ho;subst e;exact I.call (g':=g') (t':=t') (d':=d') u aA hg jK
end
abbrev XK:=Value->Option Addr->Hp->Prop
abbrev St:=List (Option V)
abbrev VK:=V->Hp->Prop
abbrev TE:=St->Hp->VK->Prop
abbrev TT:=St->Hp->(Bool->Hp->Prop)->Prop
abbrev TA:=St->Hp->(List V->Hp->Prop)->Prop
structure Ends where
 nx:St->Hp->Prop
 rt:VK
 bk:St->Hp->Prop:=fun _ _=>False
 ct:St->Hp->Prop:=fun _ _=>False
abbrev TS:=Ends->St->Hp->Prop
def EP (X:Cx) (pins:List (Addr×Obj)) (σ:St) (Q:VK) (u:Value) (s':Shared):Prop:=∃ v H',Inv X pins σ H' s'/\RelV v u/\Q v H'
def TP (X:Cx) (pins:List (Addr×Obj)) (σ:St) (Q:Bool->Hp->Prop) (b:Bool) (s':Shared):Prop:=∃ H',Inv X pins σ H' s'/\Q b H'
def AP (X:Cx) (pins:List (Addr×Obj)) (σ:St) (Q:List V->Hp->Prop) (us:List Value) (s':Shared):Prop:=∃ vs H',Inv X pins σ H' s'/\Vals vs us/\Q vs H'
def SP (X:Cx) (pins:List (Addr×Obj)) (D:Ends) (f:Flow) (s':Shared):Prop :=
 match f with
 | .next=>∃ σ' H',Inv X pins σ' H' s'/\D.nx σ' H'
 | .brk=>∃ σ' H',Inv X pins σ' H' s'/\D.bk σ' H'
 | .cont=>∃ σ' H',Inv X pins σ' H' s'/\D.ct σ' H'
 | .ret u=>∃ v σ' H',Inv X pins σ' H' s'/\RelV v u/\D.rt v H'
def PE (X:Cx) (e:Expr) (t:TE):Prop :=
 ∀ (pins:List (Addr×Obj)) (s:Shared) (σ:St) (H:Hp) (Q:VK),Inv X pins σ H s->t σ H Q->wpAny (model X.prog X.w) X.A (eval e X.env) (EP X pins σ Q) X.xe s
def PT (X:Cx) (e:Expr) (t:TT):Prop :=
 ∀ (pins:List (Addr×Obj)) (s:Shared) (σ:St) (H:Hp) (Q:Bool->Hp->Prop),Inv X pins σ H s->t σ H Q->wpAny (model X.prog X.w) X.A (isTrue e X.env (eval e X.env)) (TP X pins σ Q) X.xe s
def PW (X:Cx) (e:Expr) (t:TT):Prop :=
 ∀ (whole:Sem Value) (pins:List (Addr×Obj)) (s:Shared) (σ:St) (H:Hp) (Q:Bool->Hp->Prop),Inv X pins σ H s->t σ H Q->wpAny (model X.prog X.w) X.A (isTrue e X.env whole) (TP X pins σ Q) X.xe s
def PW.pt {X:Cx} {e:Expr} {t:TT} (h:PW X e t):PT X e t:=h _
def PA (X:Cx) (es:List Expr) (t:TA):Prop :=
 ∀ (pos:Pos) (pins:List (Addr×Obj)) (s:Shared) (σ:St) (H:Hp) (Q:List V->Hp->Prop),Inv X pins σ H s->t σ H Q->wpAny (model X.prog X.w) X.A (spliced (backTo pos (starEach es X.env))) (AP X pins σ Q) X.xe s
def PS (X:Cx) (st:Stmt) (t:TS):Prop :=
 ∀ (pins:List (Addr×Obj)) (s:Shared) (σ:St) (H:Hp) (D:Ends),Inv X pins σ H s->t D σ H->wpAny (model X.prog X.w) X.A (exec st X.env) (SP X pins D) X.xe s
def cX (X:Cx) (st:List Stmt) (t:TS):Prop :=
 ∀ (pins:List (Addr×Obj)) (s:Shared) (σ:St) (H:Hp) (D:Ends),Inv X pins σ H s->t D σ H->wpAny (model X.prog X.w) X.A (execs st X.env) (SP X pins D) X.xe s
def aC {α:Type} {t:Sem α} {Q Q':α->Shared->Prop} {M:Model} {A:Around} {E:Value->Shared->Prop} {s:Shared} (h:wpAny M A t Q E s) (hQ:∀ a s,Q a s->Q' a s):wpAny M A t Q' E s:=Ty h hQ fun _ _ x=>x
section
variable {X:Cx}
def JK (i:Nat):TE:=fun σ H Q=>∃ v,σ[i]?=some (some v)/\Q v H
def tC (v:V):TE:=fun _ H Q=>Q v H
def Bh {i:Nat} {x:Str} {pos:Pos} (hN:X.N[i]?=some x) (hv:mW X.env.scope x) (hd:(x == ("__debug__" : Str))=false:=by decide) (bF:(x == ("__classdict__" : Str))=false:=by decide):PE X (.Name x pos) (JK i):=by
 intro pins s σ H Q I h;obtain ⟨v,e,h⟩:=h;obtain ⟨m,hn,hl⟩:=I.loc;obtain ⟨u,r,l⟩:=hl i x v hN e hv;have fin:EP X pins σ Q u s:=⟨v,H,I,r,h⟩;rcases l with ⟨hk,hm⟩ | ⟨hk,c,hc,OD⟩
 ·exact wpAny_Name (wpAny_loadName_local I.ok.kind hk hn hm fin) hd
 ·rcases hk with hk | hk
  ·exact wpAny_Name (wpAny_loadName_cell I.ok.kind hk hc OD fin) hd
  ·exact wpAny_Name (wpAny_loadName_free I.ok.kind hk hc OD fin bF) hd
def ZY {i j pos}:PE X (.Constant (.int i) j pos) (tC (.int i)):=fun _ _ _ H _ I h=>wpAny_Constant_int ⟨.int i,H,I.tok _,⟨_,rfl⟩,h⟩
def aa7 {b j pos}:PE X (.Constant (.bool b) j pos) (tC (.bl b)):=fun _ _ _ H _ I h=>Constant_bool ⟨.bl b,H,I,rfl,h⟩
def Tr {j pos}:PE X (.Constant .none j pos) (tC .au):=fun _ _ _ H _ I h=>Constant_none ⟨.au,H,I,rfl,h⟩
def YM {x j pos}:PE X (.Constant (.str x) j pos) (tC (.str x)):=fun _ _ _ H _ I h=>Calls.Constant_str ⟨.str x,H,I.tok _,⟨_,rfl⟩,h⟩
def Gl (X:Cx) (x:Str):Prop:=X.env.kindOf x=some .globalImplicit
def kE {E:Value->Shared->Prop} {pins:List (Addr×Obj)} {s:Shared} {σ:St} {H:Hp} {x:Str} {u:Value} {pos:Pos} {Q:Value->Shared->Prop} (I:Inv X pins σ H s) (hg:Gl X x) (hm:X.mg x=some u) (h:Q u s)
  (hd:(x == ("__debug__" : Str))=false:=by decide):wpAny (model X.prog X.w) X.A (eval (.Name x pos) X.env) Q E s :=
 Calls.Name_function_global I.ok.kind hg (Calls.loadGlobal_global (by rw [I.ok.glob]; exact I.mod.glob.keeps I.bk) hm h) hd
def oj {E:Value->Shared->Prop} {pins:List (Addr×Obj)} {s:Shared} {σ:St} {H:Hp} {x:Str} {u:Value} {pos:Pos} {Q:Value->Shared->Prop} (I:Inv X pins σ H s) (hg:Gl X x) (hm:X.mg x=none) (hv:bootBuiltins x=some u) (h:Q u s)
  (hn:x ≠ "__name__" := by decide) (hd:(x == ("__debug__" : Str))=false:=by decide):wpAny (model X.prog X.w) X.A (eval (.Name x pos) X.env) Q E s:=by
 obtain ⟨mb,h1,h2⟩:=I.mod.blt;exact Calls.Name_function_global I.ok.kind hg (Calls.loadGlobal_builtin (by rw [I.ok.glob]; exact I.mod.glob.keeps I.bk) hm (by rw [I.ok.blt]; exact h1.keeps I.bk) ((h2 x hn).trans hv) h) hd
def Yu {x:Str} {v:V} {u:Value} {pos:Pos} (hg:Gl X x) (hm:X.mg x=some u) (r:RelV v u) (hd:(x == ("__debug__" : Str))=false:=by decide):PE X (.Name x pos) (tC v) :=
 fun _ _ _ H _ I h=>kE I hg hm ⟨v,H,I,r,h⟩ hd
def V1 {x:Str} {v:V} {u:Value} {pos:Pos} (hg:Gl X x) (hm:X.mg x=none) (hv:bootBuiltins x=some u) (r:RelV v u) (hn:x ≠ "__name__" := by decide) (hd:(x == ("__debug__" : Str))=false:=by decide):PE X (.Name x pos) (tC v) :=
 fun _ _ _ H _ I h=>oj I hg hm hv ⟨v,H,I,r,h⟩ hn hd
def Vk (ta tb:TE) (k:Int->Int->Hp->Prop):St->Hp->Prop:=fun σ H=>ta σ H fun x H1=>tb σ H1 fun y H2=>∃ i j,x=.int i/\y=.int j/\k i j H2
variable {a b:Expr} {ta tb:TE} {pos:Pos}
def PC (X:Cx) (op:CmpOp) (a b:Expr) (t:TE):Prop :=
 ∀ (pins:List (Addr×Obj)) (s:Shared) (σ:St) (H:Hp) (Q:VK),Inv X pins σ H s->t σ H Q ->
  wpAny (model X.prog X.w) X.A (eval a X.env) (fun v s₁=>wpAny (model X.prog X.w) X.A (eval b X.env) (fun u s₂=>wpAny (model X.prog X.w) X.A (compareOp op v u) (EP X pins σ Q) X.xe s₂) X.xe s₁) X.xe s
def wm (b:Expr) {op:CmpOp} (h:op≠.In) (h2:op≠.NotIn):behindInMarks op b=false:=by
 have e1:(op == CmpOp.In)=false:=by cases op <;> first | rfl | exact absurd rfl h
 have e2:(op == CmpOp.NotIn)=false:=by cases op <;> first | rfl | exact absurd rfl h2
 cases b <;> simp [behindInMarks,e1,e2]
def pA (p:Int->Int->Bool) (ta tb:TE):TE:=fun σ H Q=>Vk ta tb (fun i j H2=>Q (.bl (p i j)) H2) σ H
abbrev tLt:TE->TE->TE:=pA fun i j=>decide (i < j)
abbrev tLe:TE->TE->TE:=pA fun i j=>decide (i<=j)
abbrev tGt:TE->TE->TE:=pA fun i j=>decide (j < i)
abbrev tGe:TE->TE->TE:=pA fun i j=>decide (j<=i)
abbrev abt:TE->TE->TE:=pA fun i j=>decide (i=j)
abbrev abp:TE->TE->TE:=pA fun i j=>!decide (i=j)
def Wt (ta:TE):TE:=fun σ H Q=>ta σ H fun x H1=>Q (.bl (decide (x=.au))) H1
def tB (t:TE):TT:=fun σ H Q=>t σ H fun x H1=>∃ c,x=.bl c/\Q c H1
variable {tA tB':TT} {rest:List Expr}
def BH (t u:TT):TT:=fun σ H Q=>t σ H fun c H1=>if c=true then u σ H1 Q else Q false H1
def z8 (t u:TT):TT:=fun σ H Q=>t σ H fun c H1=>if c=true then Q true H1 else u σ H1 Q
def Bl (t:TT):TT:=fun σ H Q=>t σ H fun c H1=>Q (!c) H1
def aa4 (ha:PT X a tA):PW X (.BoolOp .And [a] pos) tA:=by
 intro wh pins s σ H Q I h;refine isTrue_and (aC (ha pins s σ H Q I h) fun c s1 e=>?_);cases c with
 | true=>exact isTrue_and_nil e
 | false=>exact e
def Y7 (ha:PT X a tA):PW X (.BoolOp .Or [a] pos) tA:=by
 intro wh pins s σ H Q I h;refine isTrue_or (aC (ha pins s σ H Q I h) fun c s1 e=>?_);cases c with
 | false=>exact isTrue_or_nil e
 | true=>exact e
def O7 (ha:PT X a tA) (hb:PW X (.BoolOp .And (b::rest) pos) tB'):PW X (.BoolOp .And (a::b::rest) pos) (BH tA tB'):=by
 intro wh pins s σ H Q I h;refine isTrue_and (aC (ha pins s σ H _ I h) fun c s1 ⟨H1,I1,q1⟩=>?_);cases c with
 | true=>exact hb wh pins s1 σ H1 Q I1 q1
 | false=>exact ⟨H1,I1,q1⟩
def Z1 (ha:PT X a tA) (hb:PW X (.BoolOp .Or (b::rest) pos) tB'):PW X (.BoolOp .Or (a::b::rest) pos) (z8 tA tB'):=by
 intro wh pins s σ H Q I h;refine isTrue_or (aC (ha pins s σ H _ I h) fun c s1 ⟨H1,I1,q1⟩=>?_);cases c with
 | true=>exact ⟨H1,I1,q1⟩
 | false=>exact hb wh pins s1 σ H1 Q I1 q1
def R5 (ha:PT X a tA):PT X (.UnaryOp .Not a pos) (Bl tA):=by
 intro pins s σ H Q I h;exact isTrue_not (ha pins s σ H (fun c H1=>Q (!c) H1) I h)
def Rc {op} {t:TE} (h:PE X a t):PE X (.BoolOp op [a] pos) t:=fun pins s σ H Q I hw=>BoolOp_one (h pins s σ H Q I hw)
def Ce (t:TT) (ta tb:TE):TE:=fun σ H Q=>t σ H fun c H1=>if c=true then ta σ H1 Q else tb σ H1 Q
def Vd {c:Expr} (hc:PT X c tA) (ha:PE X a ta) (hb:PE X b tb):PE X (.IfExp c a b pos) (Ce tA ta tb):=by
 intro pins s σ H Q I h;refine wpAny_IfExp (aC (hc pins s σ H _ I h) fun d s1 ⟨H1,I1,q1⟩=>?_);cases d with
 | true=>exact ha pins s1 σ H1 Q I1 q1
 | false=>exact hb pins s1 σ H1 Q I1 q1
end
def aD (K:PySem.W.Frag) (H:Hp) (a:Addr) (xs:List V):Prop :=
 Rd H a (.lst xs) \/
  ∃ (o:Obj) (ao:Array Value) (n:Nat),K.lookup a=some o/\o.cls=.type "list" /\ o.dict=none/\o.data=.seq ao n/\ao.size<=sizeLine/\Vals xs ao.toList
def bo (K:PySem.W.Frag) (H:Hp) (a:Addr) (xs:List V):Prop :=
 Rd H a (.tup xs) \/
  ∃ (o:Obj) (ao:Array Value) (n:Nat),K.lookup a=some o/\o.cls=.type "tuple" /\ o.data=.seq ao n/\ao.size<=sizeLine/\Vals xs ao.toList
def OX:Value->Option V
 | .none=>some .au
 | .bool b=>some (.bl b)
 | .int i _=>some (.int i)
 | .str x _=>some (.str x)
 | .bytes b _=>some (.byt b)
 | .float b _=>some (.nq b)
 | .ref a=>some (.ref a)
 | .type n=>some (.ty n)
 | _=>none
def RelV.abs {x:V} {u:Value} (r:RelV x u):OX u=some x:=by
 cases x with
 | au=>cases r; rfl
 | bl _=>cases r; rfl
 | int _=>obtain ⟨t,rfl⟩:=r; rfl
 | str _=>obtain ⟨t,rfl⟩:=r; rfl
 | byt _=>obtain ⟨t,rfl⟩:=r; rfl
 | nq _=>obtain ⟨t,rfl⟩:=r; rfl
 | ref _=>cases r; rfl
 | ty _=>cases r; rfl
def RelV.inj {x y:V} {u:Value} (r:RelV x u) (q:RelV y u):x=y:=PP (r.abs.symm.trans q.abs)
def Vals.inj:∀ {xs ys:List V} {us:List Value},Vals xs us->Vals ys us->xs=ys
 | _,_,_,.nil,.nil=>rfl
 | _,_,_,.cons r t,.cons r' t'=>by rw [r.inj r',Vals.inj t t']
section
variable {X:Cx} {pins:List (Addr×Obj)} {σ:St} {H:Hp} {s:Shared} {a:Addr} {xs ys:List V}
def aD.of {K:PySem.W.Frag} (h:H a=some (.lst xs)):aD K H a xs:=.inl (.inl h)
def bo.of {K:PySem.W.Frag} (h:H a=some (.tup xs)):bo K H a xs:=.inl (.inl h)
def Inv.list (I:Inv X pins σ H s) (h:aD X.K H a xs):∃ ao:List Value,Vals xs ao/\PlainL s.heap a ao.toArray/\xs.length<=sizeLine:=by
 rcases h with h | ⟨o,ao,n,hk,hc,hd,hs,hz,r⟩
 ·obtain ⟨z,ao,n,r,e⟩:=h.ok I.aA;exact ⟨ao,r,⟨_,n,e,rfl,rfl,rfl⟩,z⟩
 ·refine ⟨ao.toList,r,⟨o,n,I.bR a o hk,hc,hd,by simpa using hs⟩,?_⟩;have e:=r.length;simp only [W1] at e;omega
def Inv.tuple (I:Inv X pins σ H s) (h:bo X.K H a xs):∃ ao:List Value,Vals xs ao/\IsTup s.heap a ao.toArray/\xs.length<=sizeLine:=by
 rcases h with h | ⟨o,ao,n,hk,hc,hs,hz,r⟩
 ·obtain ⟨z,ao,r,p⟩:=h.ok I.aA;exact ⟨ao,r,p.t,z⟩
 ·refine ⟨ao.toList,r,⟨o,I.bR a o hk,hc,n,by simpa using hs⟩,?_⟩;have e:=r.length;simp only [W1] at e;omega
def Inv.Y4 (I:Inv X pins σ H s) (h:aD X.K H a xs) (h':aD X.K H a ys):xs=ys:=by
 obtain ⟨ao,r,⟨o,n,e,_,_,d⟩,_⟩:=I.list h;obtain ⟨its',r',⟨o',n',e',_,_,d'⟩,_⟩:=I.list h';rw [e] at e'; cases e';rw [d] at d';injection d' with d1 _;have:ao=its':=by simpa using UF Array.toList d1
 subst this;exact r.inj r'
end
abbrev Cx.cb (X:Cx) (E:Value->Shared->Prop):Cx:={ X with xe:=E }
abbrev Cx.pS (X:Cx):Cx:=X.cb fun _ _=>False
def Cx.Ok.cb {X:Cx} (ok:X.Ok) (E:Value->Shared->Prop):(X.cb E).Ok :=
 ⟨ok.mod,ok.kind,ok.glob,ok.blt,ok.above,ok.inj,ok.has,ok.kK,ok.hd,ok.frames,ok.dj,ok.ub,ok.bs,ok.gN,ok.mL,ok.mz,ok.eX,ok.iM⟩
def Cx.Ok.me {X:Cx} {E:Value->Shared->Prop} (ok:(X.cb E).Ok):X.Ok :=
 ⟨ok.mod,ok.kind,ok.glob,ok.blt,ok.above,ok.inj,ok.has,ok.kK,ok.hd,ok.frames,ok.dj,ok.ub,ok.bs,ok.gN,ok.mL,ok.mz,ok.eX,ok.iM⟩
section
variable {X:Cx} {pins:List (Addr×Obj)} {σ:St} {H:Hp} {s:Shared} {E:Value->Shared->Prop}
def Inv.cb (I:Inv X pins σ H s) (E:Value->Shared->Prop):Inv (X.cb E) pins σ H s:=⟨I.ok.cb E,I.os,I.bare,I.base,I.loc,I.cell,I.free,I.e8,I.pin,I.aA,I.len⟩
def Inv.me (I:Inv (X.cb E) pins σ H s):Inv X pins σ H s:=⟨I.ok.me,I.os,I.bare,I.base,I.loc,I.cell,I.free,I.e8,I.pin,I.aA,I.len⟩
def SP.me {D:Ends} {f:Flow} {s':Shared} (h:SP (X.cb E) pins D f s'):SP X pins D f s':=by
 cases f with
 | next=>obtain ⟨σ',H',I,q⟩:=h; exact ⟨σ',H',I.me,q⟩
 | brk=>obtain ⟨σ',H',I,q⟩:=h; exact ⟨σ',H',I.me,q⟩
 | cont=>obtain ⟨σ',H',I,q⟩:=h; exact ⟨σ',H',I.me,q⟩
 | ret u=>obtain ⟨v,σ',H',I,r,q⟩:=h; exact ⟨v,σ',H',I.me,r,q⟩
def cX.pS {st:List Stmt} {t:TS} (h:cX X.pS st t):cX X st t:=fun pins s σ H D I hw =>
 Ty (h pins s σ H D (I.cb _) hw) (fun _ _ q=>q.me) fun _ _ z=>False.elim z
end
section
variable {X:Cx} {st:Stmt} {rest:List Stmt} {t u:TS} {e:Expr} {te:TE} {pos:Pos}
def zW:TS:=fun D σ H=>D.nx σ H
def Qy (t u:TS):TS:=fun D σ H=>t { D with nx:=u D } σ H
def VP:cX X [] zW:=fun _ _ σ H _ I h=>_8 ⟨σ,H,I,h⟩
def TR (h1:PS X st t) (h2:cX X rest u):cX X (st::rest) (Qy t u):=by
 intro pins s σ H D I h;refine wpAny_execs_cons (aC (h1 pins s σ H { D with nx:=u D } I h) fun f s1 q=>?_);cases f with
 | next =>
  obtain ⟨σ',H',I',q⟩:=q;exact h2 pins s1 σ' H' D I' q
 | ret v=>exact q
 | brk=>exact q
 | cont=>exact q
def Xy (h1:PS X st t):cX X [st] t:=by
 intro pins s σ H D I h;refine wpAny_execs_cons (aC (h1 pins s σ H D I h) fun f s1 q=>?_);cases f with
 | next=>exact _8 q
 | ret v=>exact q
 | brk=>exact q
 | cont=>exact q
def Inv.quiet {pins:List (Addr×Obj)} {σ:St} {H:Hp} {s:Shared} (I:Inv X pins σ H s):interactive X.env=false:=by simp [interactive,I.ok.kind]
def AD (te:TE):TS:=fun D σ H=>te σ H fun _ H1=>D.nx σ H1
def TL (he:PE X e te) (hs:swapsWith e none pos.line X.env=pure false:=by rfl):PS X (.Expr e pos) (AD te):=by
 intro pins s σ H D I h;exact wpAny_Expr_any (aC (he pins s σ H _ I h) fun v s1 ⟨x,H1,I1,r1,q1⟩=>⟨σ,H1,I1,q1⟩) I.quiet hs
def yx (te:TE):TS:=fun D σ H=>te σ H D.rt
def Yb (he:PE X e te):PS X (.Return (some e) pos) (yx te):=by
 intro pins s σ H D I h;exact wpAny_Return_some (aC (he pins s σ H _ I h) fun v s1 ⟨x,H1,I1,r1,q1⟩=>⟨x,σ,H1,I1,r1,q1⟩)
def Aj:TS:=fun D _ H=>D.rt .au H
def Vb:PS X (.Return none pos) Aj:=fun _ _ σ H _ I h=>wpAny_Return_none ⟨.au,σ,H,I,rfl,h⟩
def yQ (c:TT) (t u:TS):TS:=fun D σ H=>c σ H fun b H1=>if b=true then t D σ H1 else u D σ H1
def Wh {c:Expr} {a b:List Stmt} {tc:TT} (hc:PT X c tc) (ha:cX X a t) (hb:cX X b u):PS X (.If c a b pos) (yQ tc t u):=by
 intro pins s σ H D I h;refine wpAny_If (aC (hc pins s σ H _ I h) fun d s1 ⟨H1,I1,q1⟩=>?_);cases d with
 | true=>exact ha pins s1 σ H1 D I1 q1
 | false=>exact hb pins s1 σ H1 D I1 q1
def zK:TS:=fun _ _ _=>False
def aaW:PS X st zK:=fun _ _ _ _ _ _ h=>h.elim
end
abbrev TG:=V->St->Hp->(St->Hp->Prop)->Prop
abbrev jB:=List V->St->Hp->(St->Hp->Prop)->Prop
def PG (X:Cx) (target:Expr) (t:TG):Prop :=
 ∀ (pins:List (Addr×Obj)) (s:Shared) (σ:St) (H:Hp) (v:V) (u:Value) (Q:St->Hp->Prop),Inv X pins σ H s->RelV v u->t v σ H Q ->
  wpAny (model X.prog X.w) X.A (assign target X.env u) (fun _ s'=>∃ σ' H',Inv X pins σ' H' s'/\Q σ' H') X.xe s
def tM (X:Cx) (ts:List Expr) (t:jB):Prop :=
 ∀ (pins:List (Addr×Obj)) (s:Shared) (σ:St) (H:Hp) (vs:List V) (us:List Value) (Q:St->Hp->Prop),Inv X pins σ H s->Vals vs us->t vs σ H Q ->
  wpAny (model X.prog X.w) X.A (assignInOrder ((assignEach ts X.env).map (·.2)) us) (fun _ s'=>∃ σ' H',Inv X pins σ' H' s'/\Q σ' H') X.xe s
abbrev uq:=V->V->V->Hp->(Hp->Prop)->Prop
def wt (X:Cx) (t:uq):Prop :=
 ∀ (pins:List (Addr×Obj)) (s:Shared) (σ:St) (H:Hp) (o i v:V) (ov iv u:Value) (Q:Hp->Prop),Inv X pins σ H s->RelV o ov->RelV i iv->RelV v u->t o i v H Q ->
  wpAny (model X.prog X.w) X.A (setItem ov iv u) (fun _ s'=>∃ H',Inv X pins σ H' s'/\Q H') X.xe s
abbrev TIp:=V->V->Hp->VK->Prop
section
variable {X:Cx} {pos:Pos}
def gd (i:Nat):TG:=fun v σ H Q=>Q (σ.set i (some v)) H
def ZL {i:Nat} {x:Str} (hN:X.N.Nodup) (hi:X.N[i]?=some x) (hx:Loc X.env.scope x) (hf:X.fn x=true\/X.env.scope.names.lookup x=some .local:=by first | exact .inl rfl | exact .inr rfl | assumption):PG X (.Name x pos) (gd i):=by
 intro pins s σ H v u Q I r h;exact wpAny_assign_Name (Cm I hN hi hx r (fun s' I'=>⟨_,H,I',h⟩) hf)
def y4:jB:=fun vs σ H Q=>vs=[]/\Q σ H
def CY (t:TG) (u:jB):jB:=fun vs σ H Q=>∃ v r,vs=v::r/\t v σ H fun σ' H'=>u r σ' H' Q
def Pf:tM X [] y4:=by
 intro pins s σ H vs us Q I r h;obtain ⟨e,h⟩:=h;subst e;cases r;exact assignInOrder_nil ⟨σ,H,I,h⟩
def aaG {e:Expr} {es:List Expr} {t:TG} {u:jB} (h1:PG X e t) (h2:tM X es u)
  (hs:(assignEach (e::es) X.env).map (·.2)=assign e X.env::(assignEach es X.env).map (·.2):=by rfl):tM X (e::es) (CY t u):=by
 intro pins s σ H vs us Q I r h;obtain ⟨v,vr,e1,h⟩:=h;subst e1;cases r with
 | cons r rr =>
  rw [hs];refine assignInOrder_cons (aC (h1 pins s σ H _ _ _ I r h) fun _ s1 ⟨σ1,H1,I1,q1⟩=>?_);exact h2 pins s1 σ1 H1 _ _ Q I1 rr q1
def CI (K:PySem.W.Frag) (n:Nat) (t:jB):TG:=fun v σ H Q=>∃ a xs,v=.ref a/\bo K H a xs/\xs.length=n/\t xs σ H Q
def T1 {es:List Expr} {k:Nat} {t:jB} {n:Nat} (hc:X.calm=true) (h:tM X es t)
  (hn:(assignEach es X.env).length=n:=by rfl) (aU:(assignEach es X.env).findIdx? (·.1)=none:=by rfl):PG X (.Tuple es k pos) (CI X.K n t):=by
 intro pins s σ H v u Q I r hw;obtain ⟨a,xs,e1,hq,hl,hw⟩:=hw;subst e1;cases r;obtain ⟨ao,rv,ht,hz⟩:=I.tuple hq;refine assign_Tuple_tuple (I.ok.hd hc) ht (by simp [hn,<- hl,rv.length]) aU fun h' hx=>?_;have I1:Inv X pins σ H { s with heap:=h' }:=I.kept (t':=s.toks) fun b o e=>hx b o (GE (Fk e)) e;exact h pins _ σ H xs _ Q I1 (by simpa using rv) hw
def Dl (to ti:TE) (t:uq):TG:=fun v σ H Q=>to σ H fun o H1=>ti σ H1 fun i H2=>t o i v H2 fun H3=>Q σ H3
def Xh {o i:Expr} {to ti:TE} {t:uq} (ho:PE X o to) (hi:PE X i ti) (hs:wt X t)
  (ha:∀ v,assign (.Subscript o i pos) X.env v=(do
   let ov <- holding [v] (eval o X.env)
   let iv <- holding [v,ov] (eval i X.env)
   standAt pos
   holding [v,ov,iv] (setItem ov iv v)
   release [v,ov,iv] []):=by intro _; rfl):PG X (.Subscript o i pos) (Dl to ti t):=by
 intro pins s σ H v u Q I r h;rw [ha];refine wT (Rs (aC (ho pins s σ H _ I h) fun ov s1 ⟨x,H1,I1,r1,q1⟩=>?_));refine wT (Rs (aC (hi pins s1 σ H1 _ I1 q1) fun iv s2 ⟨y,H2,I2,r2,q2⟩=>?_));refine wT (Jaj (wT (Rs (aC (hs pins s2 σ H2 x y v ov iv u _ I2 r1 r2 r q2) fun _ s3 ⟨H3,I3,q3⟩=>?_))));exact wpAny_release ⟨σ,H3,I3,q3⟩
def lW (te:TE) (g:TG):TS:=fun D σ H=>te σ H fun x H1=>g x σ H1 D.nx
def Z4 {tg e:Expr} {te:TE} {g:TG} (he:PE X e te) (hg:PG X tg g) (hs:swapsWithSole [tg] e pos.line X.env=pure false:=by rfl) (hw:swappedStores [tg] e X.env=pure none:=by rfl)
  (h1:(assignEach [tg] X.env).map (·.2)=[assign tg X.env]:=by rfl):PS X (.Assign [tg] e pos) (lW te g):=by
 intro pins s σ H D I h;refine wpAny_Assign_stores (aC (he pins s σ H _ I h) fun v s1 ⟨x,H1,I1,r1,q1⟩=>?_) hs hw;rw [h1];exact aC (hg pins s1 σ H1 x v _ I1 r1 q1) fun _ s2 q=>q
def SM {i:Nat} {x:Str} {e:Expr} {te:TE} {pos':Pos} (hN:X.N.Nodup) (hi:X.N[i]?=some x) (hx:Loc X.env.scope x) (he:PE X e te) (hs:swapsWith e (some (.Name x pos')) pos.line X.env=pure false:=by rfl) (hf:X.fn x=true\/X.env.scope.names.lookup x=some .local:=by first | exact .inl rfl | exact .inr rfl | assumption) :
  PS X (.Assign [.Name x pos'] e pos) (lW te (gd i)):=by
 intro pins s σ H D I h;refine wpAny_Assign_Name (aC (he pins s σ H _ I h) fun v s1 ⟨y,H1,I1,r1,q1⟩=>?_) hs;exact Cm I1 hN hi hx r1 (fun s2 I2=>⟨_,H1,I2,q1⟩) hf
end
section
variable {X:Cx} {pos:Pos}
def GY (c:TT) (tb:TS):TS:=fun D σ H=>∃ W:Nat->St->Hp->Prop,(∃ m,W m σ H)/\∀ m σ H,W m σ H ->
 c σ H fun b H1=>if b=true then ∃ N:St->Hp->Prop,(∀ σ' H',N σ' H'->∃ m',m' < m/\W m' σ' H')/\tb { D with nx:=N,ct:=N,bk:=D.nx } σ H1 else D.nx σ H1
def aaX {c:Expr} {body:List Stmt} {tc:TT} {tb:TS} (hp:PassesOwn (model X.prog X.w) X.A X.env X.xe) (hc:PT X c tc) (hb:cX X body tb):PS X (.While c body [] pos) (GY tc tb):=by
 intro pins s σ H D I h;obtain ⟨W,⟨m0,w0⟩,turn⟩:=h;refine wpAny_While (codeAny_whileLoop (fun n s'=>∃ σ' H',Inv X pins σ' H' s'/\W n σ' H') ?_ m0 ⟨σ,H,I,w0⟩);rintro n s1 ⟨σ1,H1,I1,w1⟩;refine _s hp (aC (hc pins s1 σ1 H1 _ I1 (turn n σ1 H1 w1)) fun b s2 ⟨H2,I2,q2⟩=>?_);cases b with
 | true =>
  obtain ⟨N,hN,q2⟩:=q2;rw [IN rfl];refine _s hp (aC (hb pins s2 σ1 H2 _ I2 q2) fun f s3 q3=>?_);cases f with
  | next =>
   obtain ⟨σ3,H3,I3,n3⟩:=q3;obtain ⟨m',hm,w3⟩:=hN σ3 H3 n3;exact ⟨m',hm,σ3,H3,I3,w3⟩
  | cont =>
   obtain ⟨σ3,H3,I3,n3⟩:=q3;obtain ⟨m',hm,w3⟩:=hN σ3 H3 n3;exact ⟨m',hm,σ3,H3,I3,w3⟩
  | brk=>exact q3
  | ret v=>exact q3
 | false =>
  rw [Id FS];exact _8 ⟨σ1,H2,I2,q2⟩
end
structure It where
 go:Nat->Hp->Prop
 jX:Nat->Hp->V->Hp->Prop
 stop:Nat->Hp->Prop
def jT (X:Cx) (pins:List (Addr×Obj)) (H:Hp) (b:Addr):Prop :=
 H b=none/\b≠X.env.locals/\b ∉ X.fs/\(b∈X.ex\/X.s₀.heap.objs.size<=b)/\(∀ x c,X.env.cells.lookup x=some c->c≠b)/\∀ p∈X.pn++pins,p.1≠b
def Inv.Cs {X:Cx} {pins:List (Addr×Obj)} {σ:St} {H H':Hp} {s:Shared} {b:Addr} (I:Inv X pins σ H s) (hb:s.heap.objs.size<=b) (hn:H' b=none):jT X pins H' b:=by
 refine ⟨hn,Jay (FB I.lt hb),I.J1 hb,.inr (Gc I.sz hb),fun x c e z=>?_,fun p hp z=>?_⟩
 ·obtain ⟨v,q⟩:=I.cell x c e;exact absurd (FB q.lt (by rw [z]; exact hb)) (SZ _)
 ·exact absurd (FB (Fk (I.pin p hp).1) (by rw [z]; exact hb)) (SZ _)
structure Turn (P:Program) (w:World) (K:PySem.W.Frag) (tg:Expr) (J:It) (fp:List Addr) (it:Addr) (tn:Nat->Heap->Prop):Prop where
 mem:it∈fp
 obj:∀ i h,tn i h->∀ b∈fp,∃ o,h.get? b=some o/\∀ v,o.data≠.cell v
 keep:∀ i h h',tn i h->(∀ b∈fp,∀ o,h.get? b=some o->h'.get? b=some o)->tn i h'
 item:∀ (X:Cx),X.prog=P->X.w=w->X.K=K->X.calm=true->∀ (i:Nat) (pins:List (Addr×Obj)) (s:Shared) (σ:St) (H:Hp) (E:Value->Shared->Prop),Inv X pins σ H s->(∀ b∈fp,jT X pins H b)->tn i s.heap->J.go i H ->
  wpAny (model P w) X.A (pyNext (.ref it)) (fun r s1=>∃ u,r=some u /\
   wpAny (model P w) X.A (letOwnedTupleGo tg (.ref it) u) (fun _ s2=>∃ x H',Inv X pins σ H' s2/\RelV x u/\J.jX i H x H'/\tn (i+1) s2.heap/\∀ b∈fp,H' b=none) E s1) E s
 done:∀ (X:Cx),X.prog=P->X.w=w->X.K=K->X.calm=true->∀ (i:Nat) (pins:List (Addr×Obj)) (s:Shared) (σ:St) (H:Hp) (E:Value->Shared->Prop),Inv X pins σ H s->(∀ b∈fp,jT X pins H b)->tn i s.heap->J.stop i H ->
  wpAny (model P w) X.A (pyNext (.ref it)) (fun r s1=>r=none/\Inv X pins σ H s1) E s
 self:∀ (A:Around) (i:Nat) (s:Shared) (Q:Value->Shared->Prop) (E:Value->Shared->Prop),tn i s.heap->Q (.ref it) s->wpAny (model P w) A (pyIter (.ref it)) Q E s
abbrev TI:=St->Hp->(It->Hp->Prop)->Prop
def Je (X:Cx) (pins:List (Addr×Obj)) (σ:St) (tg:Expr) (R:It->Hp->Prop) (Ez:Value) (s2:Shared):Prop :=
 ∃ (it:Addr) (fp:List Addr) (tn:Nat->Heap->Prop) (J:It) (H':Hp),Ez=.ref it/\Inv X pins σ H' s2/\Turn X.prog X.w X.K tg J fp it tn/\tn 0 s2.heap/\(∀ b∈fp,jT X pins H' b)/\R J H'
def PI (X:Cx) (tg iter:Expr) (wi:TI):Prop :=
 ∀ (pins:List (Addr×Obj)) (s:Shared) (σ:St) (H:Hp) (R:It->Hp->Prop),Inv X pins σ H s->wi σ H R ->
  wpAny (model X.prog X.w) X.A (eval iter X.env) (fun v s1=>wpAny (model X.prog X.w) X.A (pyIter v) (Je X pins σ tg R) X.xe s1) X.xe s
def Ai {M:Model} {A:Around} {E:Value->Shared->Prop} {s:Shared} {tg:Expr} {it:Addr} {u:Value} {o:Obj} {n:String} {vs:Array Value} {Q:Unit->Shared->Prop} (ho:s.heap.get? it=some o) (hc:o.cls=.type n) (hd:o.data=.fields vs)
  (hn:["enumerate","zip","dict_itemiterator","dict_reverseitemiterator","odict_iterator","itertools.zip_longest","itertools.pairwise"].contains n=false) (hQ:Q () s):wpAny M A (letOwnedTupleGo tg (.ref it) u) Q E s:=by
 unfold letOwnedTupleGo;cases tg <;> first
  | exact Cl hQ
  | (cases u <;> first
    | exact Cl hQ
    | (refine wT (wpAny_load ho ?_)
       rw [hc,hd];show wpAny M A (if (["enumerate","zip","dict_itemiterator","dict_reverseitemiterator","odict_iterator","itertools.zip_longest","itertools.pairwise"].contains n && vs[0]? == some (rawInt _))=true then _ else _) Q E s;rw [Id (by intro h; rw [hn,JaB] at h; cases h)];exact Cl hQ))
def lz (K:PySem.W.Frag) (a:Addr):It :=
 ⟨fun i H=>∃ xs x,aD K H a xs/\xs[i]?=some x,fun i H x H'=>H'=H/\∀ xs,aD K H a xs->xs[i]?=some x,fun i H=>∃ xs,aD K H a xs/\xs.length<=i⟩
def jZ (lo:Int) (n:Nat):It:=⟨fun i _=>i < n,fun i H x H'=>H'=H/\x=.int (lo+i),fun i _=>n<=i⟩
def W2 {P:Program} {w:World} {K:PySem.W.Frag} {tg:Expr} (a it:Addr):Turn P w K tg (lz K a) [it] it (fun i h=>h.IsListIter it a i) where
 mem:=by simp
 obj:=fun i h st b hb=>by
  have e:b=it:=by simpa using hb
  subst e;obtain ⟨o,e,c,d⟩:=st;exact ⟨o,e,fun v z=>by rw [d] at z; cases z⟩
 keep:=fun i h h' st k=>st.at fun o e=>k it (by simp) o e
 item:=by
  intro X hP hw hK hc i pins s σ H E I hf st hg;subst hP hw hK;obtain ⟨xs,x,hq,hx⟩:=hg;obtain ⟨ao,rv,p,hz⟩:=I.list hq;obtain ⟨u,hu,ru⟩:=rv.get hx;obtain ⟨f0,f1,f2,f3,f4,f5⟩:=hf it (by simp);refine wpAny_pyNext_list_item st p.isList (x:=u) (by simpa using hu) fun h' st' sb=>?_;have I1:Inv X pins σ H { s with heap:=h' }:=I.turned (t':=s.toks) (fun b o hb e=>(sb.2 b hb).trans e) f0 f1 f3 f4 f5;obtain ⟨o,e,c,d⟩:=id st';exact ⟨u,rfl,Ai (s:={ s with heap:=h' }) e c d (by decide) ⟨x,H,I1,ru,⟨rfl,fun ys hy=>by rw [I.Y4 hy hq]; exact hx⟩,st',fun b hb=>(hf b hb).1⟩⟩
 done:=by
  intro X hP hw hK hc i pins s σ H E I hf st hg;subst hP hw hK;obtain ⟨xs,hq,hx⟩:=hg;obtain ⟨ao,rv,p,hz⟩:=I.list hq;obtain ⟨f0,f1,f2,f3,f4,f5⟩:=hf it (by simp);have hl:=rv.length;exact wpAny_pyNext_list_end (I.ok.hd hc) st p.isList (by simp; omega) fun h' eb=>⟨rfl,I.turned (t':=s.toks) (fun b o hb e=>eb b o hb e) f0 f1 f3 f4 f5⟩
 self:=fun _ _ _ _ _ st h=>wpAny_pyIter_listiter st h
def XF {P:Program} {w:World} {K:PySem.W.Frag} {tg:Expr} (it:Addr) (lo:Int) (n:Nat):Turn P w K tg (jZ lo n) [it] it (fun i h=>IsRangeIter h it (lo+(i:Nat) * 1) ((n:Int) - (i:Nat)) 1) where
 mem:=by simp
 obj:=fun i h st b hb=>by
  have e:b=it:=by simpa using hb
  subst e;exact ⟨_,st,fun v z=>by
   have z':Data.fields _=Data.cell v:=z;cases z'⟩
 keep:=fun i h h' st k=>k it (by simp) _ st
 item:=by
  intro X hP hw hK hc i pins s σ H E I hf st hg;subst hP hw hK;obtain ⟨f0,f1,f2,f3,f4,f5⟩:=hf it (by simp);have W:=Walks.range (prog:=X.prog) (w:=X.w) (I.ok.hd hc) it lo 1 n;refine W.item i s _ _ hg st fun v h' tk hv st' kk=>?_;obtain ⟨t,rfl⟩:=hv;have I1:Inv X pins σ H { s with heap:=h',toks:=tk }:=I.turned (fun b o hb e=>kk b o (by simpa using hb) e) f0 f1 f3 f4 f5;refine ⟨_,rfl,Ai (s:={ s with heap:=h',toks:=tk }) (n := "range_iterator") st' rfl rfl (by decide) ⟨.int (lo+i),H,I1,⟨t,?_⟩,⟨rfl,rfl⟩,st',fun b hb=>(hf b hb).1⟩⟩;rw [Int.mul_one]
 done:=by
  intro X hP hw hK hc i pins s σ H E I hf st hg;subst hP hw hK;obtain ⟨f0,f1,f2,f3,f4,f5⟩:=hf it (by simp);exact wpAny_pyNext_range_end (I.ok.hd hc) st (by have:n<=i:=hg; omega) fun h' eb=>⟨rfl,I.turned (t':=s.toks) (fun b o hb e=>eb b o hb e) f0 f1 f3 f4 f5⟩
 self:=fun _ _ _ _ _ st h=>wpAny_pyIter_rangeiter st h
section
variable {X:Cx} {tg:Expr}
def Wa (K:PySem.W.Frag) (tl:TE):TI:=fun σ H R=>tl σ H fun x H1=>∃ a,x=.ref a/\(∃ xs,aD K H1 a xs)/\R (lz K a) H1
def UK {l:Expr} {tl:TE} (hl:PE X l tl):PI X tg l (Wa X.K tl):=by
 intro pins s σ H R I h;refine aC (hl pins s σ H _ I h) fun v s1 ⟨x,H1,I1,r1,q1⟩=>?_;obtain ⟨a,e,⟨xs,hq⟩,q⟩:=q1;subst e;cases r1;obtain ⟨ao,rv,p,hz⟩:=I1.list hq;refine wpAny_pyIter_list p.isList ?_;refine ⟨s1.heap.objs.size,[s1.heap.objs.size],_,_,H1,rfl,I1.kept (t':=s1.toks) fun b o e=>xz _ e,W2 a _,⟨_,FM _ rfl,rfl,rfl⟩,fun b hb=>?_,q⟩;have e:b=s1.heap.objs.size:=by simpa using hb
 subst e;exact I1.Cs (Ev _) (I1.aA.fresh (Ev _))
def Y2 {pins:List (Addr×Obj)} {σ:St} {H:Hp} {s:Shared} {R:It->Hp->Prop} {E:Value->Shared->Prop} {lo hi:Int} {t u v:Tok} {tk:Nat} (I:Inv X pins σ H s) (h1:-(2 ^ 62)<=lo) (h2:lo < 2 ^ 62) (h3:-(2 ^ 62)<=hi) (h4:hi < 2 ^ 62)
  (q:R (jZ lo (hi - lo).toNat) H):wpAny (model X.prog X.w) X.A (pyIter (.ref s.heap.objs.size)) (Je X pins σ tg R) E { s with heap:=s.heap.push { cls:=.type "range",data:=.fields #[.int lo t,.int hi u,.int 1 v] },toks:=tk }:=by
 refine wpAny_pyIter_range (IsRange.new ..) (small_one h1 h2 h3 h4) ?_;have I1:Inv X pins σ H { s with heap:=s.heap.push { cls:=.type "range",data:=.fields #[.int lo t,.int hi u,.int 1 v] },toks:=tk }:=I.kept fun b o e=>xz _ e;refine ⟨(s.heap.push { cls:=.type "range",data:=.fields #[.int lo t,.int hi u,.int 1 v] }).objs.size,[(s.heap.push { cls:=.type "range",data:=.fields #[.int lo t,.int hi u,.int 1 v] }).objs.size],_,_,H,rfl,
  I1.kept (t':=tk) fun b o e=>xz _ e,XF _ lo (hi - lo).toNat,?_,fun b hb=>?_,q⟩
 ·have e1:lo+((0:Nat):Int) * 1=lo:=by simp
  have e2:(((hi - lo).toNat:Nat):Int) - ((0:Nat):Int)=Builtin.Range.rangeSize lo hi 1:=by rw [rangeSize_one]; split <;> omega
  show IsRangeIter _ _ (lo+((0:Nat):Int) * 1) ((((hi - lo).toNat:Nat):Int) - ((0:Nat):Int)) 1;rw [e1,e2];exact FM _ rfl
 ·have e:b=(s.heap.push { cls:=.type "range",data:=.fields #[.int lo t,.int hi u,.int 1 v] }).objs.size:=by simpa using hb
  subst e;exact I1.Cs (Ev _) (I1.aA.fresh (Ev _))
def Zg (ta:TA):TI:=fun σ H R=>ta σ H fun vs H1=>∃ j:Int,vs=[.int j]/\-(2 ^ 62)<=j/\j < 2 ^ 62/\R (jZ 0 j.toNat) H1
def XQ {a:Expr} {ta:TA} {p pos:Pos} (hg:Gl X "range") (hm:X.mg "range" = none) (ha:PA X [a] ta) (hs:starEach [a] X.env=[(false,eval a X.env)]:=by rfl):PI X tg (.Call (.Name "range" p) [a] [] pos) (Zg ta):=by
 intro pins s σ H R I h;refine Call_ (oj I hg hm boot_range (_k (aC (ha pos pins s σ H _ I h) fun us s1 ⟨vs,H1,I1,r1,q1⟩=>?_) hs rfl));obtain ⟨j,e,q1,q2,q⟩:=q1;subst e;cases r1 with
 | cons r rr =>
  cases rr;obtain ⟨t,rfl⟩:=r;exact call_range_1 (Y2 I1 (by omega) (by omega) q1 q2 (by simpa using q))
def DO (wi:TI) (g:TG) (tb:TS):TS:=fun D σ H=>wi σ H fun J H1=>∃ W:Nat->Nat->St->Hp->Prop,(∃ m,W 0 m σ H1)/\∀ i m σ H,W i m σ H ->
 (J.stop i H/\D.nx σ H)\/(J.go i H/\∃ N:St->Hp->Prop,(∀ σ' H',N σ' H'->∃ m',m' < m/\W (i+1) m' σ' H')/\∀ x H',J.jX i H x H'->g x σ H' fun σ2 H2=>tb { D with nx:=N,ct:=N,bk:=D.nx } σ2 H2)
def uh (fp:List Addr) (h:Heap):List (Addr×Obj):=fp.filterMap fun b=>(h.get? b).map fun o=>(b,o)
def va {fp:List Addr} {h:Heap} {b:Addr} {o:Obj} (hb:b∈fp) (e:h.get? b=some o):(b,o)∈uh fp h:=Ja1.mpr ⟨b,hb,by rw [e]; rfl⟩
def VS {fp:List Addr} {h:Heap} {p:Addr×Obj} (hp:p∈uh fp h):p.1∈fp/\h.get? p.1=some p.2:=by
 obtain ⟨b,hb,e⟩:=Ja1.mp hp;cases q:h.get? b with
 | none=>rw [q] at e; cases e
 | some o =>
  rw [q] at e;have e':(b,o)=p:=PP e;subst e';exact ⟨hb,q⟩
def Inv.pinned {pins:List (Addr×Obj)} {σ:St} {H:Hp} {s:Shared} {fp:List Addr} (I:Inv X pins σ H s) (hf:∀ b∈fp,jT X pins H b) (ho:∀ b∈fp,∃ o,s.heap.get? b=some o/\∀ v,o.data≠.cell v):Inv X (pins++uh fp s.heap) σ H s :=
 I.uu fun p hp=>(TW.mp hp).elim (fun z=>I.pin p (IO _ z)) fun z=>by
  obtain ⟨hb,e⟩:=VS z;obtain ⟨f0,f1,f2,_⟩:=hf p.1 hb;obtain ⟨o,e',d⟩:=ho p.1 hb;rw [e] at e'; cases e';exact ⟨e,f0,f1,f2,d⟩
def Inv.B4 {pins pl:List (Addr×Obj)} {σ:St} {H:Hp} {s:Shared} (I:Inv X (pins++pl) σ H s):Inv X pins σ H s:=I.uu fun p hp=>I.pin p (IO _ (_a _ hp))
def Vz {iter:Expr} {body:List Stmt} {wi:TI} {g:TG} {tb:TS} {pos:Pos} (hp:PassesOwn (model X.prog X.w) X.A X.env X.xe) (hc:X.calm=true) (hi:PI X tg iter wi) (hg:PG X tg g) (hb:cX X body tb)
  (hs:∀ x,foldedSetIterable iter X.env x=pure x:=by intro _; rfl):PS X (.For tg iter body [] pos) (DO wi g tb):=by
 intro pins s σ H D I h;refine wpAny_For (aC (hi pins s σ H _ I h) fun v s1 h1=>aC h1 fun Ez s2 h2=>?_) hs;obtain ⟨it,fp,tn,J,H2,e,I2,T,jP,f2,W,⟨m0,w0⟩,turn⟩:=h2;subst e
 -- what stays true of jM iterator's objects through jM loop
 have Ew:∀ {H':Hp},(∀ b∈fp,H' b=none)->∀ b∈fp,jT X pins H' b:=fun hn b hb=>⟨hn b hb,(f2 b hb).2⟩;refine codeAny_forLoop_any (fun n s'=>∃ i σ' H',Inv X pins σ' H' s'/\tn i s'.heap/\(∀ b∈fp,H' b=none)/\W i n σ' H') ?_ m0 ⟨0,σ,H2,I2,jP,fun b hb=>(f2 b hb).1,w0⟩;rintro n s3 ⟨i,σ3,H3,I3,OI,xy,w3⟩;rcases turn i n σ3 H3 w3 with ⟨stop,qn⟩ | ⟨go,N,hN,step⟩
 ·refine _s hp (aC (T.done X rfl rfl rfl hc i pins s3 σ3 H3 X.xe I3 (Ew xy) OI stop) fun r s4 ⟨hr,I4⟩=>?_);subst hr;exact _8 ⟨σ3,H3,I4,qn⟩
 ·refine _s hp (aC (T.item X rfl rfl rfl hc i pins s3 σ3 H3 X.xe I3 (Ew xy) OI go) fun r s4 ⟨u,hr,h4⟩=>?_);subst hr;refine _s hp (aC h4 fun _ s5 ⟨x,H5,I5,r5,y5,qM,ye⟩=>?_);have I5':=I5.pinned (Ew ye) (T.obj _ _ qM);refine _s hp (aC (hg _ s5 σ3 H5 x u _ I5' r5 (step x H5 y5)) fun _ s6 ⟨σ6,H6,I6,q6⟩=>?_);refine _s hp (aC (hb _ s6 σ6 H6 _ I6 q6) fun f s7 q7=>?_);have again:∀ {σ7:St} {H7:Hp},Inv X (pins++uh fp s5.heap) σ7 H7 s7->N σ7 H7->∃ m,m < n/\∃ i σ' H',Inv X pins σ' H' s7/\tn i s7.heap/\(∀ b∈fp,H' b=none)/\W i m σ' H':=fun {σ7 H7} I7 n7=>by
   obtain ⟨m',hm,w7⟩:=hN σ7 H7 n7;refine ⟨m',hm,i+1,σ7,H7,I7.B4,T.keep _ _ _ qM fun b hb o e=>(I7.pin (b,o) (IO _ (IO _ (va hb e)))).1,fun b hb=>?_,w7⟩;obtain ⟨o,e,d⟩:=T.obj _ _ qM b hb;exact (I7.pin (b,o) (IO _ (IO _ (va hb e)))).2.1
  cases f with
  | next=>obtain ⟨σ7,H7,I7,n7⟩:=q7; exact again I7 n7
  | cont=>obtain ⟨σ7,H7,I7,n7⟩:=q7; exact again I7 n7
  | brk=>obtain ⟨σ7,H7,I7,q7⟩:=q7; exact ⟨σ7,H7,I7.B4,q7⟩
  | ret v=>obtain ⟨x7,σ7,H7,I7,r7,q7⟩:=q7; exact ⟨x7,σ7,H7,I7.B4,r7,q7⟩
end
def Xa {K:PySem.W.Frag} {a:Addr} {xs:List V} {g:TG} {tb:TS} {D:Ends} {σ:St} {H:Hp} (Pv:Nat->St->Hp->Prop) (h0:Pv 0 σ H) (hl:∀ i σ H,i<=xs.length->Pv i σ H->aD K H a xs)
  (hs:∀ i x σ H,xs[i]?=some x->Pv i σ H->g x σ H fun σ2 H2=>tb { D with nx:=Pv (i+1),ct:=Pv (i+1),bk:=D.nx } σ2 H2) (hd:∀ σ H,Pv xs.length σ H->D.nx σ H) :
  ∃ W:Nat->Nat->St->Hp->Prop,(∃ m,W 0 m σ H)/\∀ i m σ H,W i m σ H ->
   ((lz K a).stop i H/\D.nx σ H)\/((lz K a).go i H/\∃ N:St->Hp->Prop,(∀ σ' H',N σ' H'->∃ m',m' < m/\W (i+1) m' σ' H')/\∀ x H',(lz K a).jX i H x H'->g x σ H' fun σ2 H2=>tb { D with nx:=N,ct:=N,bk:=D.nx } σ2 H2):=by
 refine ⟨fun i m σ H=>m=xs.length - i/\i<=xs.length/\Pv i σ H,⟨xs.length,by simp,GT _,h0⟩,?_⟩;rintro i m σ H ⟨rfl,hi,p⟩;have q:=hl i σ H hi p;by_cases bN:i < xs.length
 ·refine .inr ⟨⟨xs,xs[i],q,by simp [bN]⟩,Pv (i+1),fun σ' H' p'=>⟨xs.length - (i+1),by omega,rfl,bN,p'⟩,fun x H' y=>?_⟩;obtain ⟨e,y⟩:=y;subst e;exact hs i x σ _ (y xs q) p
 ·have e:i=xs.length:=by omega
  subst e;exact .inl ⟨⟨xs,q,Ev _⟩,hd σ H p⟩
def S4 {lo:Int} {n:Nat} {g:TG} {tb:TS} {D:Ends} {σ:St} {H:Hp} (Pv:Nat->St->Hp->Prop) (h0:Pv 0 σ H)
  (hs:∀ i σ H,i < n->Pv i σ H->g (.int (lo+i)) σ H fun σ2 H2=>tb { D with nx:=Pv (i+1),ct:=Pv (i+1),bk:=D.nx } σ2 H2) (hd:∀ σ H,Pv n σ H->D.nx σ H) :
  ∃ W:Nat->Nat->St->Hp->Prop,(∃ m,W 0 m σ H)/\∀ i m σ H,W i m σ H ->
   ((jZ lo n).stop i H/\D.nx σ H)\/((jZ lo n).go i H/\∃ N:St->Hp->Prop,(∀ σ' H',N σ' H'->∃ m',m' < m/\W (i+1) m' σ' H')/\∀ x H',(jZ lo n).jX i H x H'->g x σ H' fun σ2 H2=>tb { D with nx:=N,ct:=N,bk:=D.nx } σ2 H2):=by
 refine ⟨fun i m σ H=>m=n - i/\i<=n/\Pv i σ H,⟨n,by simp,GT _,h0⟩,?_⟩;rintro i m σ H ⟨rfl,hi,p⟩;by_cases bN:i < n
 ·refine .inr ⟨bN,Pv (i+1),fun σ' H' p'=>⟨n - (i+1),by omega,rfl,bN,p'⟩,fun x H' y=>?_⟩;obtain ⟨e,y⟩:=y;subst e y;exact hs i σ _ bN p
 ·have e:i=n:=by omega
  subst e;exact .inl ⟨Ev _,hd σ H p⟩
abbrev R2:=V->V->Hp->VK->Prop
def aY (X:Cx) (f:Value->Value->Sem Value) (r:R2):Prop :=
 ∀ (pins:List (Addr×Obj)) (s:Shared) (σ:St) (H:Hp) (x y:V) (v u:Value) (Q:VK),Inv X pins σ H s->RelV x v->RelV y u->r x y H Q ->
  wpAny (model X.prog X.w) X.A (f v u) (EP X pins σ Q) X.xe s
def tI (X:Cx) (f:Value->Sem Value) (r:V->Hp->VK->Prop):Prop :=
 ∀ (pins:List (Addr×Obj)) (s:Shared) (σ:St) (H:Hp) (x:V) (v:Value) (Q:VK),Inv X pins σ H s->RelV x v->r x H Q ->
  wpAny (model X.prog X.w) X.A (f v) (EP X pins σ Q) X.xe s
def cA (X:Cx) (f:Value) (r:List V->Hp->VK->Prop):Prop :=
 ∀ (pins:List (Addr×Obj)) (s:Shared) (σ:St) (H:Hp) (xs:List V) (us:List Value) (Q:VK),Inv X pins σ H s->Vals xs us->r xs H Q ->
  wpAny (model X.prog X.w) X.A (call f us) (EP X pins σ Q) X.xe s
def lA (r:R2) (ta tb:TE):TE:=fun σ H Q=>ta σ H fun x H1=>tb σ H1 fun y H2=>r x y H2 Q
def Dw (r:V->Hp->VK->Prop) (ta:TE):TE:=fun σ H Q=>ta σ H fun x H1=>r x H1 Q
def rI (C:Int->Int->Prop) (g:Int->Int->V):R2:=fun x y H Q=>∃ i j,x=.int i/\y=.int j/\C i j/\Q (g i j) H
def nK (g:Int->Int->V):R2:=fun x y H Q=>∃ i j,x=.int i/\y=.int j/\Q (g i j) H
def rU (g:Int->V):V->Hp->VK->Prop:=fun x H Q=>∃ i,x=.int i/\Q (g i) H
section
variable {X:Cx} {a b c:Expr} {ta tb tc:TE} {pos:Pos}
def Bj (ha:PE X a ta) (hb:PE X b tb) {pins:List (Addr×Obj)} {s:Shared} {σ:St} {H:Hp} {R:V->V->Hp->Prop} (I:Inv X pins σ H s)
  (h:ta σ H fun x H1=>tb σ H1 fun y H2=>R x y H2) {Q:Value->Shared->Prop} {f:Value->Value->Sem Value}
  (hf:∀ v u s2 x y H2,Inv X pins σ H2 s2->RelV x v->RelV y u->R x y H2->wpAny (model X.prog X.w) X.A (f v u) Q X.xe s2) :
  wpAny (model X.prog X.w) X.A (eval a X.env) (fun v s₁=>wpAny (model X.prog X.w) X.A (eval b X.env) (fun u s₂=>wpAny (model X.prog X.w) X.A (f v u) Q X.xe s₂) X.xe s₁) X.xe s:=by
 refine aC (ha pins s σ H _ I h) fun v s1 ⟨x,H1,I1,r1,q1⟩=>?_;refine aC (hb pins s1 σ H1 _ I1 q1) fun u s2 ⟨y,H2,I2,r2,q2⟩=>?_;exact hf v u s2 x y H2 I2 r1 r2 q2
def WG {op:Operator} {r:R2} (ho:aY X (binaryOp op) r) (ha:PE X a ta) (hb:PE X b tb):PE X (.BinOp a op b pos) (lA r ta tb):=by
 intro pins s σ H Q I h;exact wpAny_BinOp (Bj ha hb I h fun v u s2 x y H2 I2 rx ry q=>ho pins s2 σ H2 x y v u Q I2 rx ry q)
def Zy {op:UnaryOp} {r:V->Hp->VK->Prop} (ho:tI X (unaryOp op) r) (ha:PE X a ta):PE X (.UnaryOp op a pos) (Dw r ta):=by
 intro pins s σ H Q I h;exact UnaryOp_ (aC (ha pins s σ H _ I h) fun v s1 ⟨x,H1,I1,r1,q1⟩=>ho pins s1 σ H1 x v Q I1 r1 q1)
def xx {f:Value->Value->Sem Value} {C:Int->Int->Prop} {g:Int->Int->Int}
  (rule:∀ (i j:Int) (t u:Tok) (s:Shared) (Q:Value->Shared->Prop) (E:Value->Shared->Prop),C i j->Q (.int (g i j) s.toks) { s with toks:=s.toks+1 }->wpAny (model X.prog X.w) X.A (f (.int i t) (.int j u)) Q E s) :
  aY X f (rI C fun i j=>.int (g i j)):=by
 intro pins s σ H x y v u Q I rx ry h;obtain ⟨i,j,rfl,rfl,hc,q⟩:=h;obtain ⟨t,rfl⟩:=rx;obtain ⟨t',rfl⟩:=ry;exact rule i j t t' s _ _ hc ⟨.int (g i j),H,I.tok _,⟨_,rfl⟩,q⟩
def Pm {f:Value->Value->Sem Value} {g:Int->Int->Int}
  (rule:∀ (i j:Int) (t u:Tok) (s:Shared) (Q:Value->Shared->Prop) (E:Value->Shared->Prop),Q (.int (g i j) s.toks) { s with toks:=s.toks+1 }->wpAny (model X.prog X.w) X.A (f (.int i t) (.int j u)) Q E s) :
  aY X f (nK fun i j=>.int (g i j)):=by
 intro pins s σ H x y v u Q I rx ry h;obtain ⟨i,j,rfl,rfl,q⟩:=h;obtain ⟨t,rfl⟩:=rx;obtain ⟨t',rfl⟩:=ry;exact rule i j t t' s _ _ ⟨.int (g i j),H,I.tok _,⟨_,rfl⟩,q⟩
def zX {f:Value->Value->Sem Value} {g:Int->Int->Bool}
  (rule:∀ (i j:Int) (t u:Tok) (s:Shared) (Q:Value->Shared->Prop) (E:Value->Shared->Prop),Q (.bool (g i j)) s->wpAny (model X.prog X.w) X.A (f (.int i t) (.int j u)) Q E s) :
  aY X f (nK fun i j=>.bl (g i j)):=by
 intro pins s σ H x y v u Q I rx ry h;obtain ⟨i,j,rfl,rfl,q⟩:=h;obtain ⟨t,rfl⟩:=rx;obtain ⟨t',rfl⟩:=ry;exact rule i j t t' s _ _ ⟨.bl (g i j),H,I,rfl,q⟩
def G2 (i j:Int):Prop:=0 < j/\j < 1073741824
def L7 (i j:Int):Prop:=0<=j/\j<=1000000/\i.natAbs < 2 ^ 64
def vG (i j:Int):Prop:=(-(2 ^ 64) < i/\i < 2 ^ 64)\/(-(2 ^ 64) < j/\j < 2 ^ 64)
def vG.ok {i j:Int} (h:vG i j):IntMulOk i j:=by
 rcases h with ⟨h1,h2⟩ | ⟨h1,h2⟩
 ·exact .of_left (intBits_le_64 h1 h2)
 ·exact .of_right (intBits_le_64 h1 h2)
def RF:aY X (binaryOp .Add) (nK fun i j=>.int (i+j)):=Pm fun _ _ _ _ _ _ _ q=>add_int q
def TB:aY X (binaryOp .Mult) (rI vG fun i j=>.int (i * j)):=xx fun _ _ _ _ _ _ _ hc q=>mul_int q hc.ok
def T2:aY X (binaryOp .FloorDiv) (rI G2 fun i j=>.int (i / j)):=xx fun i j _ _ _ _ _ hc q=>by
 have h1:(0:Int) < j:=hc.1;have h2:j < 1073741824:=hc.2;exact floordiv_int (by omega) (by rw [Int.fdiv_eq_ediv_of_nonneg i (by omega)]; exact q) (.inl (PyProof.noPylong_small (by omega)))
def T3:aY X (binaryOp .Mod) (rI (fun _ j=>0 < j) fun i j=>.int (i % j)):=xx fun i j _ _ _ _ _ hc q=>by
 have h1:(0:Int) < j:=hc;exact mod_int' (by omega) (by rw [Int.fmod_eq_emod_of_nonneg i (by omega)]; exact q)
def aaw:aY X (binaryOp .Pow) (rI L7 fun i j=>.int (i ^ j.toNat)):=xx fun _ _ _ _ _ _ _ hc q=>pow_int_small hc.1 hc.2.1 hc.2.2 q
def Pw {f:Value->Sem Value} {g:Int->Int}
  (rule:∀ (i:Int) (t:Tok) (s:Shared) (Q:Value->Shared->Prop) (E:Value->Shared->Prop),Q (.int (g i) s.toks) { s with toks:=s.toks+1 }->wpAny (model X.prog X.w) X.A (f (.int i t)) Q E s) :
  tI X f (rU fun i=>.int (g i)):=by
 intro pins s σ H x v Q I rx h;obtain ⟨i,rfl,q⟩:=h;obtain ⟨t,rfl⟩:=rx;exact rule i t s _ _ ⟨.int (g i),H,I.tok _,⟨_,rfl⟩,q⟩
def Qm:tI X (unaryOp .USub) (rU fun i=>.int (-i)):=Pw fun _ _ _ _ _ q=>neg_int q
end
def wo:V->V->Bool
 | .au,.au=>true | .au,.int _=>true | .int _,.au=>true | .au,.bl _=>true | .bl _,.au=>true | .au,.str _=>true | .str _,.au=>true
 | .int _,.int _=>true | .bl _,.bl _=>true | .str _,.str _=>true | .byt _,.byt _=>true
 | .int _,.str _=>true | .str _,.int _=>true | .bl _,.str _=>true | .str _,.bl _=>true
 | _,_=>false
def Yg:R2:=fun x y H Q=>wo x y=true/\Q (.bl (decide (x=y))) H
def Rq:R2:=fun x y H Q=>wo x y=true/\Q (.bl (!decide (x=y))) H
def MC {i j:Int}:decide (V.int i=V.int j)=(i == j):=by
 rw [_t];simp
def ME {i j:Bool}:decide (V.bl i=V.bl j)=(i == j):=by
 rw [_t];simp
def Lv {i j:Str}:decide (V.str i=V.str j)=(i == j):=by
 rw [_t];simp
def K1 {i j:Array UInt8}:decide (V.byt i=V.byt j)=(i.toList == j.toList):=by
 rw [_t];cases i;cases j;simp
section
variable {X:Cx} {a b c:Expr} {ta tb tc:TE} {pos:Pos}
def cu {pins:List (Addr×Obj)} {σ:St} {H:Hp} {s:Shared} {Q:VK} {k k':Bool} (I:Inv X pins σ H s) (q:Q (.bl k) H) (e:k=k'):EP X pins σ Q (.bool k') s:=by
 subst e;exact ⟨.bl k,H,I,rfl,q⟩
def aaC:aY X (compareOp .Eq) Yg:=by
 intro pins s σ H x y v u Q I rx ry h;obtain ⟨hs,q⟩:=h;cases x with
 | au =>
  cases rx;cases y with
  | au=>cases ry; exact PySem.EqNone.eq_none_none (cu I q (by simp))
  | bl j=>cases ry; exact PySem.EqNone.eq_none_bool (cu I q (by simp))
  | int j=>obtain ⟨t',rfl⟩:=ry; exact PySem.EqNone.eq_none_int (cu I q (by simp))
  | str j=>obtain ⟨t',rfl⟩:=ry; exact PySem.EqNone.eq_none_str (cu I q (by simp))
  | _=>exact absurd (show false=true from hs) FS
 | bl i =>
  cases rx;cases y with
  | au=>cases ry; exact PySem.EqNone.eq_bool_none (cu I q (by simp))
  | bl j=>cases ry; exact eq_bool (cu I q ME)
  | str j=>obtain ⟨t',rfl⟩:=ry; exact PySem.EqMixed.eq_bool_str (cu I q (by simp))
  | _=>exact absurd (show false=true from hs) FS
 | int i =>
  obtain ⟨t,rfl⟩:=rx;cases y with
  | au=>cases ry; exact PySem.EqNone.eq_int_none (cu I q (by simp))
  | int j=>obtain ⟨t',rfl⟩:=ry; exact eq_int (cu I q MC)
  | str j=>obtain ⟨t',rfl⟩:=ry; exact PySem.EqMixed.eq_int_str (cu I q (by simp))
  | _=>exact absurd (show false=true from hs) FS
 | str i =>
  obtain ⟨t,rfl⟩:=rx;cases y with
  | au=>cases ry; exact PySem.EqNone.eq_str_none (cu I q (by simp))
  | bl j=>cases ry; exact PySem.EqMixed.eq_str_bool (cu I q (by simp))
  | int j=>obtain ⟨t',rfl⟩:=ry; exact PySem.EqMixed.eq_str_int (cu I q (by simp))
  | str j=>obtain ⟨t',rfl⟩:=ry; exact eq_str (cu I q Lv)
  | _=>exact absurd (show false=true from hs) FS
 | byt i =>
  obtain ⟨t,rfl⟩:=rx;cases y with
  | byt j=>obtain ⟨t',rfl⟩:=ry; exact PySem.W.eq_bytes (cu I q K1)
  | _=>exact absurd (show false=true from hs) FS
 | _=>cases y <;> exact absurd (show false=true from hs) FS
def aaL:aY X (compareOp .NotEq) Rq:=by
 intro pins s σ H x y v u Q I rx ry h;obtain ⟨hs,q⟩:=h;cases x with
 | au =>
  cases rx;cases y with
  | au=>cases ry; exact PySem.EqNone.ne_none_none (cu I q (by simp))
  | bl j=>cases ry; exact PySem.EqNone.ne_none_bool (cu I q (by simp))
  | int j=>obtain ⟨t',rfl⟩:=ry; exact PySem.EqNone.ne_none_int (cu I q (by simp))
  | str j=>obtain ⟨t',rfl⟩:=ry; exact PySem.EqNone.ne_none_str (cu I q (by simp))
  | _=>exact absurd (show false=true from hs) FS
 | bl i =>
  cases rx;cases y with
  | au=>cases ry; exact PySem.EqNone.ne_bool_none (cu I q (by simp))
  | bl j=>cases ry; exact ne_bool (cu I q (UF not ME))
  | str j=>obtain ⟨t',rfl⟩:=ry; exact PySem.EqMixed.ne_bool_str (cu I q (by simp))
  | _=>exact absurd (show false=true from hs) FS
 | int i =>
  obtain ⟨t,rfl⟩:=rx;cases y with
  | au=>cases ry; exact PySem.EqNone.ne_int_none (cu I q (by simp))
  | int j=>obtain ⟨t',rfl⟩:=ry; exact ne_int (cu I q (UF not MC))
  | str j=>obtain ⟨t',rfl⟩:=ry; exact PySem.EqMixed.ne_int_str (cu I q (by simp))
  | _=>exact absurd (show false=true from hs) FS
 | str i =>
  obtain ⟨t,rfl⟩:=rx;cases y with
  | au=>cases ry; exact PySem.EqNone.ne_str_none (cu I q (by simp))
  | bl j=>cases ry; exact PySem.EqMixed.ne_str_bool (cu I q (by simp))
  | int j=>obtain ⟨t',rfl⟩:=ry; exact PySem.EqMixed.ne_str_int (cu I q (by simp))
  | str j=>obtain ⟨t',rfl⟩:=ry; exact ne_str (cu I q (UF not Lv))
  | _=>exact absurd (show false=true from hs) FS
 | byt i =>
  obtain ⟨t,rfl⟩:=rx;cases y with
  | byt j=>obtain ⟨t',rfl⟩:=ry; exact PySem.W.ne_bytes (cu I q (UF not K1))
  | _=>exact absurd (show false=true from hs) FS
 | _=>cases y <;> exact absurd (show false=true from hs) FS
def Xl:aY X (compareOp .Lt) (nK fun i j=>.bl (decide (i < j))):=zX fun _ _ _ _ _ _ _ q=>lt_int q
def UR:aY X (compareOp .LtE) (nK fun i j=>.bl (decide (i<=j))):=zX fun _ _ _ _ _ _ _ q=>le_int q
def aaQ:aY X (compareOp .Gt) (nK fun i j=>.bl (decide (j < i))):=zX fun _ _ _ _ _ _ _ q=>gt_int q
def V6:aY X (compareOp .In) (fun x y H Q=>∃ i j,x=.str i/\y=.str j/\Q (.bl (!(Builtin.Str.occurrences j i 0 j.length 1).isEmpty)) H):=by
 intro pins s σ H x y v u Q I rx ry h;obtain ⟨i,j,rfl,rfl,q⟩:=h;obtain ⟨t,rfl⟩:=rx;obtain ⟨t',rfl⟩:=ry;exact in_str (cu I q rfl)
def tE:aY X (compareOp .Is) (fun x y H Q=>y=.au/\Q (.bl (decide (x=.au))) H):=by
 intro pins s σ H x y v u Q I rx ry h;obtain ⟨rfl,q⟩:=h;cases ry;refine is_none_gen (cu I q ?_);cases x <;> first
  | (cases rx; rfl)
  | (obtain ⟨t,rfl⟩:=rx; rfl)
def LL:aY X (compareOp .IsNot) (fun x y H Q=>y=.au/\Q (.bl (!decide (x=.au))) H):=by
 intro pins s σ H x y v u Q I rx ry h;obtain ⟨rfl,q⟩:=h;cases ry;refine isnot_none_gen (cu I q ?_);cases x <;> first
  | (cases rx; rfl)
  | (obtain ⟨t,rfl⟩:=rx; rfl)
def aY.or {f:Value->Value->Sem Value} {r r':R2} (h:aY X f r) (h':aY X f r'):aY X f (fun x y H Q=>r x y H Q\/r' x y H Q):=by
 intro pins s σ H x y v u Q I rx ry q;rcases q with q | q
 ·exact h pins s σ H x y v u Q I rx ry q
 ·exact h' pins s σ H x y v u Q I rx ry q
def Se {op:CmpOp} {r:R2} (ho:aY X (compareOp op) r) (ha:PE X a ta) (hb:PE X b tb) (hm:behindInMarks op b=false):PE X (.Compare a [op] [b] pos) (lA r ta tb):=by
 intro pins s σ H Q I h;exact wpAny_Compare1 (Bj ha hb I h fun v u s2 x y H2 I2 rx ry q=>ho pins s2 σ H2 x y v u Q I2 rx ry q) hm
def tY:(sizeLine:Nat) < 2 ^ 63:=by rw [_V]; decide
def aaZ:aY X (binaryOp .Add) (fun x y H Q=>∃ i j,x=.str i/\y=.str j/\i.length+j.length<=sizeLine/\Q (.str (i++j)) H):=by
 intro pins s σ H x y v u Q I rx ry h;obtain ⟨i,j,rfl,rfl,hz,q⟩:=h;obtain ⟨t,rfl⟩:=rx;obtain ⟨t',rfl⟩:=ry;exact add_str (fun t' tk=>⟨.str (i++j),H,I.tok _,⟨_,rfl⟩,q⟩) hz
def vals1 {x:V} {us:List Value} (r:Vals [x] us):∃ u,us=[u]/\RelV x u:=by
 cases r with
 | cons r1 r2=>cases r2; exact ⟨_,rfl,r1⟩
def vals2 {x y:V} {us:List Value} (r:Vals [x,y] us):∃ u w',us=[u,w']/\RelV x u/\RelV y w':=by
 cases r with
 | cons r1 r2 =>
  cases r2 with
  | cons r3 r4=>cases r4; exact ⟨_,_,rfl,r1,r3⟩
def Sq (K:PySem.W.Frag) (x:V) (H:Hp) (n:Nat):Prop :=
 match x with
 | .str y=>y.length<=sizeLine/\n=y.length
 | .byt y=>y.size<=sizeLine/\n=y.size
 | .ref p=>(∃ xs,aD K H p xs/\n=xs.length)\/∃ xs,bo K H p xs/\n=xs.length
 | _=>False
def IP:cA X (.builtin "len") (fun xs H Q=>∃ x n,xs=[x]/\Sq X.K x H n/\Q (.int n) H):=by
 intro pins s σ H xs us Q I r h;obtain ⟨x,n,rfl,e,q⟩:=h;obtain ⟨u,rfl,rx⟩:=vals1 r;have hl:=tY;have hs:sizeLine=16777216:=_V;cases x with
 | str y =>
  obtain ⟨t,rfl⟩:=rx;obtain ⟨hy,e'⟩:y.length<=sizeLine/\n=y.length:=e;subst e';exact len_str (by omega) ⟨.int _,H,I.tok _,⟨_,rfl⟩,q⟩
 | byt y =>
  obtain ⟨t,rfl⟩:=rx;obtain ⟨hy,e'⟩:y.size<=sizeLine/\n=y.size:=e;subst e';exact PySem.W.len_bytes (by omega) ⟨.int _,H,I.tok _,⟨_,rfl⟩,q⟩
 | ref p =>
  cases rx;have e':(∃ xs,aD X.K H p xs/\n=xs.length)\/∃ xs,bo X.K H p xs/\n=xs.length:=e;rcases e' with ⟨xs,hx,e'⟩ | ⟨xs,hx,e'⟩
  ·subst e';obtain ⟨ao,r',pl,hz⟩:=I.list hx;have hlen:=r'.length;exact Calls.call_len_list pl.isList (by simp only [Fr]; omega) ⟨.int xs.length,H,I.tok _,⟨_,by simp only [Fr]; rw [hlen]⟩,q⟩
  ·subst e';obtain ⟨ao,r',pl,hz⟩:=I.tuple hx;have hlen:=r'.length;exact len_tuple pl (by simp only [Fr]; omega) ⟨.int xs.length,H,I.tok _,⟨_,by simp only [Fr]; rw [hlen]⟩,q⟩
 | _=>exact (show False from e).elim
end
structure oA (h:Heap) (x dx C:Addr) (mA:Str->Option Value):Prop where
 obj:h.get? x=some (PySem.W.instObj C dx)
 ns:h.Ns1 dx mA
 ne:dx≠x
def XX {h:Heap} {dx:Addr} {mA:Str->Option Value} (n:h.Ns1 dx mA):∃ od,h.get? dx=some od/\∀ name,PySem.W.lookIn name od=some (mA name):=by
 obtain ⟨o,es,ep,ho,hd,hk,_,hm⟩:=n;refine ⟨o,ho,fun name=>?_⟩;have e:=hm name;unfold nsFind findBy at e;rw [<- Array.find?_toList] at e;unfold PySem.W.lookIn;rw [hd];dsimp only;split
 ·rename_i y q;rw [q] at e;exact UF some e
 ·rename_i q;rw [q] at e;have a:es.toList.any (·.refKey)=false:=by
   rw [List.any_eq_false];intro y hy;obtain ⟨z,t,hkey⟩:=hk y (Array.mem_toList_iff.mp hy);simp [DictEntry.refKey,hkey]
  have a':¬ es.toList.any (·.refKey)=true:=by rw [a]; exact FS
  rw [Id a'];exact UF some e
def oA.look {h:Heap} {x dx C:Addr} {mA:Str->Option Value} (I:oA h x dx C mA):∃ od,PySem.W.InstAt h x (PySem.W.instObj C dx) C (some od)/\∀ name,PySem.W.lookIn name od=some (mA name) :=
 let ⟨od,ho,hl⟩:=XX I.ns
 ⟨od,⟨I.obj,rfl,rfl,ho⟩,hl⟩
section
variable {prog:Program} {w:World} {A:Around} {E:Value->Shared->Prop} {s:Shared} {K:PySem.W.Frag} {x dx C f:Addr} {mA:Str->Option Value} {name:Str} {v:Value}
def get_map {expr:Bool} {Q:Value->Shared->Prop} (X:K.In s.heap) (I:oA s.heap x dx C mA) (hg:PySem.W.plainGet K C name=true) (hh:PySem.W.hasDictIn K C=true)
  (ha:PySem.W.findIn K (.ref C) name=some none) (hv:mA name=some v) (hv':PySem.W.handedIn v=true) (h:Q v { s with toks:=s.toks+1 }) :
  wpAny (model prog w) A (getAttr (.ref x) name expr) Q E s:=by
 obtain ⟨od,J,hl⟩:=I.look;exact PySem.W.get_value X J (Jat hg).1 (PySem.W.findObj_own hh ha rfl (by rw [hl,hv])) hv' h
def Y9 {pl:Sem Bool} {Q:Value×List Value->Shared->Prop} (X:K.In s.heap) (I:oA s.heap x dx C mA) (hg:PySem.W.plainGet K C name=true)
  (hf:PySem.W.findIn K (.ref C) name=some (some (.ref f))) (ht:PySem.W.isFn K (.ref f)=true) (hv:mA name=none) (h:Q (.ref f,[.ref x]) s) :
  wpAny (model prog w) A (getMethod (.ref x) name pl) Q E s:=by
 obtain ⟨od,J,hl⟩:=I.look;exact PySem.W.method_fn X J (Jat hg).1 (Jat hg).2 hf (_o.mp ht) (by show (PySem.W.lookIn name od).map (·.isSome)=some false; rw [hl,hv]; rfl) h
def Pg {ns:List Str} {Q:Unit->Shared->Prop} (X:K.In s.heap) (I:oA s.heap x dx C mA)
  (hs:PySem.W.findIn K (.ref C) "__setattr__" = some (some (.builtin "object.__setattr__"))) (hp:PySem.W.plainOver K C=true) (ht:PySem.W.takerIn K C name=some none) (hh:PySem.W.hasDictIn K C=true)
  (hw:PySem.Within mA ns) (hsz:ns.length<=sizeLine)
  (h:∀ h',oA h' x dx C (fun y=>if y=name then some v else mA y)->Heap.SameBut dx s.heap h'->Q () { s with heap:=h',toks:=s.toks+2 }) :
  wpAny (model prog w) A (setAttr (.ref x) name v) Q E s:=by
 obtain ⟨od,J,hl⟩:=I.look;refine PySem.W.set_plain X J hs (PySem.W.osa_open (s:={ s with toks:=s.toks+1 }) (r:=none) X J hp ht fun b=>?_);obtain ⟨cd,hc,hd'⟩:=PySem.W.any_some hh;have hx:s.heap.get? x=some ⟨.ref C,some dx,.plain,#[]⟩:=I.obj;refine wT (Cl (wT (wT (_B hx (wT (PySem.W.Looks.here (s:={ s with toks:=s.toks+1 }) (PySem.W.looks_clsIn X hc) ?_))))));rw [hd'];refine Cl (a:=some dx) (wT (Cl (wT ?_)));refine wpAny_nsSet1 (s:={ s with toks:=s.toks+1 }) I.ns fun h' iF yt=>?_;obtain ⟨oD,esD,epD,ER,EM,Eu⟩:=iF.count (PySem.Within.cons name v hw);refine wT (wpAny_lookBehind ER (by rw [EM]; exact pastItsLine_dict (Gc Eu (by rw [Os]; omega))) ?_);exact Cl (h _ ⟨(yt.2 _ (Fa I.ne)).trans I.obj,iF,I.ne⟩ yt)
def Qo {R:Result->Shared->Prop} {vs:List Value} {kw:List (Str×Value)} (X:K.In s.heap) (hm:PySem.W.makesIn K C=true)
  (hi:PySem.W.findIn K (.ref C) "__init__" = some (some (.ref f))) (hf:PySem.W.typeIn K (.ref f)=some (.type "function"))
  (h:codeAny (model prog w) (A.under (.builtin "type.__call__" ⟨.ref C::vs,kw⟩)) (.call (.ref f) ⟨.ref (s.heap.objs.size+1)::vs,kw⟩) (PySem.W.InitBack (s.heap.objs.size+1) R)
   { s with heap:=(s.heap.push PySem.W.emptyDict).push (PySem.W.instObj C s.heap.objs.size) }) :
  codeAny (model prog w) A (.call (.ref C) ⟨vs,kw⟩) R s:=by
 obtain ⟨hh,g,d,t,os⟩:=s;exact PySem.W.make_core (PySem.W.makes_of X hm) (SL X hi) (fun self=>PySem.W.bind_fn X self hf) (.inl rfl) h
end
def ay (f:Str) (v:V):List (Str×V)->List (Str×V)
 | []=>[(f,v)]
 | (g,x)::r=>if g=f then (g,v)::r else (g,x)::ay f v r
def eD (f g:Str) (v:V):∀ fs:List (Str×V),(ay f v fs).lookup g=if g=f then some v else fs.lookup g
 | []=>by
  show List.lookup g [(f,v)]=_;by_cases h:g=f
  ·have hb:(g == f)=true:=_o.mpr h;simp only [List.lookup,hb,IN h]
  ·have hb:(g == f)=false:=On.mpr h;simp only [List.lookup,hb,Id h]
 | (k,x)::r=>by
  have ih:=eD f g v r;rw [show ay f v ((k,x)::r)=(if k=f then (k,v)::r else (k,x)::ay f v r) from rfl];by_cases hk:k=f
  ·rw [IN hk];by_cases h:g=k
   ·have hb:(g == k)=true:=_o.mpr h;simp only [List.lookup,hb,IN (h.trans hk)]
   ·have hb:(g == k)=false:=On.mpr h;simp only [List.lookup,hb,Id (fun e:g=f=>h (e.trans hk.symm))]
  ·rw [Id hk];by_cases h:g=k
   ·have hb:(g == k)=true:=_o.mpr h;simp only [List.lookup,hb,Id (fun e:g=f=>hk (h.symm.trans e))]
   ·have hb:(g == k)=false:=On.mpr h;simp only [List.lookup,hb];exact ih
def C4 (f:Str) (v:V):∀ fs:List (Str×V),f∈(ay f v fs).map (·.1)/\∀ g,g∈fs.map (·.1)->g∈(ay f v fs).map (·.1)
 | []=>⟨by simp [ay],fun g h=>by simp at h⟩
 | (k,x)::r=>by
  obtain ⟨i1,i2⟩:=C4 f v r;rw [show ay f v ((k,x)::r)=(if k=f then (k,v)::r else (k,x)::ay f v r) from rfl];by_cases hk:k=f
  ·rw [IN hk];subst hk;exact ⟨by simp,fun g h=>by simpa using h⟩
  ·rw [Id hk];refine ⟨?_,fun g h=>?_⟩
   ·rw [Ix];exact LT _ i1
   ·rw [Ix] at h ⊢;rcases AT.mp h with e | e
    ·exact AT.mpr (.inl e)
    ·exact LT _ (i2 g e)
def zh (f:Str) (v:V):∀ fs:List (Str×V),(ay f v fs).length<=fs.length+1
 | []=>by simp [ay]
 | (k,x)::r=>by
  have ih:=zh f v r;rw [show ay f v ((k,x)::r)=(if k=f then (k,v)::r else (k,x)::ay f v r) from rfl];by_cases hk:k=f
  ·rw [IN hk,Os,Os]; omega
  ·rw [Id hk,Os,Os]; omega
def eE.some_of {v:V} {o:Option Value} (r:eE (some v) o):∃ u,o=some u/\RelV v u:=by
 cases o with
 | none=>exact (show False from r).elim
 | some u=>exact ⟨u,rfl,r⟩
def eE.none_of {o:Option Value} (r:eE none o):o=none:=by
 cases o with
 | none=>rfl
 | some u=>exact (show False from r).elim
def Q9 {v:V} {u:Value} (r:RelV v u):PySem.W.handedIn u=true:=by
 cases v with
 | au=>cases (show u=Value.none from r); rfl
 | bl b=>cases (show u=Value.bool b from r); rfl
 | int i=>obtain ⟨t,e⟩:=(show ∃ t,u=Value.int i t from r); cases e; rfl
 | str x=>obtain ⟨t,e⟩:=(show ∃ t,u=Value.str x t from r); cases e; rfl
 | byt b=>obtain ⟨t,e⟩:=(show ∃ t,u=Value.bytes b t from r); cases e; rfl
 | nq b=>obtain ⟨t,e⟩:=(show ∃ t,u=Value.float b t from r); cases e; rfl
 | ref a=>cases (show u=Value.ref a from r); rfl
 | ty n=>cases (show u=Value.type n from r); rfl
section
variable {P:Program} {w:World} {H H':Hp} {h h':Heap} {a C dx:Addr} {fs fs':List (Str×V)}
def wM (aA:bU P w H h) (e:H a=some (.ins C dx fs)):∃ mA,oA h a dx C mA/\(∀ f,eE (fs.lookup f) (mA f))/\PySem.Within mA (fs.map (·.1))/\fs.length<=1000/\H dx=some (.own a):=by
 obtain ⟨d,z,ne,ob,mA,n,r,q⟩:=(show bI P w H h a (.ins C dx fs) from aA a _ e);exact ⟨mA,⟨ob,n,ne⟩,r,q,z,d⟩
end
structure cR (K:PySem.W.Frag) (C:Addr):Prop where
 pg:PySem.W.plainGet K C Str.empty=true
 hd:PySem.W.hasDictIn K C=true
 po:PySem.W.plainOver K C=true
 sa:PySem.W.findIn K (.ref C) "__setattr__" = some (some (.builtin "object.__setattr__"))
def cR.get {K:PySem.W.Frag} {C:Addr} (c:cR K C) (f:Str):PySem.W.plainGet K C f=true:=c.pg
def bD (K:PySem.W.Frag) (C:Addr) (f:Str):Prop:=PySem.W.findIn K (.ref C) f=some none
def bD.ON {K:PySem.W.Frag} {C:Addr} {f:Str} (n:bD K C f):PySem.W.takerIn K C f=some none:=by
 unfold PySem.W.takerIn;rw [show PySem.W.findIn K (.ref C) f=some none from n];rfl
structure Con (K:PySem.W.Frag) (C:Addr) (f:Str) (v:V) (u:Value):Prop where
 at_:PySem.W.findIn K (.ref C) f=some (some u)
 rel:RelV v u
 get:PySem.W.specialIn K u "__get__" = some none
 cp:PySem.W.copiedNames.contains f=false
structure Meth (K:PySem.W.Frag) (C:Addr) (m:Str) (f:Addr):Prop where
 at_:PySem.W.findIn K (.ref C) m=some (some (.ref f))
 fn:PySem.W.isFn K (.ref f)=true
 kp:PySem.W.keepIn K (.ref f)=true
section
variable {X:Cx} {pins:List (Addr×Obj)} {σ:St} {H:Hp} {s:Shared} {a C dx:Addr} {fs:List (Str×V)} {f:Str} {v:V} {A:Around} {E:Value->Shared->Prop}
def JW {b:Bool} {Q:Value->Shared->Prop} (I:Inv X pins σ H s) (e:H a=some (.ins C dx fs)) (c:cR X.K C) (n:bD X.K C f) (l:fs.lookup f=some v)
  (h:∀ u s',Inv X pins σ H s'->RelV v u->Q u s'):wpAny (model X.prog X.w) A (getAttr (.ref a) f b) Q E s:=by
 obtain ⟨mA,O,r,_,_,_⟩:=wM I.aA e;obtain ⟨u,hu,ru⟩:=eE.some_of (v:=v) (o:=mA f) (by rw [<- l]; exact r f);exact get_map I.bR O (c.get f) c.hd n hu (Q9 ru) (h u _ (I.tok _) ru)
def yS {m:Str} {g:Addr} {pl:Sem Bool} {Q:Value×List Value->Shared->Prop} (I:Inv X pins σ H s) (e:H a=some (.ins C dx fs)) (c:cR X.K C) (k:Meth X.K C m g) (l:fs.lookup m=none)
  (h:Q (.ref g,[.ref a]) s):wpAny (model X.prog X.w) A (getMethod (.ref a) m pl) Q E s:=by
 obtain ⟨mA,O,r,_,_,_⟩:=wM I.aA e;have hn:mA m=none:=eE.none_of (by rw [<- l]; exact r m);exact Y9 I.bR O (c.get m) k.at_ k.fn hn h
def IQ {y:V} {u:Value} {Q:Unit->Shared->Prop} (I:Inv X pins σ H s) (e:H a=some (.ins C dx fs)) (c:cR X.K C) (n:bD X.K C f) (hl:fs.length < 1000) (ry:RelV y u)
  (h:∀ s',Inv X pins σ (upd H a (.ins C dx (ay f y fs))) s'->Q () s'):wpAny (model X.prog X.w) A (setAttr (.ref a) f u) Q E s:=by
 obtain ⟨mA,O,r,wi,_,ho⟩:=wM I.aA e;have hz:(fs.map (·.1)).length<=sizeLine:=by rw [At,_V]; omega
 refine Pg I.bR O c.sa c.po n.ON c.hd wi hz fun h' O' sb=>h _ ?_;have hd:∃ o,h'.get? dx=some o:=let ⟨o,_,_,e',_⟩:=O'.ns; ⟨o,e'⟩
 refine I.write (x:=a) (e:=dx) (by rw [e]; exact True.intro) (.inr ho) (fun b q hb z=>(sb.2 b hb).trans z) hd ?_;refine ⟨by rw [aj O.ne]; exact ho,?_,O.ne,O'.obj,_,O'.ns,fun g=>?_,fun g hg=>?_⟩
 ·have:=zh f y fs; omega
 ·show eE ((ay f y fs).lookup g) (if g=f then some u else mA g);rw [eD];by_cases q:g=f
  ·rw [IN q,IN q]; exact ry
  ·rw [Id q,Id q]; exact r g
 ·by_cases q:g=f
  ·rw [q]; exact (C4 f y fs).1
  ·refine (C4 f y fs).2 g (wi g fun z=>hg ?_);show (if g=f then some u else mA g)=none;rw [Id q]; exact z
def Inv.made (I:Inv X pins σ H s):Inv X pins σ (upd (upd H s.heap.objs.size (.own (s.heap.objs.size+1))) (s.heap.objs.size+1) (.ins C s.heap.objs.size []))
  { s with heap:=(s.heap.push PySem.W.emptyDict).push (PySem.W.instObj C s.heap.objs.size) }:=by
 have e1:(s.heap.push PySem.W.emptyDict).get? s.heap.objs.size=some PySem.W.emptyDict:=FM s.heap rfl;have e2:((s.heap.push PySem.W.emptyDict).push (PySem.W.instObj C s.heap.objs.size)).get? (s.heap.objs.size+1)=some (PySem.W.instObj C s.heap.objs.size):=by
  have:=FM (s.heap.push PySem.W.emptyDict) (o:=PySem.W.instObj C s.heap.objs.size) rfl
  rwa [_p] at this
 have e3:(s.heap.push PySem.W.emptyDict).Ns s.heap.objs.size (fun _=>none):=⟨PySem.W.emptyDict,#[],_,e1,rfl,(fun e he=>absurd he (by simp)),fun _=>rfl⟩;have I1:=I.laid (a:=s.heap.objs.size) (o:=.own (s.heap.objs.size+1)) (h':=s.heap.push PySem.W.emptyDict) (t':=s.toks) (fun b u q=>xz _ q) (Ev _) ⟨_,e1⟩;refine I1.laid (a:=s.heap.objs.size+1) (o:=.ins C s.heap.objs.size []) (t':=s.toks) (fun b u q=>xz _ q) (Nat.le_of_eq (_p _ _)) ?_;have ne:s.heap.objs.size≠s.heap.objs.size+1:=GE (WF _);refine ⟨by rw [aj ne,aw],GT _,ne,e2,fun _=>none,(Heap.Ns1.of_empty e3).at fun o q=>xz _ q,fun _=>True.intro,fun y hy=>absurd rfl hy⟩
def F9 {prog:Program} {w:World} {env:Env} {e:Expr} {f:Str} {pos:Pos} {s:Shared} {Q:Value->Shared->Prop} (hb:attributeBase e f env (eval e env)=eval e env)
  (h:wpAny (model prog w) A (eval e env) (fun o s₁=>wpAny (model prog w) A (getAttr o f true) Q E s₁) E s):wpAny (model prog w) A (eval (.Attribute e f pos) env) Q E s :=
 Attribute_any_ h (by rw [arm_eval_Attribute,hb])
end
def zk (X:Cx) (op:Operator) (rd:V->V->Hp->VK->Prop):Prop :=
 ∀ (pins:List (Addr×Obj)) (s:Shared) (σ:St) (H:Hp) (x y:V) (u v:Value) (Q:VK),Inv X pins σ H s->RelV x u->RelV y v->rd x y H Q->wpAny (model X.prog X.w) X.A (inplaceOp op u v) (EP X pins σ Q) X.xe s
section
variable {X:Cx} {o e value:Expr} {f:Str} {pos pos' tpos:Pos} {ta tv:TE}
def Lm:V->V->Hp->VK->Prop:=fun x y H Q=>∃ i j,x=.int i/\y=.int j/\Q (.int (i+j)) H
def mC:zk X .Add Lm:=by
 rintro pins s σ H x y u v Q I rx ry ⟨i,j,rfl,rfl,q⟩;obtain ⟨t,rfl⟩:=(show ∃ t,u=Value.int i t from rx);obtain ⟨t',rfl⟩:=(show ∃ t',v=Value.int j t' from ry);exact PyProof.Rows.iadd_int ⟨.int (i+j),H,I.tok _,⟨_,rfl⟩,q⟩
end
section
variable {X:Cx} {pins:List (Addr×Obj)} {σ:St} {H:Hp} {s:Shared} {A:Around} {E:Value->Shared->Prop} {Q:Value->Shared->Prop} {c:Value} {b:Bool}
inductive fw (K:PySem.W.Frag) (H:Hp):V->Value->Prop where
 | au:fw K H .au (.type "NoneType")
 | bl (x:Bool):fw K H (.bl x) (.type "bool")
 | int (i:Int):fw K H (.int i) (.type "int")
 | str (x:Str):fw K H (.str x) (.type "str")
 | nq (x:UInt64):fw K H (.nq x) (.type "float")
 | lst {a:Addr} {xs:List V} (e:H a=some (.lst xs)):fw K H (.ref a) (.type "list")
 | eC {a:Addr} {o:Obj} {xs:List V} (e:H a=some (.eC o (.lst xs))):fw K H (.ref a) (.type "list")
 | tup {a:Addr} {xs:List V} (e:H a=some (.tup xs)):fw K H (.ref a) (.type "tuple")
 | dK {a:Addr} {kvs:List (Key×V)} (e:H a=some (.dK kvs)):fw K H (.ref a) (.type "dict")
 | dT {a:Addr} {kvs:List (List Key×V)} (e:H a=some (.dT kvs)):fw K H (.ref a) (.type "dict")
 | ins {a C dx:Addr} {fs:List (Str×V)} (e:H a=some (.ins C dx fs)) (cl:cR K C) (ha:PySem.W.findIn K (.ref C) "__class__" = some (some (.builtin "object.__class__")))
   (hn:PySem.W.specialIn K (.builtin "object.__class__") "__get__" = some (some (.builtin "getset_descriptor.__get__"))) (gg:PySem.W.takesIn K (.builtin "object.__class__")=some true)
   (hm:PySem.W.mroIn K C (.type "object")=some true):fw K H (.ref a) (.ref C)
def yR {x:V} {u t:Value} (I:Inv X pins σ H s) (rx:RelV x u) (ty:fw X.K H x t) (e:PySem.W.kitOne X.K t c=some b) (h:∀ tk,Q (.bool b) { s with toks:=tk }) :
  wpAny (model X.prog X.w) A (call (.builtin "isinstance") [u,c]) Q E s:=by
 cases ty with
 | au=>cases (show u=Value.none from rx); exact Tk PySem.W.kitx_none I.bR True.intro e (fun z=>nomatch z) h
 | bl y=>cases (show u=Value.bool y from rx); exact Tk PySem.W.kitx_bool I.bR True.intro e (fun z=>nomatch z) h
 | int i=>obtain ⟨t,q⟩:=(show ∃ t,u=Value.int i t from rx); cases q; exact Tk PySem.W.kitx_int I.bR True.intro e (fun z=>nomatch z) h
 | str y=>obtain ⟨t,q⟩:=(show ∃ t,u=Value.str y t from rx); cases q; exact Tk PySem.W.kitx_str I.bR True.intro e (fun z=>nomatch z) h
 | nq y=>obtain ⟨t,q⟩:=(show ∃ t,u=Value.float y t from rx); cases q; exact Tk PySem.W.kitx_float I.bR True.intro e (fun z=>nomatch z) h
 | @lst a xs ea =>
  cases (show u=Value.ref a from rx);obtain ⟨_,_,n,_,h1⟩:=(show bI X.prog X.w H s.heap a (.lst xs) from I.aA a _ ea);exact Tk PySem.W.kitx_list I.bR ⟨_,h1,rfl⟩ e (fun z=>nomatch z) h
 | @eC a ob xs ea =>
  cases (show u=Value.ref a from rx);obtain ⟨_,_,_,n,_,h1⟩:=(show bI X.prog X.w H s.heap a (.eC ob (.lst xs)) from I.aA a _ ea);exact Tk PySem.W.kitx_list I.bR ⟨_,h1,rfl⟩ e (fun z=>nomatch z) h
 | @tup a xs ea =>
  cases (show u=Value.ref a from rx);obtain ⟨_,_,_,p⟩:=(show bI X.prog X.w H s.heap a (.tup xs) from I.aA a _ ea);obtain ⟨o,h1,h2,_⟩:=p;exact Tk PySem.W.kitx_tuple I.bR ⟨o,h1,h2⟩ e (fun z=>nomatch z) h
 | @dK a kvs ea =>
  cases (show u=Value.ref a from rx);obtain ⟨_,_,vs,_,p⟩:=(show bI X.prog X.w H s.heap a (.dK kvs) from I.aA a _ ea);obtain ⟨o,es,ep,h1,h2,_⟩:=p;exact Tk PySem.W.kitx_dict I.bR ⟨o,h1,h2.1⟩ e (fun z=>nomatch z) h
 | @dT a kvs ea =>
  cases (show u=Value.ref a from rx);obtain ⟨_,_,xs,_,o,es,ep,h1,h2,_⟩:=(show bI X.prog X.w H s.heap a (.dT kvs) from I.aA a _ ea);exact Tk PySem.W.kitx_dict I.bR ⟨o,h1,h2.1⟩ e (fun z=>nomatch z) h
 | @ins a C dx fs ea cl ha hn gg hm =>
  cases (show u=Value.ref a from rx);obtain ⟨mA,O,_⟩:=wM I.aA ea;obtain ⟨od,J,_⟩:=O.look;exact Tk (PySem.W.kitx_own (cl.get _) cl.hd ha hn gg hm) I.bR J e (fun z=>nomatch z) h
end
structure aZ (k:Nat) (A:Around):Prop where
 hd:A.handled=none
 dp:A.depth+3 * k+5 < recursionLimit
 un:A.units+16 * k+200 < cLine
def aZ.mono {j k:Nat} {A:Around} (r:aZ k A) (h:j<=k):aZ j A:=⟨r.hd,by have:=r.dp; omega,by have:=r.un; omega⟩
def aZ.deeper {k:Nat} {A:Around} (r:aZ (k+1) A) (env:Env):aZ k (A.deeper env) :=
 ⟨r.hd,by have:=r.dp; show A.depth+1+3 * k+5 < _; omega,by have:=r.un; show A.units+3+16 * k+200 < _; omega⟩
def VA {A:Around} {C:Addr} {us:List Value} {kw:List (Str×Value)}:(A.under (.builtin "type.__call__" ⟨.ref C::us,kw⟩)).depth=A.depth+1:=by
 first | rfl | simp [Around.under,Code.weight,Code.isCreation,Code.isGuard,Code.isCaller,Code.frames,Code.isFrame,guardIds]
def Xq {A:Around} {C:Addr} {us:List Value} {kw:List (Str×Value)}:(A.under (.builtin "type.__call__" ⟨.ref C::us,kw⟩)).units=A.units+1:=by
 first | rfl | simp [Around.under,Code.cUnits,Code.frames,Code.isFrame]
def aZ.make {k:Nat} {A:Around} (r:aZ (k+1) A) (C:Addr) (us:List Value) (kw:List (Str×Value)):aZ k (A.under (.builtin "type.__call__" ⟨.ref C::us,kw⟩)) :=
 ⟨r.hd,by have:=r.dp; rw [VA]; omega,by have:=r.un; rw [Xq]; omega⟩
def aZ.depth {k:Nat} {A:Around} (r:aZ k A):A.depth < recursionLimit:=by have:=r.dp; omega
def aZ.units {k:Nat} {A:Around} (r:aZ k A):A.units+64 < cLine:=by have:=r.un; omega
def aZ.pe {k:Nat} {A:Around} (r:aZ k A):A.units < cLine:=by have:=r.un; omega
def mT:TA:=fun _ H Q=>Q [] H
def o8 (ta:TE) (tr:TA):TA:=fun σ H Q=>ta σ H fun x H1=>tr σ H1 fun xs H2=>Q (x::xs) H2
section
variable {X:Cx} {e:Expr} {es:List Expr} {te:TE} {t:TA} {pos:Pos}
def ZQ:PA X [] mT:=fun _ _ _ _ H Q I h=>_w ⟨[],H,I,.nil,h⟩
def UX (ha:PE X e te) (hr:PA X es t) (hs:starEach (e::es) X.env=(false,eval e X.env)::starEach es X.env:=by rfl):PA X (e::es) (o8 te t):=by
 intro pos pins s σ H Q I h;rw [hs];show wpAny _ _ (spliced ((false,eval e X.env)::backTo pos (starEach es X.env))) _ _ s;refine _q (aC (ha pins s σ H _ I h) fun u s1 ⟨x,H1,I1,r1,q1⟩=>?_);exact aC (hr pos pins s1 σ H1 _ I1 q1) fun us s2 ⟨xs,H2,I2,r2,q2⟩=>⟨x::xs,H2,I2,.cons r1 r2,q2⟩
def vY (t:TA):TE:=fun σ H Q=>t σ H fun xs H1=>xs.length<=sizeLine/\∀ p,H1 p=none->Q (.ref p) (upd H1 p (.tup xs))
def yE (t:TA):TE:=fun σ H Q=>t σ H fun xs H1=>xs.length<=sizeLine/\∀ p,H1 p=none->Q (.ref p) (upd H1 p (.lst xs))
def Vy {x1} (h:PA X es t):PE X (.Tuple es x1 pos) (vY t):=by
 intro pins s σ H Q I hq;refine wpAny_Tuple_spliced (aC (h pos pins s σ H _ I hq) fun us s1 ⟨xs,H1,I1,r,z,q⟩=>⟨by rw [<- r.length]; exact z,?_⟩);have hf:H1 s1.heap.objs.size=none:=I1.aA.fresh (Ev _);refine ⟨.ref s1.heap.objs.size,upd H1 s1.heap.objs.size (.tup xs),I1.laid (t':=s1.toks) (fun b u e=>xz _ e) (Ev _) ?_,rfl,q _ hf⟩;exact ⟨z,us,r,⟨_,FM _ rfl,rfl,_,rfl,rfl⟩⟩
def Zz (h:PA X es t):PE X (.List es pos) (yE t):=by
 intro pins s σ H Q I hq;refine wpAny_List_spliced (aC (h pos pins s σ H _ I hq) fun us s1 ⟨xs,H1,I1,r,z,q⟩=>⟨by rw [<- r.length]; exact z,?_⟩);have hf:H1 s1.heap.objs.size=none:=I1.aA.fresh (Ev _);refine ⟨.ref s1.heap.objs.size,upd H1 s1.heap.objs.size (.lst xs),I1.laid (t':=s1.toks) (fun b u e=>xz _ e) (Ev _) ?_,rfl,q _ hf⟩;exact ⟨z,us,0,r,FM _ rfl⟩
end
abbrev Sp:=List V->Hp->VK->XK->Prop
abbrev dH:=List Env->Hp->Shared->XK->Value->Shared->Prop
structure kP (P:Program) (w:World) (K:PySem.W.Frag) (mg:Str->Option Value) (base:Heap) (A:Around) (outer:List Env) (s:Shared) (H:Hp):Prop where
 frames:A.frames=some outer
 mod:Mod K mg base
 bs:∀ b o,base.get? b=some o->s.heap.get? b=some o/\H b=none
 gN:base.objs.size<=s.heap.objs.size
 eX:s.heap.FunFrames base outer
 iM:∀ b∈bJ outer,H b=none
 aA:bU P w H s.heap
 bare:AllBare s.gens
def CE (outer:List Env) (P:Program) (w:World) (H:Hp) (s:Shared) (Q:VK) (u:Value) (s':Shared):Prop :=
 ∃ v H',s'.os=s.os/\AllBare s'.gens/\Un (bJ outer) [] H H' s.heap s'.heap/\bU P w H' s'.heap/\RelV v u/\Q v H'
def CR (CX:dH) (outer:List Env) (P:Program) (w:World) (H:Hp) (s:Shared) (Q:VK) (E:XK) (r:Result) (s':Shared):Prop :=
 match r with
 | .ok (.ret u)=>CE outer P w H s Q u s'
 | .ok _=>False
 | .error e=>CX outer H s E e s'
structure aB (P:Program) (w:World) (K:PySem.W.Frag) (mg:Str->Option Value) (base:Heap) (CX:dH) (k:Nat) (f:Addr) (fd:FuncData) (ps:List Str) (sp:Sp):Prop where
 len:∀ vs H Q E,sp vs H Q E->vs.length=ps.length
 run:∀ (A:Around) (outer:List Env) (s:Shared) (H:Hp) (args:Args) (us:List Value) (vs:List V) (Q:VK) (E:XK),aZ k A->kP P w K mg base A outer s H->BindsTo s fd args (ps.zip us)->Vals vs us->sp vs H Q E ->
  codeAny (model P w) A (.call (.ref f) args) (CR CX outer P w H s Q E) s
def kP.make {P:Program} {w:World} {K:PySem.W.Frag} {mg:Str->Option Value} {base:Heap} {A:Around} {outer:List Env} {s:Shared} {H:Hp} (e:kP P w K mg base A outer s H) (C:Addr) (us:List Value) (kw:List (Str×Value)) :
  kP P w K mg base (A.under (.builtin "type.__call__" ⟨.ref C::us,kw⟩)) outer s H:=⟨by first | exact e.frames | (simpa [Around.under,Code.envs,Code.isFrame,pushEnvs] using e.frames),e.mod,e.bs,e.gN,e.eX,e.iM,e.aA,e.bare⟩
section
variable {X:Cx} {pins:List (Addr×Obj)} {σ:St} {H:Hp} {s s':Shared}
def Inv.oY (I:Inv X pins σ H s):kP X.prog X.w X.K X.mg X.base X.A X.stack s H :=
 ⟨I.ok.frames,I.ok.mod,I.bs,Gc I.ok.gN I.sz,I.stack,I.xu,I.aA,I.bare⟩
def Inv.after {Q:VK} {u:Value} (I:Inv X pins σ H s) (h:CE X.stack X.prog X.w H s Q u s'):EP X pins σ Q u s':=by
 obtain ⟨v,H',os,bare,un,aA,r,q⟩:=h;obtain ⟨hh,g,d,t,os'⟩:=s';obtain rfl:os'=s.os:=os;exact ⟨v,H',I.call (h':=hh) (g':=g) (d':=d) (t':=t) (ch:=[]) un aA bare (fun b z=>absurd z (by simp)),r,q⟩
end
def xq (sp:Sp) (bh:List V) (E:XK) (t:TA):TE:=fun σ H Q=>t σ H fun vs H1=>sp (vs++bh) H1 Q E
inductive MI (C:Addr) (m:Str) (x:V) (H:Hp) (q:Prop):Prop
 | mk:∀ a dx fs,x=.ref a->H a=some (.ins C dx fs)->fs.lookup m=none->q->MI C m x H q
def qZ (C:Addr) (m:Str) (sp:Sp) (bh:List V) (E:XK) (ta:TE) (t:TA):TE:=fun σ H Q=>ta σ H fun x H1=>MI C m x H1 (t σ H1 fun vs H2=>sp (x::(vs++bh)) H2 Q E)
def uj (C:Addr) (sp:Sp) (bh:List V) (E:XK) (t:TA):TE:=fun σ H Q=>t σ H fun vs H1=>∀ x dx,H1 x=none->H1 dx=none->dx≠x ->
 sp (.ref x::(vs++bh)) (upd (upd H1 dx (.own x)) x (.ins C dx [])) (fun v H2=>v=.au/\Q (.ref x) H2) E
def Binds (K:PySem.W.Frag) (fd:FuncData) (ps:List Str) (ds:List Value):Prop :=
 ∀ (s:Shared) (us:List Value),K.In s.heap->(us++ds).length=ps.length->BindsTo s fd ⟨us,[]⟩ (ps.zip (us++ds))
def Binds.all {K:PySem.W.Frag} {fd:FuncData} {ps:List Str} (h:∀ us:List Value,us.length=ps.length->bindArgs fd ⟨us,[]⟩=pure (ps.zip us)):Binds K fd ps []:=fun s us _ hl=>by
 rw [_h] at hl ⊢;exact .of_eq (h us hl)
def Passes (CX:dH) (X:Cx) (E:XK):Prop:=∀ (pins:List (Addr×Obj)) (σ:St) (H:Hp) (s:Shared) (e:Value) (s':Shared),Inv X pins σ H s->CX X.stack H s E e s'->X.xe e s'
section
variable {X:Cx} {CX:dH} {k:Nat} {f C:Addr} {fd:FuncData} {ps:List Str} {sp:Sp} {bh:List V} {ds:List Value} {E:XK} {x m:Str} {p pos apos:Pos} {e o:Expr} {es:List Expr} {ta:TE} {t:TA}
def Bp {pins:List (Addr×Obj)} {σ:St} {H:Hp} {s:Shared} {Q:VK} {us:List Value} {vs:List V} (F:aB X.prog X.w X.K X.mg X.base CX k f fd ps sp) (hr:aZ k X.A) (hb:Binds X.K fd ps ds) (hd:Vals bh ds) (hx:Passes CX X E)
  (I:Inv X pins σ H s) (r:Vals vs us) (h:sp (vs++bh) H Q E):wpAny (model X.prog X.w) X.A (call (.ref f) us) (EP X pins σ Q) X.xe s:=by
 have r2:Vals (vs++bh) (us++ds):=r.append hd;have hl:(us++ds).length=ps.length:=by rw [<- r2.length]; exact F.len _ _ _ _ h
 refine _r (_I (F.run X.A X.stack s H ⟨us,[]⟩ (us++ds) (vs++bh) Q E hr I.oY (hb s us I.bR hl) r2 h) fun r s' hq=>?_);cases r with
 | error e=>exact hx pins σ H s e s' I hq
 | ok fl =>
  cases fl with
  | ret u=>exact I.after hq
  | next=>exact False.elim hq
  | brk=>exact False.elim hq
  | cont=>exact False.elim hq
def Vo (F:aB X.prog X.w X.K X.mg X.base CX k f fd ps sp) (hr:aZ k X.A) (hg:Gl X x) (hm:X.mg x=some (.ref f)) (hk:PySem.W.keepIn X.K (.ref f)=true) (hb:Binds X.K fd ps ds) (hd:Vals bh ds) (hx:Passes CX X E)
  (ha:PA X (e::es) t) (bM:(x == ("__debug__" : Str))=false:=by decide) (he:starEach (e::es) X.env=(false,eval e X.env)::starEach es X.env:=by rfl) (bw:(backTo pos (starEach es X.env)).any (·.1)=false:=by rfl) :
  PE X (.Call (.Name x p) (e::es) [] pos) (xq sp bh E t):=by
 intro pins s σ H Q I h;refine SC (kE I hg hm ?_ bM);refine _c (h₀:=X.base) I.ok.mod.ie hk (aC (ha pos pins s σ H _ I h) fun us s1 ⟨vs,H1,I1,r,q⟩=>⟨I1.bR,?_⟩) he bw;exact Bp F hr hb hd hx I1 r q
def ZF {pl:Sem Bool} (he:PE X o ta) (c:cR X.K C) (hm:Meth X.K C m f) (F:aB X.prog X.w X.K X.mg X.base CX k f fd ps sp) (hr:aZ k X.A) (hb:Binds X.K fd ps ds) (hd:Vals bh ds) (hx:Passes CX X E) (ha:PA X (e::es) t)
  (aU:starEach (e::es) X.env=(false,eval e X.env)::starEach es X.env:=by rfl) (bw:(backTo pos (starEach es X.env)).any (·.1)=false:=by rfl)
  (ht:eval (.Call (.Attribute o m apos) (e::es) [] pos) X.env=(do
   let ov <- eval o X.env
   standAt apos.atName
   let (f,first) <- holding [ov] (getMethod ov m pl)
   callWith pos f first (backTo pos (starEach (e::es) X.env)) (backToKw pos (keywordEach [] X.env))):=by rfl) :
  PE X (.Call (.Attribute o m apos) (e::es) [] pos) (qZ C m sp bh E ta t):=by
 intro pins s σ H Q I h;refine Jaa (pl:=pl) (aC (he pins s σ H _ I h) fun u s1 ⟨x,H1,I1,rx,a,dx,fs,ex,ea,l,q⟩=>?_) ht;subst ex;obtain rfl:u=Value.ref a:=rx;refine yS I1 ea c hm l ?_;refine _c (first:=[.ref a]) (h₀:=X.base) I.ok.mod.ie hm.kp (aC (ha pos pins s1 σ H1 _ I1 q) fun us s2 ⟨vs,H2,I2,r,q2⟩=>⟨I2.bR,?_⟩) aU bw;exact Bp (us:=.ref a::us) (vs:=.ref a::vs) F hr hb hd hx I2 (.cons rfl r) q2
def Vv {pl:Sem Bool} (he:PE X o ta) (c:cR X.K C) (hm:Meth X.K C m f) (F:aB X.prog X.w X.K X.mg X.base CX k f fd ps sp) (hr:aZ k X.A) (hb:Binds X.K fd ps ds) (hd:Vals bh ds) (hx:Passes CX X E)
  (ht:eval (.Call (.Attribute o m apos) [] [] pos) X.env=(do
   let ov <- eval o X.env
   standAt apos.atName
   let (f,first) <- holding [ov] (getMethod ov m pl)
   callWith pos f first (backTo pos (starEach [] X.env)) (backToKw pos (keywordEach [] X.env))):=by rfl) :
  PE X (.Call (.Attribute o m apos) [] [] pos) (qZ C m sp bh E ta mT):=by
 intro pins s σ H Q I h;refine Jaa (pl:=pl) (aC (he pins s σ H _ I h) fun u s1 ⟨x,H1,I1,rx,a,dx,fs,ex,ea,l,q⟩=>?_) ht;subst ex;obtain rfl:u=Value.ref a:=rx;refine yS I1 ea c hm l ?_;exact PySem.W.callWith_K0 (first:=[.ref a]) I1.bR hm.kp (Bp (us:=[.ref a]) (vs:=[.ref a]) F hr hb hd hx I1 (.cons rfl .nil) q)
structure Mk (K:PySem.W.Frag) (C f:Addr):Prop where
 makes:PySem.W.makesIn K C=true
 init:PySem.W.findIn K (.ref C) "__init__" = some (some (.ref f))
 fn:PySem.W.isFn K (.ref f)=true
 kp:PySem.W.keepIn K (.ref C)=true
def Ma {pins:List (Addr×Obj)} {σ:St} {H:Hp} {s:Shared} {Q:VK} {us:List Value} {vs:List V} (M:Mk X.K C f) (F:aB X.prog X.w X.K X.mg X.base CX k f fd ps sp) (hr:aZ (k+1) X.A) (hb:Binds X.K fd ps ds) (hd:Vals bh ds)
  (hx:Passes CX X E) (I:Inv X pins σ H s) (r:Vals vs us)
  (h:∀ x dx,H x=none->H dx=none->dx≠x->sp (.ref x::(vs++bh)) (upd (upd H dx (.own x)) x (.ins C dx [])) (fun v H2=>v=.au/\Q (.ref x) H2) E) :
  wpAny (model X.prog X.w) X.A (call (.ref C) us) (EP X pins σ Q) X.xe s:=by
 have hq:=h (s.heap.objs.size+1) s.heap.objs.size (I.aA.fresh (Jak _)) (I.aA.fresh (Ev _)) (GE (WF _));have I2:=Inv.made (C:=C) I;have r2:Vals (V.ref (s.heap.objs.size+1)::(vs++bh)) (Value.ref (s.heap.objs.size+1)::(us++ds)):=.cons rfl (r.append hd);have hl:(Value.ref (s.heap.objs.size+1)::us++ds).length=ps.length:=by
  have e:=r2.length;rw [F.len _ _ _ _ hq] at e;exact e.symm
 refine _r (Qo (f:=f) I.bR M.makes M.init (_o.mp M.fn) (_I (F.run _ X.stack _ _ ⟨Value.ref (s.heap.objs.size+1)::us,[]⟩ (Value.ref (s.heap.objs.size+1)::(us++ds)) _ _ E (hr.make C us [])
  (I2.oY.make C us []) (hb _ (Value.ref (s.heap.objs.size+1)::us) I2.bR hl) r2 hq) fun r s' hq'=>?_))
 cases r with
 | error e=>exact hx pins σ _ _ e s' I2 hq'
 | ok fl =>
  cases fl with
  | ret u =>
   obtain ⟨v,H',I3,rv,ev,q3⟩:=I2.after hq';subst ev;exact ⟨rv,⟨V.ref (s.heap.objs.size+1),H',I3,rfl,q3⟩⟩
  | next=>exact False.elim hq'
  | brk=>exact False.elim hq'
  | cont=>exact False.elim hq'
def P2 (M:Mk X.K C f) (F:aB X.prog X.w X.K X.mg X.base CX k f fd ps sp) (hr:aZ (k+1) X.A) (hg:Gl X x) (hm:X.mg x=some (.ref C)) (hb:Binds X.K fd ps ds) (hd:Vals bh ds) (hx:Passes CX X E)
  (ha:PA X (e::es) t) (bM:(x == ("__debug__" : Str))=false:=by decide) (he:starEach (e::es) X.env=(false,eval e X.env)::starEach es X.env:=by rfl) (bw:(backTo pos (starEach es X.env)).any (·.1)=false:=by rfl) :
  PE X (.Call (.Name x p) (e::es) [] pos) (uj C sp bh E t):=by
 intro pins s σ H Q I h;refine SC (kE I hg hm ?_ bM);refine _c (h₀:=X.base) I.ok.mod.ie M.kp (aC (ha pos pins s σ H _ I h) fun us s1 ⟨vs,H1,I1,r,q⟩=>⟨I1.bR,?_⟩) he bw;exact Ma M F hr hb hd hx I1 r q
def Sg (M:Mk X.K C f) (F:aB X.prog X.w X.K X.mg X.base CX k f fd ps sp) (hr:aZ (k+1) X.A) (hg:Gl X x) (hm:X.mg x=some (.ref C)) (hb:Binds X.K fd ps ds) (hd:Vals bh ds) (hx:Passes CX X E)
  (bM:(x == ("__debug__" : Str))=false:=by decide):PE X (.Call (.Name x p) [] [] pos) (uj C sp bh E mT):=by
 intro pins s σ H Q I h;refine SC (kE I hg hm ?_ bM);exact PySem.W.callWith_K0 I.bR M.kp (Ma (us:=[]) M F hr hb hd hx I .nil h)
end
section
variable {X:Cx} {CX:dH} {k:Nat} {f C:Addr} {fd:FuncData} {ps ks:List Str} {sp:Sp} {E:XK} {x m:Str} {p pos apos kpos:Pos} {e o:Expr} {es:List Expr} {kws:List Keyword} {te ta:TE} {t tk:TA} {nm:Option Str}
structure abq (K:PySem.W.Frag) (fd:FuncData) (ps ks:List Str) (g:List Value->List Value->List Value) (gV:List V->List V->List V):Prop where
 to:∀ (s:Shared) (us ws:List Value),K.In s.heap->(g us ws).length=ps.length->BindsTo s fd ⟨us,ks.zip ws⟩ (ps.zip (g us ws))
 rel:∀ {vs:List V} {us:List Value} {zs:List V} {ws:List Value},Vals vs us->Vals zs ws->Vals (gV vs zs) (g us ws)
def Ql (sp:Sp) (gV:List V->List V->List V) (E:XK) (t tk:TA):TE:=fun σ H Q=>t σ H fun vs H1=>tk σ H1 fun zs H2=>sp (gV vs zs) H2 Q E
variable {g:List Value->List Value->List Value} {gV:List V->List V->List V}
end
structure aE (N P:List Str) (sc:Scope):Prop where
 kind:sc.kind=.function
 co:sc.isCoroutine=false
 gen:sc.isGenerator=false
 nd:N.Nodup
 pre:N.take P.length=P
 par:∀ x∈P,sc.names.lookup x=some .local\/sc.names.lookup x=some .cell
 Wv:∀ y∈sc.names,y.2≠.free
def Gf {kindOf:Str->Option NameKind} {x:Str}:∀ {binds:List (Str×Value)} {m:Str->Option Value},(∀ v,(x,v) ∉ binds)->bindL kindOf binds m x=m x
 | [],_,_=>rfl
 | (n,v)::r,m,h=>by
  unfold bindL;rw [Gf fun w hw=>h w (LT _ hw)];split
  ·have:x≠n:=by rintro rfl; exact h v T0
   simp [this]
  ·rfl
def LG {kindOf:Str->Option NameKind} {x:Str}:∀ {binds:List (Str×Value)} {m:Str->Option Value},(∀ v,(x,v) ∉ binds)->bindC kindOf binds m x=m x
 | [],_,_=>rfl
 | (n,v)::r,m,h=>by
  unfold bindC;rw [LG fun w hw=>h w (LT _ hw)];split
  ·rfl
  ·have:x≠n:=by rintro rfl; exact h v T0
   simp [this]
def HS {kindOf:Str->Option NameKind} {x:Str} {v:Value}:∀ {P:List Str} {vs:List Value} {i:Nat} {m:Str->Option Value},P.Nodup->P[i]?=some x->vs[i]?=some v->kindOf x=some .local ->
  bindL kindOf (P.zip vs) m x=some v
 | [],_,_,_,_,h,_,_=>by simp at h
 | _::_,[],_,_,_,_,h,_=>by simp at h
 | p::P,w::vs,0,m,nd,h1,h2,hk=>by
  simp at h1 h2; subst h1; subst h2;show bindL kindOf ((p,w)::P.zip vs) m p=_;unfold bindL;rw [Gf fun v hv=>(KK.mp nd).1 (Jao hv).1,IN hk];simp
 | p::P,w::vs,i+1,m,nd,h1,h2,hk=>by
  show bindL kindOf ((p,w)::P.zip vs) m x=_;unfold bindL;exact HS (i:=i) (KK.mp nd).2 (by simpa using h1) (by simpa using h2) hk
def JC {kindOf:Str->Option NameKind} {x:Str} {v:Value}:∀ {P:List Str} {vs:List Value} {i:Nat} {m:Str->Option Value},P.Nodup->P[i]?=some x->vs[i]?=some v->kindOf x≠some .local ->
  bindC kindOf (P.zip vs) m x=some v
 | [],_,_,_,_,h,_,_=>by simp at h
 | _::_,[],_,_,_,_,h,_=>by simp at h
 | p::P,w::vs,0,m,nd,h1,h2,hk=>by
  simp at h1 h2; subst h1; subst h2;show bindC kindOf ((p,w)::P.zip vs) m p=_;unfold bindC;rw [LG fun v hv=>(KK.mp nd).1 (Jao hv).1,Id hk];simp
 | p::P,w::vs,i+1,m,nd,h1,h2,hk=>by
  show bindC kindOf ((p,w)::P.zip vs) m x=_;unfold bindC;exact JC (i:=i) (KK.mp nd).2 (by simpa using h1) (by simpa using h2) hk
def start (N:List Str) (vs:List V):St:=vs.map some++List.replicate (N.length - vs.length) none
def bT (CX:dH) (P:Program) (w:World) (K:PySem.W.Frag) (mg:Str->Option Value) (base:Heap) (N:List Str) (qual:Str) (scope:Scope) (f:Addr) (cd:Value) (A:Around) (outer:List Env) (s:Shared) (H:Hp) (E:XK):Cx where
 prog:=P
 w:=w
 K:=K
 mg:=mg
 base:=base
 A:=A.deeper (envOfC qual scope s.heap.objs.size f cd)
 N:=N
 s₀:=s
 H₀:=H
 env:=envOfC qual scope s.heap.objs.size f cd
 outer:=outer
 stack:=envOfC qual scope s.heap.objs.size f cd::outer
 ex:=[]
 calm:=true
 fn:=fun _=>true
 pn:=[]
 xe:=fun e s'=>wpAny (model P w) (A.deeper (envOfC qual scope s.heap.objs.size f cd)) (leaving (envOfC qual scope s.heap.objs.size f cd) e) (fun _ s''=>CX outer H s E e s'') (fun e' s''=>CX outer H s E e' s'') s'
def Kq {sc:Scope} {n:Nat} {x:Str} (h:sc.names.lookup x=some .cell):∃ c,(cellsFrom n sc.names []).lookup x=some c:=by
 have q:=Ja4 sc.names n [] (.inl h);exact Option.isSome_iff_exists.mp q
def Gr {CX:dH} {P:Program} {w:World} {K:PySem.W.Frag} {mg:Str->Option Value} {base:Heap} {N ps:List Str} {qual:Str} {scope:Scope} {f:Addr} {cd:Value} {A:Around} {outer:List Env} {s s1:Shared} {H:Hp} {E:XK} {us:List Value} {vs:List V}
  (S:aE N ps scope) (hd:A.handled=none) (e0:kP P w K mg base A outer s H) (hl:vs.length=ps.length) (r:Vals vs us)
  (x:InCallC s s.heap.objs.size (bindL (envOfC qual scope s.heap.objs.size f cd).kindOf (ps.zip us) fun _=>none) (cellsFrom (s.heap.objs.size+1) scope.names []) (bindC (envOfC qual scope s.heap.objs.size f cd).kindOf (ps.zip us) fun _=>none) s1) :
  Inv (bT CX P w K mg base N qual scope f cd A outer s H E) [] (start N vs) H s1:=by
 have bw:ps.length<=N.length:=by have:=UF List.length S.pre; rw [_0] at this; omega
 obtain ⟨h1,tk,rfl,hk⟩:=x.done;have lO:∀ b:Addr,b ∉ (bT CX P w K mg base N qual scope f cd A outer s H E).ex:=fun b z=>absurd (show b∈([]:List Addr) from z) (by simp);refine ⟨⟨e0.mod,S.kind,rfl,rfl,Ev _,fun y z c h1 h2=>?_,fun y hy=>?_,fun y c _ h=>?_,fun _=>hd,Around.frames_deeper e0.frames,.inr ⟨rfl,rfl⟩,fun b z=>absurd z (lO b),e0.bs,e0.gN,fun b _ _=>lO b,fun b z=>absurd z (lO b),e0.eX,e0.iM⟩,
  rfl,e0.bare,Un.kept hk,⟨_,x.toInCall.ns,fun i y v h1 h2 h3=>?_⟩,fun y c h=>⟨_,x.cell y c h⟩,e0.aA.fresh (Ev _),fun y c h=>?_,fun p hp=>absurd (show p∈([]:List (Addr×Obj)) from hp) (by simp),e0.aA.kept hk,?_⟩
 ·exact name_of_addr x.apart (Pi h1) (Pi h2)
 ·have hy:scope.names.lookup y=some .cell\/scope.names.lookup y=some .free:=hy;rcases hy with hy | hy
  ·exact Kq hy
  ·exact absurd rfl (S.Wv _ (Pi hy))
 ·exact Jax (x.above y c (Pi h))
 ·have hi:i < vs.length:=by
   unfold start at h2;by_cases hi:i < vs.length
   ·exact hi
   ·rw [Ps (by simpa using hi)] at h2;rw [List.getElem?_replicate] at h2;split at h2 <;> cases h2
  have ha:vs[i]?=some v:=by
   unfold start at h2;rw [Re (by simpa using hi),Op] at h2;cases e:vs[i]? with
   | none=>rw [e] at h2; cases h2
   | some a=>rw [e] at h2; cases h2; rfl
  obtain ⟨u,hu,rv⟩:=r.get ha;have hp:ps[i]?=some y:=by
   rw [<- S.pre,List.getElem?_take_of_lt (by omega)]; exact h1
  have NN:ps.Nodup:=by rw [<- S.pre]; exact S.nd.sublist (List.take_sublist _ _)
  refine ⟨u,rv,?_⟩;rcases S.par y (UV hp) with k | k
  ·exact .inl ⟨k,HS NN hp hu k⟩
  ·obtain ⟨c,e⟩:=Kq (n:=s.heap.objs.size+1) k;refine .inr ⟨.inl k,c,e,?_⟩;have q:=x.cell y c e;rw [JC NN hp hu (by show scope.names.lookup y≠_; rw [k]; decide)] at q;exact q
 ·exact e0.aA.fresh (Jax (x.above y c (Pi h)))
 ·unfold start;show _=N.length;rw [Da,At,Jab];omega
def wQ {CX:dH} {P:Program} {w:World} {K:PySem.W.Frag} {mg:Str->Option Value} {base:Heap} {k:Nat} {f:Addr} {name qual:Str} {params:Arguments} {body:List Stmt} {scope:Scope} {dV kV doc pm ag ct oc:Value} {an od:Option Addr}
  {cZ:Array (Option Value)} {N ps:List Str} {sp:Sp} (lk:K.lookup f=some ⟨oc,od,.func (PySem.W.fnOf name qual params body scope dV kV doc pm an ag ct),cZ⟩) (bF:PySem.W.codeIn K ag qual=true) (S:aE N ps scope)
  (len:∀ vs H Q E,sp vs H Q E->vs.length=ps.length)
  (iW:∀ (A:Around) (outer:List Env) (s:Shared) (H:Hp) (vs:List V) (Q:VK) (E:XK),aZ k (A.deeper (envOfC qual scope s.heap.objs.size f ag))->sp vs H Q E ->
   ∃ t,cX (bT CX P w K mg base N qual scope f ag A outer s H E) body t/\t { nx:=fun _ H'=>Q .au H',rt:=Q } (start N vs) H) :
  aB P w K mg base CX (k+1) f (PySem.W.fnOf name qual params body scope dV kV doc pm an ag ct) ps sp:=by
 refine ⟨len,fun A outer s H args us vs Q E hr e0 hb r c8=>?_⟩;have hl:=len _ _ _ _ c8;have KX:K.In s.heap:=e0.mod.ie.keeps fun b o e=>(e0.bs b o e).1;have lim:s.heap.NoLimit:=e0.mod.nolimit.keeps fun b o e=>(e0.bs b o e).1;have EK:∀ y∈ps.zip us,scope.names.lookup y.1=some .local\/(scope.names.lookup y.1=some .cell/\((cellsFrom (s.heap.objs.size+1) scope.names []).lookup y.1).isSome=true):=fun ⟨n,v⟩ hy=>by
  rcases S.par n (Jao hy).1 with q | q
  ·exact .inl q
  ·exact .inr ⟨q,Ja4 _ _ _ (.inl q)⟩
 refine codeAny_call_function hr.depth (KX _ _ lk) rfl S.co S.gen rfl (PySem.W.codeRec_of KX bF) (hb _ _ _ _ ?_);refine wpAny_newFunctionEnv_cells S.kind EK fun env he s1 x=>?_;subst he;refine ⟨lim.keeps x.toInCall.keep,codeAny_func ?_⟩;obtain ⟨t,ht,hq⟩:=iW A outer s H vs Q E (hr.deeper _) c8;have I:Inv (bT CX P w K mg base N qual scope f ag A outer s H E) [] (start N vs) H s1:=Gr S hr.hd e0 hl r x;refine Ty (ht [] s1 (start N vs) H _ I hq) (fun fl s' hs=>?_) fun e s' hs=>hs;have fin:∀ {σ':St} {H':Hp} {v:V} {u:Value},Inv (bT CX P w K mg base N qual scope f ag A outer s H E) [] σ' H' s'->RelV v u->Q v H'->CE outer P w H s Q u s' :=
  fun {σ' H' v u} J rv q=>⟨v,H',J.os,J.bare,J.base,J.aA,rv,q⟩
 cases fl with
 | ret u =>
  obtain ⟨v,σ',H',J,rv,q⟩:=hs;exact fin J rv q
 | next =>
  obtain ⟨σ',H',J,q⟩:=hs;exact fin (v:=V.au) (u:=Value.none) J rfl q
 | brk =>
  obtain ⟨_,_,_,q⟩:=hs;exact False.elim q
 | cont =>
  obtain ⟨_,_,_,q⟩:=hs;exact False.elim q
section
variable {X:Cx} {x:Str} {p pos:Pos} {e:Expr} {es:List Expr} {t:TA} {id T:String} {r:List V->Hp->VK->Prop}
def nM (r:List V->Hp->VK->Prop) (t:TA):TE:=fun σ H Q=>t σ H fun vs H1=>r vs H1 Q
def Wk (hc:cA X (.builtin id) r) (hg:Gl X x) (hm:X.mg x=none) (hv:bootBuiltins x=some (.builtin id)) (ha:PA X (e::es) t) (hn:x ≠ "__name__" := by decide) (bM:(x == ("__debug__" : Str))=false:=by decide)
  (he:starEach (e::es) X.env=(false,eval e X.env)::starEach es X.env:=by rfl) (bw:(backTo pos (starEach es X.env)).any (·.1)=false:=by rfl):PE X (.Call (.Name x p) (e::es) [] pos) (nM r t):=by
 intro pins s σ H Q I h;refine SC (oj I hg hm hv ?_ hn bM);exact PyProof.Rows.callWith_builtin1 (aC (ha pos pins s σ H _ I h) fun us s1 ⟨vs,H1,I1,r1,q1⟩=>hc pins s1 σ H1 vs us Q I1 r1 q1) he bw
def W6 (hc:cA X (.type T) r) (hg:Gl X x) (hm:X.mg x=none) (hv:bootBuiltins x=some (.type T)) (ha:PA X (e::es) t) (hn:x ≠ "__name__" := by decide) (bM:(x == ("__debug__" : Str))=false:=by decide)
  (he:starEach (e::es) X.env=(false,eval e X.env)::starEach es X.env:=by rfl) (bw:(backTo pos (starEach es X.env)).any (·.1)=false:=by rfl):PE X (.Call (.Name x p) (e::es) [] pos) (nM r t):=by
 intro pins s σ H Q I h;refine SC (oj I hg hm hv ?_ hn bM);exact _k (aC (ha pos pins s σ H _ I h) fun us s1 ⟨vs,H1,I1,r1,q1⟩=>hc pins s1 σ H1 vs us Q I1 r1 q1) he bw
end
end L2
namespace HT
open PySem PyProof.Rows
section
open PySem.SeqAt
open PySem.AutoSeq1 (wpAny_loadPart')
open PySem.MeetsSeq PySem.MeetsSeq2 PySem.MeetsSeq3
end
section
variable {prog:Program} {w:World} {A:Around} {E:Value->Shared->Prop} {s:Shared}
def cT (n d:Nat):Option Int->Nat
 | none=>d
 | some v=>if v < 0 then (v+(n:Int)).toNat else min v.toNat n
def AV (n d:Nat):cT n d none=d:=rfl
def z7 (n d k:Nat):cT n d (some (k:Int))=min k n:=by
 show (if (k:Int) < 0 then ((k:Int)+(n:Int)).toNat else min (k:Int).toNat n)=min k n;rw [if_neg (by omega),Int.toNat_natCast]
end
end HT
namespace L2
open PySem PySem.Spec PyProof.Rows
abbrev TO:=St->Hp->(Option Int->Hp->Prop)->Prop
def PO (X:Cx) (e:Option Expr) (t:TO):Prop :=
 ∀ (pins:List (Addr×Obj)) (s:Shared) (σ:St) (H:Hp) (Q:Option Int->Hp->Prop),Inv X pins σ H s->t σ H Q ->
  wpAny (model X.prog X.w) X.A (evalPart e X.env) (fun u s'=>∃ o H',Inv X pins σ H' s'/\IsPart u o/\Q o H') X.xe s
def DF:TO:=fun _ H Q=>Q none H
section
variable {X:Cx} {e:Expr} {te:TE} {lo hi:Option Expr} {tl th:TO} {pos p2:Pos}
def UM:PO X none DF:=by
 intro pins s σ H Q I h;rw [evalPart_none];exact Cl ⟨none,H,I,.none,h⟩
def jx (X:Cx) (r:V->Option Int->Option Int->Hp->VK->Prop):Prop :=
 ∀ (pins:List (Addr×Obj)) (s:Shared) (σ:St) (H:Hp) (x:V) (v vl vu:Value) (lo hi:Option Int) (sl:Addr) (Q:VK),Inv X pins σ H s->RelV x v->s.heap.IsSliceOf sl vl vu .none->IsPart vl lo->IsPart vu hi->r x lo hi H Q ->
  ∃ T id,typeLookup (.type T) "__getitem__" = pure (some (.builtin id))/\s.TypeIs v T/\wpAny (model X.prog X.w) X.A (getItem v (.ref sl)) (EP X pins σ Q) X.xe s
def jx.or {r r':V->Option Int->Option Int->Hp->VK->Prop} (h:jx X r) (h':jx X r'):jx X (fun x lo hi H Q=>r x lo hi H Q\/r' x lo hi H Q):=by
 intro pins s σ H x v vl vu lo hi sl Q I rx hs pl pu q;rcases q with q | q
 ·exact h pins s σ H x v vl vu lo hi sl Q I rx hs pl pu q
 ·exact h' pins s σ H x v vl vu lo hi sl Q I rx hs pl pu q
def Co (r:V->Option Int->Option Int->Hp->VK->Prop) (te:TE) (tl th:TO):TE:=fun σ H Q=>te σ H fun x H1=>tl σ H1 fun l H2=>th σ H2 fun u H3=>r x l u H3 Q
def ZX {r:V->Option Int->Option Int->Hp->VK->Prop} (hr:jx X r) (he:PE X e te) (hl:PO X lo tl) (hu:PO X hi th):PE X (.Subscript e (.Slice lo hi none p2) pos) (Co r te tl th):=by
 intro pins s σ H Q I h;refine Subscript_ (aC (he pins s σ H _ I h) fun v s1 ⟨x,H1,I1,r1,q1⟩=>?_);refine wpAny_Slice (aC (hl pins s1 σ H1 _ I1 q1) fun vl s2 ⟨l,H2,I2,pl,q2⟩=>aC (hu pins s2 σ H2 _ I2 q2) fun vu s3 ⟨u,H3,I3,pu,q3⟩=>?_);rw [evalPart_none];refine Cl ?_;have I4:Inv X pins σ H3 { s3 with heap:=s3.heap.push { cls:=.type "slice",data:=.fields #[vl,vu,.none] } }:=I3.kept (t':=s3.toks) fun b ob q=>xz _ q;obtain ⟨T,id,hT,ht,hg⟩:=hr pins { s3 with heap:=s3.heap.push { cls:=.type "slice",data:=.fields #[vl,vu,.none] } } σ H3 x v vl vu l u s3.heap.objs.size Q I4 r1 (Heap.IsSliceOf.new ..) pl pu q3;show wpAny (model X.prog X.w) X.A (subscriptTail e (.Slice lo hi none p2) v (.ref s3.heap.objs.size)) (EP X pins σ Q) X.xe { s3 with heap:=s3.heap.push { cls:=.type "slice",data:=.fields #[vl,vu,.none] } };exact tail_any (ops:=[.ref s3.heap.objs.size,v]) ht hT hg (by with_unfolding_all rfl)
def fi (xs:List V) (lo hi:Option Int):List V:=(xs.drop (HT.cT xs.length 0 lo)).take (HT.cT xs.length xs.length hi - HT.cT xs.length 0 lo)
def aaJ (xs:List V) (lo hi:Option Int):(fi xs lo hi).length<=xs.length:=by
 unfold fi;rw [_0,List.length_drop];omega
end
def gv (n:Nat) (i:Int):Option Nat:=if 0<=i then (if i < n then some i.toNat else none) else if -(n:Int)<=i then some (i+n).toNat else none
def cM {α:Type} (xs:List α) (i:Int):Option α:=(gv xs.length i).bind fun j=>xs[j]?
def Jc {n:Nat} {i:Int} {j:Nat} (h:gv n i=some j):seqIndex? i n=some j/\j < n/\-(n:Int)<=i/\i < n:=by
 unfold gv at h;by_cases h0:0<=i
 ·rw [IN h0] at h;by_cases h1:i < n
  ·rw [IN h1] at h;have e:i.toNat=j:=PP h;exact ⟨by rw [seqIndex_of h0 h1,e],by omega,by omega,h1⟩
  ·rw [Id h1] at h; cases h
 ·rw [Id h0] at h;by_cases h1:-(n:Int)<=i
  ·rw [IN h1] at h;have e:(i+n).toNat=j:=PP h;exact ⟨by rw [seqIndex_neg (by omega) h1,e],by omega,h1,by omega⟩
  ·rw [Id h1] at h; cases h
def CP {α:Type} {xs:List α} {i:Int} {v:α} (h:cM xs i=some v):∃ j,seqIndex? i xs.length=some j/\xs[j]?=some v/\j < xs.length/\-(xs.length:Int)<=i/\i < xs.length:=by
 unfold cM at h;cases e:gv xs.length i with
 | none=>rw [e] at h; cases h
 | some j =>
  rw [e] at h;obtain ⟨h1,h2,h3,h4⟩:=Jc e;exact ⟨j,h1,h,h2,h3,h4⟩
def gQ {α:Type} {xs:List α} {j:Nat} {v:α} (h:xs[j]?=some v):cM xs (j:Int)=some v:=by
 have hj:j < xs.length:=(Do.mp h).1;have e:gv xs.length (j:Int)=some j:=by
  unfold gv;rw [IN (by omega),IN (by omega)]; simp
 unfold cM; rw [e]; exact h
def mS {α:Type} (xs:List α) (v:α):cM (xs++[v]) (-1)=some v:=by
 have hl:(xs++[v]).length=xs.length+1:=by simp
 have e:gv (xs++[v]).length (-1)=some xs.length:=by
  unfold gv;rw [hl,Id (by decide),IN (by omega)]
  congr 1
  omega
 unfold cM;rw [e];show (xs++[v])[xs.length]?=some v;simp
def FW (b:Expr):Prop:=∀ o i,subscripted b false o i=operate [o,i] (getItem o i)
def fm (X:Cx) (r:R2):Prop :=
 ∀ (value slice:Expr) (pins:List (Addr×Obj)) (s:Shared) (σ:St) (H:Hp) (x y:V) (v u:Value) (Q:VK),Inv X pins σ H s->RelV x v->RelV y u->r x y H Q ->
  subscripted slice false v u=operate [v,u] (getItem v u)->wpAny (model X.prog X.w) X.A (subscriptTail value slice v u) (EP X pins σ Q) X.xe s
def dg (X:Cx) (id:String) (r:V->List V->Hp->VK->Prop):Prop :=
 ∀ (pins:List (Addr×Obj)) (s:Shared) (σ:St) (H:Hp) (x:V) (xs:List V) (v:Value) (us:List Value) (Q:VK),Inv X pins σ H s->RelV x v->Vals xs us->r x xs H Q ->
  wpAny (model X.prog X.w) X.A (call (.builtin id) (v::us)) (EP X pins σ Q) X.xe s
section
variable {X:Cx} {a b:Expr} {ta tb:TE} {pos:Pos}
def fm.or {r r':R2} (h:fm X r) (h':fm X r'):fm X (fun x y H Q=>r x y H Q\/r' x y H Q):=by
 intro value slice pins s σ H x y v u Q I rx ry q hs;rcases q with q | q
 ·exact h value slice pins s σ H x y v u Q I rx ry q hs
 ·exact h' value slice pins s σ H x y v u Q I rx ry q hs
def RN {r:R2} (hr:fm X r) (ha:PE X a ta) (hb:PE X b tb) (hs:FW b):PE X (.Subscript a b pos) (lA r ta tb):=by
 intro pins s σ H Q I h;exact Subscript_ (Bj ha hb I h fun v u s2 x y H2 I2 rx ry q=>hr a b pins s2 σ H2 x y v u Q I2 rx ry q (hs _ _))
def IW (K:PySem.W.Frag):R2:=fun x y H Q=>∃ p xs i v,x=.ref p/\y=.int i/\aD K H p xs/\cM xs i=some v/\Q v H
def Me (K:PySem.W.Frag):R2:=fun x y H Q=>∃ p xs i v,x=.ref p/\y=.int i/\bo K H p xs/\cM xs i=some v/\Q v H
def Kt:R2:=fun x y H Q=>∃ z i c,x=.str z/\y=.int i/\z.length<=sizeLine/\cM z.cps.toList i=some c/\Q (.str ⟨#[c]⟩) H
def GJ:fm X (IW X.K):=by
 intro value slice pins s σ H x y v u Q I rx ry h hs;obtain ⟨p,xs,i,z,rfl,rfl,hq,he,q⟩:=h;cases rx;obtain ⟨t,rfl⟩:=ry;obtain ⟨ao,r,pl,hz⟩:=I.list hq;obtain ⟨j,h1,h2,h3,h4,h5⟩:=CP he;obtain ⟨w,ew,rw'⟩:=r.get h2;have hl:=r.length;have hn:=tY;have fin:EP X pins σ Q w s:=⟨z,H,I,rw',q⟩;by_cases h0:0<=i
 ·have hj:i.toNat=j:=by
   rw [seqIndex_of h0 h5] at h1;exact PP h1
  exact item_listR pl.isList h0 (by omega) (by rw [hj]; simpa using ew) fin hs
 ·have hj:(i+(ao.toArray.size:Int)).toNat=j:=by
   rw [seqIndex_neg (by omega) h4] at h1;rw [Fr,<- hl];exact PP h1
  exact subscriptTail_builtinR (x:=w) pl.isList.typeIs slot_list_getitem.lookup
   (wpAny_getItem_list_neg (Q:=fun r s'=>r=w/\EP X pins σ Q r s') pl.isList (by omega) (by rw [Fr] <;> omega) (by omega) (by rw [hj]; simpa using ew) ⟨rfl,fin⟩) hs
def RX:fm X (Me X.K):=by
 intro value slice pins s σ H x y v u Q I rx ry h hs;obtain ⟨p,xs,i,z,rfl,rfl,hq,he,q⟩:=h;cases rx;obtain ⟨t,rfl⟩:=ry;obtain ⟨ao,r,pl,hz⟩:=I.tuple hq;obtain ⟨j,h1,h2,h3,h4,h5⟩:=CP he;obtain ⟨w,ew,rw'⟩:=r.get h2;have hl:=r.length;have hn:=tY;have fin:EP X pins σ Q w s:=⟨z,H,I,rw',q⟩;exact subscriptTail_builtinR (x:=w) pl.typeIs slot_tuple_getitem.lookup
  (getItem_tuple (j:=j) (Q:=fun r s'=>r=w/\EP X pins σ Q r s') pl (by omega) (by omega) (by rw [Fr,<- hl]; exact h1) (by simpa using ew) ⟨rfl,fin⟩) hs
def Vm:fm X Kt:=by
 intro value slice pins s σ H x y v u Q I rx ry h hs;obtain ⟨z,i,c,rfl,rfl,hz,he,q⟩:=h;obtain ⟨t,rfl⟩:=rx;obtain ⟨t',rfl⟩:=ry;obtain ⟨j,h1,h2,h3,h4,h5⟩:=CP he;have hl:z.cps.toList.length=z.length:=by simp [Str.length]
 rw [hl] at h1 h4 h5;have hn:=tY;exact tail_any (_W s z t) slot_str_getitem.lookup (getItem_str (c:=c) (by
  have e1:decide (i < -(2 ^ 63:Int))=false:=Ch (by omega);have e2:decide (i ≥ 2 ^ 63)=false:=Ch (by omega);rw [e1,e2,_6]) (by rw [h1]; simpa using h2) ⟨.str ⟨#[c]⟩,H,I.tok _,⟨_,rfl⟩,q⟩) hs
def ZI (K:PySem.W.Frag):R2:=fun x y H Q=>IW K x y H Q\/Me K x y H Q\/Kt x y H Q
def Um:fm X (ZI X.K):=GJ.or (RX.or Vm)
def UY (ao:List Value) (n j:Nat) (u:Value):Obj.mapSeq (·.setIfInBounds j u) { cls:=.type "list",data:=.seq ao.toArray n }={ cls:=.type "list",data:=.seq (ao.set j u).toArray n }:=by
 simp [Obj.mapSeq]
def Inv.lst {pins:List (Addr×Obj)} {σ:St} {H:Hp} {s:Shared} {p:Addr} {xs:List V} (I:Inv X pins σ H s) (h:H p=some (.lst xs)) :
  ∃ (ao:List Value) (n:Nat),Vals xs ao/\s.heap.get? p=some { cls:=.type "list",data:=.seq ao.toArray n }/\xs.length<=sizeLine:=by
 obtain ⟨z,ao,n,r,e⟩:=I.aA p _ h;exact ⟨ao,n,r,e,z⟩
def Inv.Qq {pins:List (Addr×Obj)} {σ:St} {H:Hp} {s:Shared} {p:Addr} {xs ys:List V} {ao its':List Value} {n n':Nat} {f:Obj->Obj} (I:Inv X pins σ H s) (h:H p=some (.lst xs))
  (ho:s.heap.get? p=some { cls:=.type "list",data:=.seq ao.toArray n }) (hf:f { cls:=.type "list",data:=.seq ao.toArray n }={ cls:=.type "list",data:=.seq its'.toArray n' }) (r:Vals ys its') (hz:ys.length<=sizeLine) (t:Nat) :
  Inv X pins σ (upd H p (.lst ys)) { s with heap:=s.heap.update p f,toks:=t }:=by
 have e:(s.heap.update p f).get? p=some { cls:=.type "list",data:=.seq its'.toArray n' }:=by
  rw [_b f ho (by rw [hf] <;> rfl),hf]
 refine I.write (x:=p) (e:=p) (by rw [h]; trivial) (.inl rfl) (fun b u hb q=>(ST _ _ (Fa hb)).trans q) ⟨_,e⟩ ?_;exact ⟨hz,its',n',r,e⟩
def P6:V->V->V->Hp->(Hp->Prop)->Prop:=fun o i v H Q=>∃ p xs k j,o=.ref p/\i=.int k/\H p=some (.lst xs)/\gv xs.length k=some j/\Q (upd H p (.lst (xs.set j v)))
def set_list:wt X P6:=by
 intro pins s σ H o i v ov iv u Q I ro ri rv h;obtain ⟨p,xs,k,j,rfl,rfl,hp,hj,q⟩:=h;cases ro;obtain ⟨t,rfl⟩:=ri;obtain ⟨ao,n,r,ho,hz⟩:=I.lst hp;obtain ⟨h1,h2,h3,h4⟩:=Jc hj;have hl:=r.length;have hn:=tY;have I':Inv X pins σ (upd H p (.lst (xs.set j v))) { s with heap:=s.heap.update p (Obj.mapSeq (·.setIfInBounds j u)) } :=
  I.Qq hp ho (UY ao n j u) (r.set rv j) (by rw [List.length_set]; exact hz) s.toks
 by_cases h0:0<=k
 ·have hk:k.toNat=j:=by
   rw [seqIndex_of h0 h4] at h1;exact PP h1
  exact PySem.W.ki_setAt ho h0 (by omega) (by rw [Fr,<- hl]; exact h4) (by rw [hk]; exact ⟨_,I',q⟩)
 ·have hk:(k+(ao.toArray.size:Int)).toNat=j:=by
   rw [seqIndex_neg (by omega) h3] at h1;rw [Fr,<- hl];exact PP h1
  exact PySem.W.ki_setBack ho (by omega) (by rw [Fr,<- hl]; exact h3) (by omega) (by rw [hk]; exact ⟨_,I',q⟩)
def OO (lo hi:Option Int) (n:Nat):(sliceBounds lo hi none n).1=((HT.cT n 0 lo:Nat):Int)/\(sliceBounds lo hi none n).2.1=((HT.cT n n hi:Nat):Int)/\(sliceBounds lo hi none n).2.2=1:=by
 refine ⟨?_,?_,rfl⟩
 ·cases lo with
  | none=>simp [sliceBounds,HT.cT]
  | some i =>
   simp only [sliceBounds,HT.cT,Option.getD_none,show (1:Int) > 0 by decide,if_true];by_cases h:i < 0
   ·simp only [h,if_true] <;> omega
   ·simp only [h,_i] <;> omega
 ·cases hi with
  | none=>simp [sliceBounds,HT.cT]
  | some i =>
   simp only [sliceBounds,HT.cT,Option.getD_none,show (1:Int) > 0 by decide,if_true];by_cases h:i < 0
   ·simp only [h,if_true] <;> omega
   ·simp only [h,_i] <;> omega
def QZ (ao:List Value) (lo hi:Option Int):slicePick ao.toArray lo hi none=((ao.drop (HT.cT ao.length 0 lo)).take (HT.cT ao.length ao.length hi - HT.cT ao.length 0 lo)).toArray:=by
 obtain ⟨h1,h2,h3⟩:=OO lo hi ao.toArray.size;unfold slicePick;rw [h1,h2,h3];simp only [sliceRange_one,pick_run,Fr] <;> rfl
def Zc (K:PySem.W.Frag):V->Option Int->Option Int->Hp->VK->Prop:=fun x lo hi H Q=>∃ a xs,x=.ref a/\aD K H a xs/\∀ p,H p=none->Q (.ref p) (upd H p (.lst (fi xs lo hi)))
def PX:jx X (Zc X.K):=by
 intro pins s σ H x v vl vu lo hi sl Q I rx hs pl pu h;obtain ⟨a,xs,rfl,hx,q⟩:=h;cases rx;obtain ⟨ao,r,ht,hz⟩:=I.list hx;have hlen:=r.length;refine ⟨"list",_,slot_list_getitem.lookup,ht.isList.typeIs,?_⟩;refine wpAny_getItem_list_slice ht.isList hs pl pu .none (by simp) ?_ (by rw [Fr] <;> omega);rw [QZ,<- hlen];refine ⟨.ref s.heap.objs.size,_,I.laid (t':=s.toks) (o:=.lst (fi xs lo hi)) (fun b ob q=>xz _ q) (Ev _) ?_,rfl,q _ (I.aA.fresh (Ev _))⟩;exact ⟨Gc (aaJ xs lo hi) hz,_,0,(r.drop (HT.cT xs.length 0 lo)).take (HT.cT xs.length xs.length hi - HT.cT xs.length 0 lo),FM _ rfl⟩
def cI:V->Bool
 | .au=>true
 | .bl _=>true
 | .int _=>true
 | .str _=>true
 | _=>false
def eY:V->V->Bool
 | .au,.au=>true
 | .bl a,.bl b=>a == b
 | .bl a,.int b=>(if a then 1 else 0) == b
 | .int a,.bl b=>a == (if b then 1 else 0)
 | .int a,.int b=>a == b
 | .str a,.str b=>a == b
 | _,_=>false
def zY {A:Around} {s:Shared} {y x:V} {u v:Value} (ry:RelV y u) (rx:RelV x v) (fy:cI y=true) (fx:cI x=true):SeqAt.EqAt A s u v (eY y x):=by
 cases y with
 | au =>
  cases ry;cases x with
  | au=>cases rx; exact SeqAt.EqAt.same _
  | bl b=>cases rx; exact SeqAt.EqAt.none_bool b
  | int b=>obtain ⟨t,rfl⟩:=rx; exact SeqAt.EqAt.none_int b t
  | str b=>obtain ⟨t,rfl⟩:=rx; exact SeqAt.EqAt.none_str b t
  | _=>exact absurd (show false=true from fx) FS
 | bl a =>
  cases ry;cases x with
  | au=>cases rx; exact SeqAt.EqAt.bool_none a
  | bl b=>cases rx; exact SeqAt.EqAt.bool_bool a b
  | int b=>obtain ⟨t,rfl⟩:=rx; exact SeqAt.EqAt.bool_int a b t
  | str b=>obtain ⟨t,rfl⟩:=rx; exact SeqAt.EqAt.bool_str a b t
  | _=>exact absurd (show false=true from fx) FS
 | int a =>
  obtain ⟨t',rfl⟩:=ry;cases x with
  | au=>cases rx; exact SeqAt.EqAt.int_none a t'
  | bl b=>cases rx; exact SeqAt.EqAt.int_bool a t' b
  | int b=>obtain ⟨t,rfl⟩:=rx; exact SeqAt.EqAt.int_int a t' b t
  | str b=>obtain ⟨t,rfl⟩:=rx; exact SeqAt.EqAt.int_str a t' b t
  | _=>exact absurd (show false=true from fx) FS
 | str a =>
  obtain ⟨t',rfl⟩:=ry;cases x with
  | au=>cases rx; exact SeqAt.EqAt.str_none a t'
  | bl b=>cases rx; exact SeqAt.EqAt.str_bool a t' b
  | int b=>obtain ⟨t,rfl⟩:=rx; exact SeqAt.EqAt.str_int a t' b t
  | str b=>obtain ⟨t,rfl⟩:=rx; exact SeqAt.EqAt.str_str a t' b t
  | _=>exact absurd (show false=true from fx) FS
 | _=>exact absurd (show false=true from fy) FS
def fS (x:V) (u:Value):Bool:=match u with
 | .none=>eY .au x
 | .bool b=>eY (.bl b) x
 | .int i _=>eY (.int i) x
 | .str z _=>eY (.str z) x
 | _=>false
def J7 {x y:V} {u:Value} (r:RelV y u) (f:cI y=true):fS x u=eY y x:=by
 cases y with
 | au=>cases r; rfl
 | bl b=>cases r; rfl
 | int i=>obtain ⟨t,rfl⟩:=r; rfl
 | str z=>obtain ⟨t,rfl⟩:=r; rfl
 | _=>exact absurd (show false=true from f) FS
def rE {x:V}:∀ {xs:List V} {us:List Value},Vals xs us->xs.all cI=true->us.any (fS x)=xs.any fun y=>eY y x
 | _,_,.nil,_=>rfl
 | y::xs,u::us,.cons r t,f=>by
  rw [TD,IR] at f;rw [_n,_n,J7 r f.1,rE t f.2]
def sd {A:Around} {s:Shared} {x:V} {v:Value} (rx:RelV x v) (fx:cI x=true):∀ {xs:List V} {us:List Value},Vals xs us->xs.all cI=true->∀ u∈us,SeqAt.EqAt A s u v (fS x u)
 | _,_,.nil,_=>fun u hu=>by cases hu
 | y::xs,u::us,.cons r t,f=>fun u' hu=>by
  rw [TD,IR] at f;rcases AT.mp hu with rfl | hu
  ·rw [J7 r f.1]; exact zY r rx f.1 fx
  ·exact sd rx fx t f.2 u' hu
def f7 (x:V) (xs:List V):Bool:=xs.any fun y=>eY y x
def IH (K:PySem.W.Frag) (neg:Bool):R2:=fun x y H Q=>∃ p xs,y=.ref p/\(aD K H p xs\/bo K H p xs)/\cI x=true/\xs.all cI=true/\Q (.bl (if neg then !f7 x xs else f7 x xs)) H
def Hw:aY X (compareOp .In) (IH X.K false):=by
 intro pins s σ H x y v u Q I rx ry h;obtain ⟨p,xs,rfl,hq,fx,fs,q⟩:=h;cases ry;rcases hq with hq | hq
 ·obtain ⟨ao,r,pl,hz⟩:=I.list hq;refine SeqAt.in_listAt (fS x) pl.isList (fun w hw=>sd rx fx r fs w (by simpa using hw)) ⟨.bl _,H,I,rfl,?_⟩;rw [show ao.toArray.any (fS x)=ao.any (fS x) by simp,rE r fs];exact q
 ·obtain ⟨ao,r,pl,hz⟩:=I.tuple hq;refine SeqAt.in_tupleAt (fS x) pl (fun w hw=>sd rx fx r fs w (by simpa using hw)) ⟨.bl _,H,I,rfl,?_⟩;rw [show ao.toArray.any (fS x)=ao.any (fS x) by simp,rE r fs];exact q
def YA:aY X (compareOp .NotIn) (IH X.K true):=by
 intro pins s σ H x y v u Q I rx ry h;obtain ⟨p,xs,rfl,hq,fx,fs,q⟩:=h;cases ry;rcases hq with hq | hq
 ·obtain ⟨ao,r,pl,hz⟩:=I.list hq;refine SeqAt.notIn_listAt (fS x) pl.isList (fun w hw=>sd rx fx r fs w (by simpa using hw)) ⟨.bl _,H,I,rfl,?_⟩;rw [show ao.toArray.any (fS x)=ao.any (fS x) by simp,rE r fs];exact q
 ·obtain ⟨ao,r,pl,hz⟩:=I.tuple hq;refine SeqAt.notIn_tupleAt (fS x) pl (fun w hw=>sd rx fx r fs w (by simpa using hw)) ⟨.bl _,H,I,rfl,?_⟩;rw [show ao.toArray.any (fS x)=ao.any (fS x) by simp,rE r fs];exact q
def Zp:cA X (.type "list") (fun xs H Q=>∃ p ys,xs=[.ref p]/\(aD X.K H p ys\/bo X.K H p ys)/\∀ l,H l=none->Q (.ref l) (upd H l (.lst ys))):=by
 intro pins s σ H xs us Q I r h;obtain ⟨p,ys,rfl,hq,q⟩:=h;obtain ⟨u,rfl,rx⟩:=vals1 r;cases rx;have fin:∀ (ao:List Value),Vals ys ao->ys.length<=sizeLine->∀ (h':Heap) (c':Nat),(∀ b o',s.heap.get? b=some o'->h'.get? b=some o') ->
   h'.get? s.heap.objs.size=some { cls:=.type "list",dict:=none,data:=.seq ao.toArray c',slots:=#[] }->EP X pins σ Q (.ref s.heap.objs.size) { s with heap:=h' }:=fun ao r' hz h' c' kp e =>
  ⟨.ref s.heap.objs.size,_,I.laid (t':=s.toks) kp (Ev _) (show bI X.prog X.w _ h' _ (.lst ys) from ⟨hz,ao,c',r',e⟩),rfl,q _ (I.aA.fresh (Ev _))⟩
 rcases hq with hq | hq
 ·obtain ⟨ao,r',pl,hz⟩:=I.list hq;have hlen:=r'.length;obtain ⟨o,ho,hc,n,hd⟩:=pl.isList;exact call_list_seq p (.inl rfl) ho hc hd (fun h' c' kp e=>fin ao r' hz h' c' kp e) (by simp only [Fr] <;> omega)
 ·obtain ⟨ao,r',pl,hz⟩:=I.tuple hq;have hlen:=r'.length;obtain ⟨o,ho,hc,n,hd⟩:=pl;exact call_list_seq p (.inr rfl) ho hc hd (fun h' c' kp e=>fin ao r' hz h' c' kp e) (by simp only [Fr] <;> omega)
def Pc (K:PySem.W.Frag) (T:String) (x:V) (H:Hp):Prop:=match x with
 | .str _=>T = "str"
 | .int _=>T = "int"
 | .ref p=>(T = "list" /\ ∃ xs,aD K H p xs)\/(T = "tuple" /\ ∃ o,K.lookup p=some o/\o.cls=.type "tuple" /\ o.dict=none) \/
   (T = "dict" /\ ((∃ kvs,H p=some (.dK kvs))\/∃ kvs,H p=some (.dT kvs)))\/(T = "set" /\ ∃ S n,H p=some (.set S n))
 | _=>False
def z9 {pins:List (Addr×Obj)} {σ:St} {H:Hp} {s:Shared} {T:String} {x:V} {v:Value} (I:Inv X pins σ H s) (r:RelV x v) (ty:Pc X.K T x H) :
  s.TypeIs v T/\∀ a,v=.ref a->∃ ob,s.heap.get? a=some ob/\ob.dict=none:=by
 cases x with
 | str z =>
  obtain ⟨t,rfl⟩:=r;cases (show T = "str" from ty);exact ⟨_W s z t,fun _ e=>nomatch e⟩
 | int i =>
  obtain ⟨t,rfl⟩:=r;cases (show T = "int" from ty);exact ⟨typeIs_int s i t,fun _ e=>nomatch e⟩
 | ref p =>
  cases r;rcases ty with ⟨rfl,xs,hq⟩ | ⟨rfl,o,hk,hc,hd⟩ | ⟨rfl,hk⟩ | ⟨rfl,S,n,hk⟩
  ·obtain ⟨ao,_,pl,_⟩:=I.list hq;refine ⟨pl.isList.typeIs,fun a e=>?_⟩;cases e;obtain ⟨o,n,e,c,hd,_⟩:=pl;exact ⟨o,e,hd⟩
  ·refine ⟨⟨o,I.bR p o hk,hc⟩,fun a e=>?_⟩;cases e;exact ⟨o,I.bR _ o hk,hd⟩
  ·have z:∃ o,s.heap.get? p=some o/\o.ExactDict:=by
    rcases hk with ⟨kvs,hk⟩ | ⟨kvs,hk⟩
    ·obtain ⟨_,_,_,_,o,_,_,e,ex,_⟩:=I.aA p _ hk;exact ⟨o,e,ex⟩
    ·obtain ⟨_,_,_,_,o,_,_,e,ex,_⟩:=I.aA p _ hk;exact ⟨o,e,ex⟩
   obtain ⟨o,e,ex⟩:=z;refine ⟨⟨o,e,ex.1⟩,fun a e2=>?_⟩;cases e2;exact ⟨o,e,ex.2.1⟩
  ·obtain ⟨o,_,_,_,e,ex,_⟩:=I.aA p _ hk;refine ⟨⟨o,e,ex.1⟩,fun a e2=>?_⟩;cases e2;exact ⟨o,e,ex.2.1⟩
 | _=>exact False.elim ty
variable {o e:Expr} {es:List Expr} {to:TE} {t:TA} {name:Str} {apos bA:Pos} {T id:String} {r:V->List V->Hp->VK->Prop}
/- xs.append(e),list.index on a module's tuple .. are dg facts of 06m -/
end
def wg (X:Cx) (id:String) (r:V->List V->Hp->VK->Prop):Prop :=
 ∀ (pins:List (Addr×Obj)) (s:Shared) (σ:St) (H:Hp) (x:V) (xs:List V) (v:Value) (us:List Value) (Q:VK),Inv X pins σ H s->RelV x v->Vals xs us->r x xs H Q ->
  wpAny (model X.prog X.w) X.A (call (.builtin id) (v::us)) (EP X pins σ Q) X.xe s
def Vals.one:∀ {x:V} {us:List Value},Vals [x] us->∃ u,us=[u]/\RelV x u
 | _,_,.cons r .nil=>⟨_,rfl,r⟩
def Vals.zero:∀ {us:List Value},Vals [] us->us=[]
 | _,.nil=>rfl
def Vals.dropLast {xs:List V} {us:List Value} (h:Vals xs us):Vals xs.dropLast us.dropLast:=by
 induction h with
 | nil=>exact .nil
 | cons r t ih =>
  cases t with
  | nil=>exact .nil
  | cons q t'=>exact .cons r ih
def Vals.rep {xs:List V} {us:List Value} (h:Vals xs us):∀ k:Nat,Vals (List.replicate k xs).flatten (List.replicate k us).flatten
 | 0=>.nil
 | k+1=>by
  rw [_j,_j,Ja5,Ja5];exact Vals.append h (Vals.rep h k)
def YS {α:Type} (l:List α):l.eraseIdx (l.length - 1)=l.dropLast:=by
 induction l with
 | nil=>rfl
 | cons a r ih =>
  cases r with
  | nil=>rfl
  | cons b r =>
   have e:(a::b::r).length - 1=((b::r).length - 1)+1:=by
    have h1:(a::b::r).length=r.length+2:=rfl;have h2:(b::r).length=r.length+1:=rfl;omega
   rw [e,List.eraseIdx_cons_succ,ih]
   all_goals rfl
def foldl_rep (ao:List Value):∀ (k:Nat) (acc:List Value),
  List.foldl (fun x1 x2=>x1++x2) acc.toArray (List.replicate k ao.toArray)=(acc++(List.replicate k ao).flatten).toArray
 | 0,acc=>by simp
 | k+1,acc=>by
  have e:acc.toArray++ao.toArray=(acc++ao).toArray:=by simp
  have e2:(acc++ao)++(List.replicate k ao).flatten=acc++(List.replicate (k+1) ao).flatten:=by
   rw [_j,Ja5,List.append_assoc]
  rw [<- e2,<- foldl_rep ao k (acc++ao),<- e,_j,List.foldl_cons]
section
variable {X:Cx} {pins:List (Addr×Obj)} {σ:St} {H:Hp} {s:Shared} {l b:Addr} {xs ys zs:List V}
def Inv.wH {ao its':List Value} {n:Nat} {f:Array Value->Array Value} {t':Nat} (I:Inv X pins σ H s) (hH:H l=some (.lst xs))
  (e:s.heap.get? l=some { cls:=.type "list",data:=.seq ao.toArray n }) (hf:f ao.toArray=its'.toArray) (hv:Vals ys its') (hz:ys.length<=sizeLine) :
  Inv X pins σ (upd H l (.lst ys)) { s with heap:=s.heap.update l (Obj.mapSeq f),toks:=t' }:=by
 have q:=PySem.IsL.update e f;rw [hf] at q;refine I.write (x:=l) (e:=l) (by rw [hH]; exact trivial) (.inl rfl) (fun b' u hb hu=>(ST s.heap (Obj.mapSeq f) (Fa hb)).trans hu) ⟨_,q⟩ ?_;exact ⟨hz,its',_,hv,q⟩
def Inv.GL {ao:List Value} {t':Nat} (I:Inv X pins σ H s) (hv:Vals ys ao) (hz:ys.length<=sizeLine) :
  Inv X pins σ (upd H s.heap.objs.size (.lst ys)) { s with heap:=s.heap.push { cls:=.type "list",data:=.seq ao.toArray },toks:=t' } :=
 I.laid (fun _ _ q=>xz _ q) (Ev _) ⟨hz,ao,0,hv,FM _ rfl⟩
def Inv.fresh (I:Inv X pins σ H s):H s.heap.objs.size=none:=I.aA.fresh (Ev _)
def Inv.mU (I:Inv X pins σ H s) (hH:H l=some (.lst xs)):xs.length<=sizeLine/\∃ (ao:List Value) (n:Nat),Vals xs ao/\xs.length=ao.length/\s.heap.get? l=some { cls:=.type "list",data:=.seq ao.toArray n }:=by
 obtain ⟨z,ao,n,r,e⟩:=I.aA l _ hH;exact ⟨z,ao,n,r,r.length,e⟩
def G4 {n:Nat} (h:n<=sizeLine):Builtin.List.listTooLong n=false:=by
 unfold Builtin.List.listTooLong;exact Ch (by omega)
end
section
variable {X:Cx}
def Vf:V->List V->Hp->VK->Prop:=fun x vs H Q=>∃ l xs y,x=.ref l/\vs=[y]/\H l=some (.lst xs)/\xs.length < sizeLine/\Q .au (upd H l (.lst (xs++[y])))
def Rg:wg X "list.append" Vf:=by
 intro pins s σ H x vs v us Q I rx rv h;obtain ⟨l,xs,y,rfl,rfl,hH,hz,q⟩:=h;cases rx;obtain ⟨u,rfl,ru⟩:=rv.one;obtain ⟨z,ao,n,r,hl,e⟩:=I.mU hH;refine _d F.slot_list_append ⟨_,e,rfl⟩ F.entry_list_append (F.args_list_append_2 _ _) (PySem.list_append l ao.toArray n u (by rw [Fr]; omega)) ⟨e,?_⟩;refine ⟨.au,_,I.wH (its':=ao++[u]) hH e (by simp) (r.append (.cons ru .nil)) ?_,rfl,q⟩;rw [Da,List.length_singleton];omega
def aaB:V->List V->Hp->VK->Prop:=fun x vs H Q=>∃ l b xs zs,x=.ref l/\vs=[.ref b]/\H l=some (.lst xs)/\H b=some (.lst zs)/\xs.length+zs.length<=sizeLine/\Q .au (upd H l (.lst (xs++zs)))
def Zs:wg X "list.extend" aaB:=by
 intro pins s σ H x vs v us Q I rx rv h;obtain ⟨l,b,xs,zs,rfl,rfl,hH,hB,hz,q⟩:=h;cases rx;obtain ⟨u,rfl,ru⟩:=rv.one;cases ru;obtain ⟨z,ao,n,r,hl,e⟩:=I.mU hH;obtain ⟨z2,oV,n2,r2,cy,e2⟩:=I.mU hB;have hsz:ao.toArray.size+oV.toArray.size<=sizeLine:=by rw [Fr,Fr]; omega
 have E4:¬ (!ao.toArray.isEmpty && Builtin.List.listTooLong (ao.toArray.size+oV.toArray.size))=true:=by
  rw [G4 hsz,Bool.and_false];exact FS
 refine _d F.slot_list_extend ⟨_,e,rfl⟩ F.entry_list_extend (F.args_list_extend_2 _ _)
  (AutoSeq1.list_extend_list_list_0 l ao.toArray n b oV.toArray n2 E4 (by rw [Fr]; omega) (by omega)) ⟨e,e2,?_⟩
 refine ⟨.au,_,I.wH (its':=ao++oV) hH e (by simp) (r.append r2) ?_,rfl,q⟩;rw [Da];omega
def JM:V->List V->Hp->VK->Prop:=fun x vs H Q=>∃ l xs y,x=.ref l/\vs=[]/\H l=some (.lst xs)/\xs[xs.length - 1]?=some y/\Q y (upd H l (.lst xs.dropLast))
def Uc:wg X "list.pop" JM:=by
 intro pins s σ H x vs v us Q I rx rv h;obtain ⟨l,xs,y,rfl,rfl,hH,hy,q⟩:=h;cases rx;have D8:=rv.zero;subst D8;obtain ⟨z,ao,n,r,hl,e⟩:=I.mU hH;obtain ⟨u,hu,ru⟩:=r.get hy;have hy':ao.toArray[ao.toArray.size - 1]?=some u:=by
  show ao.toArray[ao.length - 1]?=some u;rw [<- ZB,<- hl];exact hu
 refine _d F.slot_list_pop ⟨_,e,rfl⟩ F.entry_list_pop (F.args_list_pop_1 _) (MeetsSeq.list_pop_last l ao.toArray n u hy' (by rw [Fr]; omega)) ⟨e,?_⟩;refine ⟨y,_,I.wH (its':=ao.dropLast) hH e ?_ r.dropLast ?_,ru,q⟩
 ·show ao.toArray.eraseIdxIfInBounds (ao.toArray.size - 1)=ao.dropLast.toArray;rw [Fr,List.eraseIdxIfInBounds_toArray,YS]
 ·rw [List.length_dropLast];omega
def Ic:V->List V->Hp->VK->Prop:=fun x vs H Q=>∃ l xs,x=.ref l/\vs=[]/\H l=some (.lst xs)/\Q .au (upd H l (.lst []))
def XW:wg X "list.clear" Ic:=by
 intro pins s σ H x vs v us Q I rx rv h;obtain ⟨l,xs,rfl,rfl,hH,q⟩:=h;cases rx;have D8:=rv.zero;subst D8;obtain ⟨z,ao,n,r,hl,e⟩:=I.mU hH;refine _d F.slot_list_clear ⟨_,e,rfl⟩ F.entry_list_clear (F.args_list_clear_1 _) (AutoSeq1.list_clear_list_0 l ao.toArray n (by rw [Fr]; omega)) ⟨e,?_⟩;exact ⟨.au,_,I.wH (its':=[]) (ys:=[]) hH e rfl .nil (GT _),rfl,q⟩
def Z5:R2:=fun x y H Q=>∃ l b xs zs,x=.ref l/\y=.ref b/\H l=some (.lst xs)/\H b=some (.lst zs)/\xs.length+zs.length<=sizeLine/\∀ p,H p=none->Q (.ref p) (upd H p (.lst (xs++zs)))
def Za:aY X (binaryOp .Add) Z5:=by
 intro pins s σ H x y v u Q I rx ry h;obtain ⟨l,b,xs,zs,rfl,rfl,hH,hB,hz,q⟩:=h;cases rx;cases ry;obtain ⟨z,ao,n,r,hl,e⟩:=I.mU hH;obtain ⟨z2,oV,n2,r2,cy,e2⟩:=I.mU hB;refine PySem.P.add_list e e2 ?_ (by rw [Fr,Fr]; omega);have ea:ao.toArray++oV.toArray=(ao++oV).toArray:=by simp
 rw [ea];exact ⟨.ref _,_,I.GL (t':=s.toks) (r.append r2) (by rw [Da]; omega),rfl,q _ I.fresh⟩
def TJ:R2:=fun x y H Q=>∃ l k xs,x=.ref l/\y=.int k/\H l=some (.lst xs)/\-(2 ^ 63)<=k/\k < 2 ^ 63/\xs.length * k.toNat<=sizeLine /\
 ∀ p,H p=none->Q (.ref p) (upd H p (.lst (List.replicate k.toNat xs).flatten))
def len_rep {α:Type} (xs:List α) (k:Nat):(List.replicate k xs).flatten.length=k * xs.length:=by
 induction k with
 | zero=>simp
 | succ k ih=>rw [_j,Ja5,Da,ih,Nat.succ_mul,Nat.add_comm]
def aaE:aY X (binaryOp .Mult) TJ:=by
 intro pins s σ H x y v u Q I rx ry h;obtain ⟨l,k,xs,rfl,rfl,hH,h1,h2,hz,q⟩:=h;cases rx;obtain ⟨t,rfl⟩:=ry;obtain ⟨z,ao,n,r,hl,e⟩:=I.mU hH;have hlen:ao.toArray.size * k.toNat<=sizeLine:=by rw [Fr,<- hl]; exact hz
 have hcap:¬ ao.toArray.size * k.toNat > (2 ^ 63 - 1) / 8:=by
  have:(sizeLine:Nat)<=(2 ^ 63 - 1) / 8:=by decide
  omega
 have FK:¬ (!Builtin.List.listFitsIndex k)=true:=by
  rw [fitsIndex_both h1 h2];exact FS
 have E4:¬ Builtin.List.listTooLong (ao.toArray.size * k.toNat)=true:=by
  rw [G4 hlen];exact FS
 have hnew:List.foldl (fun x1 x2=>x1++x2) #[] (List.replicate (if ao.toArray.isEmpty=true then 0 else k.toNat) ao.toArray)=(List.replicate k.toNat ao).flatten.toArray:=by
  have f0:∀ m:Nat,List.foldl (fun x1 x2=>x1++x2) #[] (List.replicate m ao.toArray)=(List.replicate m ao).flatten.toArray:=fun m=>by
   have:=foldl_rep ao m [];rw [List.nil_append] at this;exact this
  rw [f0];cases ao with
  | nil=>simp
  | cons a r'=>rw [Id (by simp)]
 refine wpAny_binaryOp_repeat_ref (T := "list") (U := "int") (by decide) ⟨_,e,rfl⟩ (fun s'=>typeIs_int s' k t) noFill_list_mul F.fills_int_mul F.slot_int_rmul repeat_list F.slot_int_index.lookup
  (_d F.slot_int_rmul (typeIs_int s k t) F.entry_int_rmul (F.args_int_rmul_2 _ _) (int___rmul___int_list k t l ao.toArray n)
   ⟨e,rfl,⟨_,e,rfl⟩,_d F.slot_list_mul ⟨_,e,rfl⟩ F.entry_list_mul (F.args_list_mul_2 _ _) (AutoListH.list___mul___list_int_3 l ao.toArray n k t FK hcap E4) ⟨e,?_⟩⟩)
 rw [hnew];exact ⟨.ref _,_,I.GL (t':=s.toks) (r.rep k.toNat) (by rw [len_rep,Nat.mul_comm]; exact hz),rfl,q _ I.fresh⟩
end
section
variable {prog:Program} {w:World} {A:Around} {E:Value->Shared->Prop} {s:Shared}
end
section
variable {X:Cx}
end
section
variable {κ:Type} [DecidableEq κ]
def aM (kvs:List (κ×V)) (k:κ):Option V:=(kvs.find? fun kv=>decide (kv.1=k)).map (·.2)
def putK (kvs:List (κ×V)) (k:κ) (v:V):List (κ×V) :=
 if (kvs.any fun kv=>decide (kv.1=k))=true then kvs.map (fun kv=>if kv.1=k then (kv.1,v) else kv) else kvs++[(k,v)]
def ox {p:κ×V} {r:List (κ×V)} {k:κ} (e:p.1=k):aM (p::r) k=some p.2:=by simp [aM,_u,e]
def nG {p:κ×V} {r:List (κ×V)} {k:κ} (e:¬ p.1=k):aM (p::r) k=aM r k:=by simp [aM,_u,e]
def Dk (k:κ):∀ kvs:List (κ×V),(kvs.any fun kv=>decide (kv.1=k))=(aM kvs k).isSome
 | []=>rfl
 | p::r=>by
  rw [_n];by_cases e:p.1=k
  ·simp only [ox e,Go e,Bool.true_or,Option.isSome_some]
  ·rw [nG e,Ch e,Bool.false_or]; exact Dk k r
def Kz (k j:κ) (y:V):∀ kvs:List (κ×V),aM kvs k=none->aM (kvs++[(k,y)]) j=if j=k then some y else aM kvs j
 | [],_=>by
  by_cases e:k=j
  ·rw [IN e.symm]; exact ox (p:=(k,y)) e
  ·rw [Id (fun z=>e z.symm)]; exact nG (p:=(k,y)) e
 | p::r,hn=>by
  rw [List.cons_append];have hk:¬ p.1=k:=fun z=>by rw [ox z] at hn; cases hn
  rw [nG hk] at hn;have ih:=Kz k j y r hn;by_cases e:p.1=j
  ·rw [ox e,ox e,Id (fun z=>hk (e.trans z))]
  ·rw [nG e,nG e,ih]
def LD (kvs:List (κ×V)) (k:κ) (v:V):(putK kvs k v).length<=kvs.length+1:=by
 unfold putK;split
 ·rw [At]; omega
 ·rw [Da,Os,_M]; omega
def eE.rh {o:Option V} {u:Option Value} (r:eE o u):o.isSome=u.isSome:=by
 cases o with
 | none=>cases u with
  | none=>rfl
  | some _=>exact (show False from r).elim
 | some _=>cases u with
  | none=>exact (show False from r).elim
  | some _=>rfl
def eE.getD {o:Option V} {u:Option Value} {d:V} {d':Value} (r:eE o u) (rd:RelV d d'):RelV (o.getD d) (u.getD d'):=by
 cases o with
 | none=>cases u with
  | none=>exact rd
  | some _=>exact (show False from r).elim
 | some _=>cases u with
  | none=>exact (show False from r).elim
  | some _=>exact r
def KV.val {kvs:List (κ×V)} {vs:List (κ×Value)} (r:KV kvs vs) (k:κ):eE (aM kvs k) (valueAt vs k):=by
 unfold KV at r
 induction r with
 | nil=>exact True.intro
 | @cons p q ps qs h t ih =>
  obtain ⟨h1,h2⟩:=h;by_cases e:p.1=k
  ·have e':q.1=k:=h1.symm.trans e;have b:valueAt (q::qs) k=some q.2:=by simp [valueAt,_u,e']
   rw [ox e,b]; exact h2
  ·have e':¬ q.1=k:=fun z=>e (h1.trans z);have b:valueAt (q::qs) k=valueAt qs k:=by simp [valueAt,_u,e']
   rw [nG e,b]; exact ih
def KV.any {kvs:List (κ×V)} {vs:List (κ×Value)} (r:KV kvs vs) (k:κ):(kvs.any fun kv=>decide (kv.1=k))=vs.any fun kv=>decide (kv.1=k):=by
 unfold KV at r
 induction r with
 | nil=>rfl
 | cons h t ih=>rw [_n,_n,ih,h.1]
def KV.C7 {kvs:List (κ×V)} {vs:List (κ×Value)} (r:KV kvs vs) (k:κ) {y:V} {u:Value} (ry:RelV y u) :
  KV (kvs.map fun kv=>if kv.1=k then (kv.1,y) else kv) (vs.map fun kv=>if kv.1=k then (kv.1,u) else kv):=by
 unfold KV at r ⊢
 induction r with
 | nil=>exact .nil
 | @cons p q ps qs h t ih =>
  rw [Ix,Ix];refine .cons ?_ ih;obtain ⟨h1,h2⟩:=h;by_cases e:p.1=k
  ·rw [IN e,IN (h1.symm.trans e)]; exact ⟨h1,ry⟩
  ·rw [Id e,Id (fun z=>e (h1.trans z))]; exact ⟨h1,h2⟩
def KV.put {kvs:List (κ×V)} {vs:List (κ×Value)} (r:KV kvs vs) (k:κ) {y:V} {u:Value} (ry:RelV y u):KV (putK kvs k y) (stored vs k u):=by
 unfold putK stored;rw [r.any k];by_cases e:(vs.any fun kv=>decide (kv.1=k))=true
 ·rw [IN e,IN e]; exact r.C7 k ry
 ·rw [Id e,Id e]; exact Paired.snoc r ⟨rfl,ry⟩
def KV.keys {kvs:List (κ×V)} {vs:List (κ×Value)} (r:KV kvs vs):kvs.map (·.1)=vs.map (·.1):=by
 unfold KV at r
 induction r with
 | nil=>rfl
 | cons h t ih=>rw [Ix,Ix,ih,h.1]
def KV.length {kvs:List (κ×V)} {vs:List (κ×Value)} (r:KV kvs vs):kvs.length=vs.length:=Paired.length r
end
def pB {P:Program} {w:World} {k:Key} {u:Value} (r:RelV (kV k) u):(eI P w).is k u=true:=by
 cases k with
 | inl i=>obtain ⟨t,e⟩:=(show ∃ t,u=Value.int i t from r); subst e; exact QX P w i t
 | inr x=>obtain ⟨t,e⟩:=(show ∃ t,u=Value.str x t from r); subst e; exact Ze P w x t
def JO {P:Program} {w:World}:∀ {ks:List Key} {us:List Value},Vals (ks.map kV) us->ItemsAre (eI P w) ks us
 | [],_,r=>by rw [WP] at r; cases r; exact .nil
 | k::ks,_,r=>by
  rw [Ix] at r;cases r with
  | cons h t=>exact .cons (pB h) (JO t)
abbrev KT (H:Hp):List (List Key×V)->List (List Key×Addr×Value)->Prop:=Paired fun p q=>p.1=q.1/\H q.2.1=some (.tup (p.1.map kV))/\RelV p.2 q.2.2
def KT.val {H:Hp} {kvs:List (List Key×V)} {xs:List (List Key×Addr×Value)} (r:KT H kvs xs) (k:List Key):eE (aM kvs k) ((atKey xs k).map (·.2)):=by
 induction r with
 | nil=>exact True.intro
 | @cons p q ps qs h t ih =>
  obtain ⟨h1,_,h2⟩:=h;by_cases e:p.1=k
  ·have e':q.1=k:=h1.symm.trans e;have b:atKey (q::qs) k=some q.2:=by simp [atKey,_u,e']
   rw [ox e,b]; exact h2
  ·have e':¬ q.1=k:=fun z=>e (h1.trans z);have b:atKey (q::qs) k=atKey qs k:=by simp [atKey,_u,e']
   rw [nG e,b]; exact ih
def KT.C7 {H:Hp} {kvs:List (List Key×V)} {xs:List (List Key×Addr×Value)} (r:KT H kvs xs) (k:List Key) {y:V} {u:Value} (ry:RelV y u) :
  KT H (kvs.map fun kv=>if kv.1=k then (kv.1,y) else kv) (xs.map (putAt k u)):=by
 induction r with
 | nil=>exact .nil
 | @cons p q ps qs h t ih =>
  rw [Ix,Ix];refine .cons ?_ ih;obtain ⟨h1,h2,h3⟩:=h;unfold putAt;by_cases e:p.1=k
  ·rw [IN e,IN (h1.symm.trans e)]; exact ⟨h1,h2,ry⟩
  ·rw [Id e,Id (fun z=>e (h1.trans z))]; exact ⟨h1,h2,h3⟩
def KT.put {H:Hp} {kvs:List (List Key×V)} {xs:List (List Key×Addr×Value)} (r:KT H kvs xs) (k:List Key) {b:Addr} {y:V} {u:Value} (hb:H b=some (.tup (k.map kV))) (ry:RelV y u) :
  KT H (putK kvs k y) (storedH xs k b u):=by
 have e:(kvs.any fun kv=>decide (kv.1=k))=(atKey xs k).isSome:=by
  rw [Dk,(r.val k).rh,Option.isSome_map]
 unfold putK storedH;rw [e];by_cases q:(atKey xs k).isSome=true
 ·rw [IN q,IN q]; exact r.C7 k ry
 ·rw [Id q,Id q]; exact Paired.snoc r ⟨rfl,hb,ry⟩
def KT.keeps {H H':Hp} {kvs:List (List Key×V)} {xs:List (List Key×Addr×Value)} (r:KT H kvs xs) (ht:∀ b ys,H b=some (.tup ys)->H' b=some (.tup ys)):KT H' kvs xs :=
 Paired.zw r fun _ _ z=>⟨z.1,ht _ _ z.2.1,z.2.2⟩
section
variable {P:Program} {w:World} {H:Hp} {h:Heap} {a:Addr}
def MH {u:HO} (ok:bU P w H h) (e:Rd H a u):bI P w H h a u:=e.ok ok
def nO {kvs:List (Key×V)} (ok:bU P w H h) (e:Rd H a (.dK kvs)):kvs.length<=sizeLine/\(a == sysModules)=false/\∃ vs,KV kvs vs/\h.DictOf (eI P w) a vs :=
 show bI P w H h a (.dK kvs) from MH ok e
def aal {kvs:List (Key×V)} (ok:bU P w H h) (e:H a=some (.dK kvs)):kvs.length<=sizeLine/\(a == sysModules)=false/\∃ vs,KV kvs vs/\h.DictOf (eI P w) a vs:=nO ok (.inl e)
def pJ {ks:List Key} (ok:bU P w H h) (e:H a=some (.tup (ks.map kV))):(tupleKind (eI P w)).is h ks a:=by
 obtain ⟨_,ao,r,o,h1,h2,n,h3⟩:=(show bI P w H h a (.tup (ks.map kV)) from ok a _ e);exact ⟨o,ao.toArray,n,h1,h2,h3.1,by simpa using JO r⟩
def nW {kvs:List (List Key×V)} (ok:bU P w H h) (e:Rd H a (.dT kvs)):kvs.length<=sizeLine/\(a == sysModules)=false /\
  ∃ xs,KT H kvs xs/\h.DictOfH (tupleKind (eI P w)) a xs:=by
 obtain ⟨z,y,xs,r,o,es,ep,h1,h2,h3,h4,h5⟩:=(show bI P w H h a (.dT kvs) from MH ok e);refine ⟨z,y,xs,r,o,es,ep,h1,h2,h3,h4,fun x hx=>?_,h5⟩;have all:∀ {l:List (List Key×V)} {m:List (List Key×Addr×Value)},KT H l m->∀ x∈m,(tupleKind (eI P w)).is h x.1 x.2.1:=by
  intro l m q
  induction q with
  | nil=>intro x hx; exact nomatch hx
  | @cons p q ps qs hq t ih =>
   intro x hx;rcases AT.mp hx with e | hx
   ·subst e;exact pJ ok (by rw [<- hq.1]; exact hq.2.1)
   ·exact ih x hx
 exact all r x hx
def YK {kvs:List (List Key×V)} (ok:bU P w H h) (e:H a=some (.dT kvs)):kvs.length<=sizeLine/\(a == sysModules)=false /\
  ∃ xs,KT H kvs xs/\h.DictOfH (tupleKind (eI P w)) a xs:=nW ok (.inl e)
end
def eh (H:Hp) (a:Addr) (y:V) (r:Option V):Prop :=
 (∃ kvs k,Rd H a (.dK kvs)/\y=kV k/\r=aM kvs k)\/∃ kvs k b,Rd H a (.dT kvs)/\y=.ref b/\H b=some (.tup (k.map kV))/\r=aM kvs k
def iL (H:Hp) (a:Addr) (y v:V) (H':Hp):Prop :=
 (∃ kvs k,H a=some (.dK kvs)/\y=kV k/\kvs.length < sizeLine/\H'=upd H a (.dK (putK kvs k v))) \/
 ∃ kvs k b,H a=some (.dT kvs)/\y=.ref b/\H b=some (.tup (k.map kV))/\kvs.length < sizeLine/\H'=upd H a (.dT (putK kvs k v))
def eh.k {H:Hp} {a:Addr} {kvs:List (Key×V)} {k:Key} (e:H a=some (.dK kvs)):eh H a (kV k) (aM kvs k):=.inl ⟨kvs,k,.inl e,rfl,rfl⟩
def iL.k {H:Hp} {a:Addr} {kvs:List (Key×V)} {k:Key} {v:V} (e:H a=some (.dK kvs)) (hl:kvs.length < sizeLine):iL H a (kV k) v (upd H a (.dK (putK kvs k v))):=.inl ⟨kvs,k,e,rfl,hl,rfl⟩
def iL.t {H:Hp} {a b:Addr} {kvs:List (List Key×V)} {k:List Key} {v:V} (e:H a=some (.dT kvs)) (eb:H b=some (.tup (k.map kV))) (hl:kvs.length < sizeLine) :
  iL H a (.ref b) v (upd H a (.dT (putK kvs k v))):=.inr ⟨kvs,k,b,e,rfl,eb,hl,rfl⟩
section
variable {X:Cx} {pins:List (Addr×Obj)} {σ:St} {H:Hp} {s:Shared} {a:Addr} {y v:V} {u r:Value} {o:Option V} {A:Around} {E:Value->Shared->Prop}
def Inv.big (I:Inv X pins σ H s):sysModules < s.heap.objs.size:=by
 have h:mainGlobals < s.heap.objs.size:=(I.mod.glob.keeps I.bk).lt;exact Nat.lt_trans (by decide) h
def Rl {Q:Value->Shared->Prop} (hu:A.units+1 < cLine) (I:Inv X pins σ H s) (g:eh H a y (some v)) (ry:RelV y u) (h:∀ w' s',Inv X pins σ H s'->RelV v w'->Q w' s') :
  wpAny (model X.prog X.w) A (getItem (.ref a) u) Q E s:=by
 rcases g with ⟨kvs,k,e,ey,l⟩ | ⟨kvs,k,b,e,ey,eb,l⟩
 ·subst ey;obtain ⟨z,hd,vs,rel,dd⟩:=nO I.aA e;obtain ⟨w',hw,rw'⟩:=eE.some_of (v:=v) (o:=valueAt vs k) (by rw [l]; exact rel.val k);exact wpAny_getItem_of (pB ry) dd.mapOf hw (h w' _ (I.tok _) rw')
 ·subst ey;cases (show u=Value.ref b from ry);obtain ⟨z,hd,xs,rel,dd⟩:=nW I.aA e;obtain ⟨w',hw,rw'⟩:=eE.some_of (v:=v) (o:=(atKey xs k).map (·.2)) (by rw [l]; exact rel.val k);obtain ⟨p,hp,fK⟩:=Ja6.mp hw;refine wpAny_getItem_heap (_J hu) (pJ I.aA eb) dd hp ?_;rw [fK];exact h w' _ (I.tok _) rw'
def Rv {Q:Value->Shared->Prop} (hu:A.units+1 < cLine) (I:Inv X pins σ H s) (g:eh H a y o) (ry:RelV y u) (h:∀ s',Inv X pins σ H s'->Q (.bool o.isSome) s') :
  wpAny (model X.prog X.w) A (compareOp .In u (.ref a)) Q E s:=by
 rcases g with ⟨kvs,k,e,ey,l⟩ | ⟨kvs,k,b,e,ey,eb,l⟩
 ·subst ey;obtain ⟨z,hd,vs,rel,dd⟩:=nO I.aA e;refine wpAny_in_of (pB ry) hd dd.mapOf ?_;rw [<- (rel.val k).rh,<- l];exact h _ (I.tok _)
 ·subst ey;cases (show u=Value.ref b from ry);obtain ⟨z,hd,xs,rel,dd⟩:=nW I.aA e;refine wpAny_in_heap (_J hu) (pJ I.aA eb) hd dd ?_;have q:=(rel.val k).rh;rw [Option.isSome_map] at q;rw [<- q,<- l];exact h _ (I.tok _)
def W5 {Q:Value->Shared->Prop} (hu:A.units+1 < cLine) (I:Inv X pins σ H s) (g:eh H a y o) (ry:RelV y u) (h:∀ s',Inv X pins σ H s'->Q (.bool (!o.isSome)) s') :
  wpAny (model X.prog X.w) A (compareOp .NotIn u (.ref a)) Q E s:=by
 rcases g with ⟨kvs,k,e,ey,l⟩ | ⟨kvs,k,b,e,ey,eb,l⟩
 ·subst ey;obtain ⟨z,hd,vs,rel,dd⟩:=nO I.aA e;refine wpAny_notIn_of (pB ry) hd dd.mapOf ?_;rw [<- (rel.val k).rh,<- l];exact h _ (I.tok _)
 ·subst ey;cases (show u=Value.ref b from ry);obtain ⟨z,hd,xs,rel,dd⟩:=nW I.aA e;refine wpAny_notIn_heap (_J hu) (pJ I.aA eb) hd dd ?_;have q:=(rel.val k).rh;rw [Option.isSome_map] at q;rw [<- q,<- l];exact h _ (I.tok _)
def GV {h':Heap} {t':Nat} {ob:HO} (I:Inv X pins σ H s) (mu:tD (H a)) (hs:Heap.SameBut a s.heap h') (he:∃ q,h'.get? a=some q) (new:bI X.prog X.w (upd H a ob) h' a ob) :
  Inv X pins σ (upd H a ob) { s with heap:=h',toks:=t' } :=
 I.write (x:=a) (e:=a) mu (.inl rfl) (fun b q hb z=>(hs.2 b hb).trans z) he new
def Yv {P:Program} {w:World} {H':Hp} {h':Heap} {kvs:List (Key×V)} {vs:List (Key×Value)} (z:kvs.length<=sizeLine) (hd:(a == sysModules)=false) (rel:KV kvs vs) (dd:h'.DictOf (eI P w) a vs) :
  bI P w H' h' a (.dK kvs):=⟨z,hd,vs,rel,dd⟩
def VM {H':Hp} {Q:Unit->Shared->Prop} (hu:A.units+1 < cLine) (I:Inv X pins σ H s) (g:iL H a y v H') (ry:RelV y u) (rv:RelV v r) (h:∀ s',Inv X pins σ H' s'->Q () s') :
  wpAny (model X.prog X.w) A (setItem (.ref a) u r) Q E s:=by
 rcases g with ⟨kvs,k,e,ey,l,eH⟩ | ⟨kvs,k,b,e,ey,eb,l,eH⟩
 ·subst ey eH;obtain ⟨z,hd,vs,rel,dd⟩:=aal I.aA e;have hz:vs.length<=sizeLine:=by rw [<- rel.length]; exact z
  have hl:(putK kvs k v).length<=sizeLine:=by have:=LD kvs k v; omega
  refine wpAny_setItem_pairs (hsz:=hz) (pB ry) dd fun h' dd' hs=>h _ ?_;have he:∃ q,h'.get? a=some q:=let ⟨q,_,_,hq,_⟩:=dd'; ⟨q,hq⟩
  exact GV I (by rw [e]; exact True.intro) hs he (Yv hl hd (rel.put k rv) dd')
 ·subst ey eH;cases (show u=Value.ref b from ry);obtain ⟨z,hd,xs,rel,dd⟩:=YK I.aA e;have hz:xs.length<=sizeLine:=by rw [<- Paired.length rel]; exact z
  have hl:(putK kvs k v).length<=sizeLine:=by have:=LD kvs k v; omega
  refine wpAny_setItem_heap (hsz:=hz) (_J hu) (pJ I.aA eb) dd fun h' dd' hs=>h _ ?_;obtain ⟨q,es,ep,hq,h2,h3,h4,_,h5⟩:=dd';refine GV I (by rw [e]; exact True.intro) hs ⟨q,hq⟩ ⟨hl,hd,_,(rel.put k eb rv).keeps fun c ys ec=>?_,q,es,ep,hq,h2,h3,h4,h5⟩;rw [aj (PQ ec e (fun z=>nomatch z))];exact ec
end
section
variable {X:Cx} {pins:List (Addr×Obj)} {σ:St} {H:Hp} {s:Shared} {a:Addr} {kvs:List (Key×V)} {k:Key} {u:Value} {A:Around} {E:Value->Shared->Prop}
end
def Ac (i:Expr):Prop:=∀ ov iv,subscripted i false ov iv=operate [ov,iv] (getItem ov iv)
def Sx {prog:Program} {w:World} {A:Around} {E:Value->Shared->Prop} {s:Shared} {env:Env} {value slice:Expr} {pos:Pos} {T id:String} {Q:Value->Shared->Prop}
  (hl:typeLookup (.type T) "__getitem__" = pure (some (.builtin id))) (hs:Ac slice)
  (h:wpAny (model prog w) A (eval value env) (fun o s₁=>wpAny (model prog w) A (eval slice env) (fun i s₂=>s₂.TypeIs o T/\wpAny (model prog w) A (getItem o i) Q E s₂) E s₁) E s) :
  wpAny (model prog w) A (eval (.Subscript value slice pos) env) Q E s:=by
 refine Subscript_ (Ty h (fun o s₁ h₁=>Ty h₁ (fun i s₂ h₂=>?_) fun _ _ x=>x) fun _ _ x=>x);obtain ⟨hT,h₂⟩:=h₂;unfold subscriptTail;refine wT ?_;rw [getitemInPython_of_ne hT.not_modules];refine wT (wpAny_specialOf hT hl ?_);have fin:wpAny (model prog w) A (subscripted slice false o i) (fun r s₃=>wpAny (model prog w) A (letTemporaryGo value o r >>= fun _=>pure r) Q E s₃) E s₂:=by
  rw [hs o i];exact wpAny_operating (Ty h₂ (fun r s₃ h₃=>wT (wpAny_letTemporaryGo (Cl h₃))) fun _ _ x=>x)
 first
  | exact Cl (wT fin)
  | exact wT (Cl (wT fin))
  | exact wT fin
def Vl {X:Cx} {pins:List (Addr×Obj)} {σ:St} {H:Hp} {s:Shared} {a:Addr} {y:V} {o:Option V} (I:Inv X pins σ H s) (g:eh H a y o):s.TypeIs (.ref a) "dict" := by
 rcases g with ⟨kvs,k,e,_,_⟩ | ⟨kvs,k,b,e,_,_,_⟩
 ·obtain ⟨_,_,vs,_,dd⟩:=nO I.aA e;exact dd.typeIs
 ·obtain ⟨_,_,xs,_,dd⟩:=nW I.aA e;exact dd.typeIs
def yK (td ty:TE):TE:=fun σ H Q=>td σ H fun x H1=>ty σ H1 fun y H2=>∃ a v,x=.ref a/\eh H2 a y (some v)/\Q v H2
def yZ (ty td:TE):TE:=fun σ H Q=>ty σ H fun y H1=>td σ H1 fun x H2=>∃ a o,x=.ref a/\eh H2 a y o/\Q (.bl o.isSome) H2
def zp (ty td:TE):TE:=fun σ H Q=>ty σ H fun y H1=>td σ H1 fun x H2=>∃ a o,x=.ref a/\eh H2 a y o/\Q (.bl (!o.isSome)) H2
def zA (td ty tv:TE):TS:=fun D σ H=>tv σ H fun v H1=>td σ H1 fun x H2=>ty σ H2 fun y H3=>∃ a H4,x=.ref a/\iL H3 a y v H4/\D.nx σ H4
section
variable {X:Cx} {o i e value:Expr} {pos pos' tpos:Pos} {td ty tv:TE}
def abe (hu:X.A.units+1 < cLine) (ho:PE X o td) (hi:PE X i ty) (hs:Ac i):PE X (.Subscript o i pos) (yK td ty):=by
 intro pins s σ H Q I h;refine Sx PySem.F.slot_dict_getitem.lookup hs (aC (ho pins s σ H _ I h) fun u s1 ⟨x,H1,I1,rx,q1⟩=>aC (hi pins s1 σ H1 _ I1 q1) fun iv s2 ⟨y,H2,I2,ry,a,v,ex,g,q2⟩=>?_);subst ex;obtain rfl:u=Value.ref a:=rx;exact ⟨Vl I2 g,Rl hu I2 g ry fun w' s3 I3 rw'=>⟨v,H2,I3,rw',q2⟩⟩
def Tv (hu:X.A.units+1 < cLine) (hi:PE X i ty) (ho:PE X o td):PC X .In i o (yZ ty td):=by
 intro pins s σ H Q I h;refine aC (hi pins s σ H _ I h) fun iv s1 ⟨y,H1,I1,ry,q1⟩=>aC (ho pins s1 σ H1 _ I1 q1) fun u s2 ⟨x,H2,I2,rx,a,ov,ex,g,q2⟩=>?_;subst ex;obtain rfl:u=Value.ref a:=rx;exact Rv hu I2 g ry fun s3 I3=>⟨.bl ov.isSome,H2,I3,rfl,q2⟩
def Zf (hu:X.A.units+1 < cLine) (hi:PE X i ty) (ho:PE X o td):PC X .NotIn i o (zp ty td):=by
 intro pins s σ H Q I h;refine aC (hi pins s σ H _ I h) fun iv s1 ⟨y,H1,I1,ry,q1⟩=>aC (ho pins s1 σ H1 _ I1 q1) fun u s2 ⟨x,H2,I2,rx,a,ov,ex,g,q2⟩=>?_;subst ex;obtain rfl:u=Value.ref a:=rx;exact W5 hu I2 g ry fun s3 I3=>⟨.bl (!ov.isSome),H2,I3,rfl,q2⟩
def UT (hu:X.A.units+1 < cLine) (ho:PE X o td) (hi:PE X i ty) (hv:PE X value tv) (hs:swapsWith value (some (.Subscript o i pos')) pos.line X.env=pure false) :
  PS X (.Assign [.Subscript o i pos'] value pos) (zA td ty tv):=by
 intro pins s σ H D I h;refine wpAny_Assign_Subscript (aC (hv pins s σ H _ I h) fun r s1 ⟨v,H1,I1,rv,q1⟩=>aC (ho pins s1 σ H1 _ I1 q1) fun u s2 ⟨x,H2,I2,rx,q2⟩=>aC (hi pins s2 σ H2 _ I2 q2) fun iv s3 ⟨y,H3,I3,ry,a,H4,ex,g,q3⟩=>?_) hs;subst ex;obtain rfl:u=Value.ref a:=rx;exact VM hu I3 g ry rv fun s4 I4=>⟨σ,H4,I4,q3⟩
end
def O9 {P:Program} {w:World} {H:Hp} (h:Heap) (hb:sysModules < h.objs.size):bI P w H (h.push { cls:=.type "dict",data:=.dict #[] }) h.objs.size (.dK []) :=
 ⟨GT _,On.mpr (Fa (GE hb)),[],.nil,Heap.DictOf.new h⟩
def ZN {P:Program} {w:World} {H:Hp} (h:Heap) (hb:sysModules < h.objs.size):bI P w H (h.push { cls:=.type "dict",data:=.dict #[] }) h.objs.size (.dT []) :=
 ⟨GT _,On.mpr (Fa (GE hb)),[],.nil,_,#[],0,FM _ rfl,⟨rfl,rfl,rfl⟩,rfl,rfl,Ja7⟩
def za:TE:=fun _ H Q=>∀ p,H p=none->Q (.ref p) (upd H p (.dK []))
def DT:TE:=fun _ H Q=>∀ p,H p=none->Q (.ref p) (upd H p (.dT []))
section
variable {X:Cx} {pos:Pos}
def Ut:PE X (.Dict [] [] pos) za:=fun pins s σ H Q I h =>
 wpAny_Dict_empty ⟨.ref s.heap.objs.size,_,I.laid (a:=s.heap.objs.size) (o:=.dK []) (t':=s.toks) (fun _ _ q=>xz _ q) (Ev _) (O9 s.heap I.big),rfl,h _ (I.aA.fresh (Ev _))⟩
def Qh:PE X (.Dict [] [] pos) DT:=fun pins s σ H Q I h =>
 wpAny_Dict_empty ⟨.ref s.heap.objs.size,_,I.laid (a:=s.heap.objs.size) (o:=.dT []) (t':=s.toks) (fun _ _ q=>xz _ q) (Ev _) (ZN s.heap I.big),rfl,h _ (I.aA.fresh (Ev _))⟩
end
def Mm:List (TE×TE)->St->Hp->(List (V×V)->Hp->Prop)->Prop
 | [],_,H,Q=>Q [] H
 | (tk,tv)::r,σ,H,Q=>tk σ H fun x H1=>tv σ H1 fun y H2=>Mm r σ H2 fun ps H3=>Q ((x,y)::ps) H3
abbrev VV:List (V×V)->List (Value×Value)->Prop:=Paired fun p q=>RelV p.1 q.1/\RelV p.2 q.2
def Xi (X:Cx) (pos:Pos) (keys:List (Option Expr)) (values:List Expr) (trs:List (TE×TE)):Prop :=
 ∀ (pins:List (Addr×Obj)) (s:Shared) (σ:St) (H:Hp) (Q:List (V×V)->Hp->Prop),Inv X pins σ H s->Mm trs σ H Q ->
  wpAny (model X.prog X.w) X.A (evalPairs (pairTrees keys values X.env pos)) (fun vs s'=>∃ ps H',Inv X pins σ H' s'/\VV ps vs/\Q ps H') X.xe s
structure M1 (X:Cx) (o:Expr) (m:Str) (apos:Pos) (e:Expr) (bA:Pos):Prop where
 base:attributeBase o m X.env (eval o X.env)=eval o X.env
 HH:((backTo bA (starEach [e] X.env)).all (fun x=>!x.1) && (backToKw bA (keywordEach [] X.env)).all (fun x=>x.1.isSome)
  && decide (([e]:List Expr).length+([]:List Keyword).length+(if ([]:List Keyword).isEmpty then 0 else 1) < 30))=true
 line:(apos.endLine == bA.line)=true
 trees:backTo bA (starEach [e] X.env)=[(false,eval e X.env)]
structure M2 (X:Cx) (o:Expr) (m:Str) (apos:Pos) (e f:Expr) (bA:Pos):Prop where
 base:attributeBase o m X.env (eval o X.env)=eval o X.env
 HH:((backTo bA (starEach [e,f] X.env)).all (fun x=>!x.1) && (backToKw bA (keywordEach [] X.env)).all (fun x=>x.1.isSome)
  && decide (([e,f]:List Expr).length+([]:List Keyword).length+(if ([]:List Keyword).isEmpty then 0 else 1) < 30))=true
 line:(apos.endLine == bA.line)=true
 trees:backTo bA (starEach [e,f] X.env)=[(false,eval e X.env),(false,eval f X.env)]
def Ky (H:Hp) (a:Addr):Prop:=(∃ kvs,Rd H a (.dK kvs))\/∃ kvs,Rd H a (.dT kvs)
def YN {X:Cx} {pins:List (Addr×Obj)} {σ:St} {H:Hp} {s:Shared} {a:Addr} (I:Inv X pins σ H s) (d:Ky H a) :
  s.TypeIs (.ref a) "dict" /\ (∀ b,Value.ref a=.ref b->∃ ob,s.heap.get? b=some ob/\ob.dict=none)/\(a == sysModules)=false:=by
 rcases d with ⟨kvs,e⟩ | ⟨kvs,e⟩
 ·obtain ⟨_,hd,vs,_,dd⟩:=nO I.aA e;refine ⟨dd.typeIs,fun b q=>?_,hd⟩;cases q;obtain ⟨ob,_,_,h1,h2,_⟩:=dd;exact ⟨ob,h1,h2.2.1⟩
 ·obtain ⟨_,hd,xs,_,dd⟩:=nW I.aA e;refine ⟨dd.typeIs,fun b q=>?_,hd⟩;cases q;obtain ⟨ob,_,_,h1,h2,_⟩:=dd;exact ⟨ob,h1,h2.2.1⟩
section
variable {X:Cx} {pins:List (Addr×Obj)} {σ:St} {H:Hp} {s:Shared} {a:Addr} {y d:V} {u r:Value} {o:Option V} {A:Around} {E:Value->Shared->Prop}
def UI {Q:Value->Shared->Prop} (hu:A.units+1 < cLine) (I:Inv X pins σ H s) (g:eh H a y o) (ry:RelV y u) (h:∀ w' s',Inv X pins σ H s'->RelV (o.getD .au) w'->Q w' s') :
  wpAny (model X.prog X.w) A (call (.builtin "dict.get") [.ref a,u]) Q E s:=by
 rcases g with ⟨kvs,k,e,ey,l⟩ | ⟨kvs,k,b,e,ey,eb,l⟩
 ·subst ey;obtain ⟨z,hd,vs,rel,dd⟩:=nO I.aA e;refine call_meetsIn Jac dd.typeIs PySem.F.entry_dict_get (PySem.F.args_dict_get_2 _ _) (meets_dict_get (eI X.prog X.w) a (pB ry) hd) ⟨_,dd.mapOf,h _ _ (I.tok _) ?_⟩;rw [l];exact (rel.val k).getD rfl
 ·subst ey;cases (show u=Value.ref b from ry);obtain ⟨z,hd,xs,rel,dd⟩:=nW I.aA e;refine call_meetsIn Jac dd.typeIs PySem.F.entry_dict_get (PySem.F.args_dict_get_2 _ _) (meetsH_dict_get (tupleKind (eI X.prog X.w)) a b hd) ⟨_J hu,k,xs,pJ I.aA eb,dd,h _ _ (I.tok _) ?_⟩;rw [l];exact (rel.val k).getD rfl
end
def Am (td ty:TE):TE:=fun σ H Q=>td σ H fun x H1=>∃ a,x=.ref a/\Ky H1 a/\ty σ H1 fun y H2=>∃ o,eh H2 a y o/\Q (o.getD .au) H2
section
variable {X:Cx} {o e f:Expr} {apos bA:Pos} {td ty tx:TE}
def OR (hu:X.A.units+1 < cLine) (ho:PE X o td) (he:PE X e ty) (m:M1 X o "get" apos e bA):PE X (.Call (.Attribute o "get" apos) [e] [] bA) (Am td ty):=by
 intro pins s σ H Q I h;refine wpAny_Call_method m.base m.HH m.line PySem.F.plainAttrs_dict Jac PySem.F.type_dict_get (aC (ho pins s σ H _ I h) fun u s1 ⟨x,H1,I1,rx,a,ex,d,q1⟩=>?_);subst ex;obtain rfl:u=Value.ref a:=rx;obtain ⟨t1,t2,_⟩:=YN I1 d;refine ⟨t1,t2,?_⟩;rw [m.trees];refine _K rfl (_X (_q (aC (he pins s1 σ H1 _ I1 q1) fun iv s2 ⟨y,H2,I2,ry,ov,g,q2⟩=>_w ?_)));exact UI hu I2 g ry fun w' s3 I3 rw'=>⟨_,H2,I3,rw',q2⟩
end
section
variable {X:Cx} {pins:List (Addr×Obj)} {σ:St} {H:Hp} {s:Shared} {a:Addr} {kvs:List (Key×V)} {A:Around} {E:Value->Shared->Prop}
end
section
variable {X:Cx} {pins:List (Addr×Obj)} {σ:St} {H:Hp} {s:Shared} {a:Addr} {y:V} {u:Value} {A:Around} {E:Value->Shared->Prop}
end
end L2
namespace Att
open PySem PySem.W PySem.Calls PyProof.Rows
def Yc {P:Params} {h:Heap}:∀ (ns:List Int) (vs:List Value),WellAll P h vs (ns.map WData.int)->IntsAre vs ns:=by
 intro ns
 induction ns with
 | nil =>
  intro vs w;rw [List.map_nil] at w;cases w;exact .nil
 | cons n ns ih =>
  intro vs w;rw [List.map_cons] at w;cases w with
  | cons a b =>
   cases a;exact .cons _ _ (ih _ b)
def Sl {l:OpenLaw} {n:Nat} (hn:l.most=some n) {P:Params} {h:Heap} {args:List WData} {vals:List Value}
  (lF:l.row.toRowW.claim.pre args=true) (qO:WellAll P h vals args) :
  ∃ a vs ns,vals=[Value.ref a]/\args=[WData.list (ns.map WData.int)]/\h.get? a=some { cls:=.type "list",data:=.seq vs.toArray }/\IntsAre vs ns/\ns.length<=n:=by
 have lN:WShape.hasAll [] args [.list .int]=true:=(pre_splitW lF).1;have hc:l.pre.holds [] { args:=args }=true:=(pre_splitW lF).2;obtain ⟨d,r,rfl,h1,h2⟩:=hasAllW_cons lN;obtain rfl:=hasAllW_nil h2;obtain ⟨xs,rfl,h3⟩:=hasW_list h1;obtain ⟨ns,rfl⟩:=items_int h3;have hlen:ns.length<=n:=by
  unfold OpenLaw.pre at hc;have h4:(WTm.not (.lt (.lit (.int (n:Int))) (.len (.arg 0)))).holds [] { args:=[.list (ns.map .int)] }=true:=by
   have h4:=(holds_andW hc).1;rw [hn] at h4;exact h4
  have h5:=condW_of h4 (w_not (w_lt w_lit (w_len_list (w_arg rfl))));rw [List.length_map] at h5;refine Nat.le_of_not_lt fun q=>?_;have q':(n:Int) < ((ns.length:Nat):Int):=by omega
  first
   | (rw [decide_eq_true q'] at h5; exact absurd h5 (by decide))
   | (simp at h5; omega)
 cases qO with
 | cons w1 w2 =>
  cases w2;cases w1 with
  | list ho ef=>exact ⟨_,_,ns,rfl,rfl,ho,Yc ns _ ef,hlen⟩
def QJ (l:OpenLaw) (args:List WData):l.row.toRowW.claim.post args (.bool true) args=true :=
 postW_of (r:=l.row.toRowW) (X:=(true == true))
  (show WShape.has [] (.bool true) .bool=true by first | rfl | decide | simp [WShape.has,WShape.arms,WShape.armsAll])
  (show (WTm.eq .res (.lit (.bool true))).value [] { args:=args,res:=some (.bool true),after:=args }=some (.bool (true == true)) from w_eq_bool (w_res rfl) w_lit) rfl
def RB {l:OpenLaw} {n:Nat} {q:Program} {loose:List Str} {XP:(Str->Option Value)->Heap->Prop} {YP:World->Heap->Prop} {d:DefRec}
  (hn:l.most=some n) (uE:d.params.defaults=[])
  (call:∀ (w:World) (s₀ s₁:Shared) (mg mb:Str->Option Value) (fa:Addr) (o:Obj) (pm cd doc:Value) (a:Addr) (vs:List Value) (ns:List Int),
   Ground q loose [] XP w s₀ mg mb s₁.heap->YP w s₁.heap ->
   s₁.heap.get? fa=some o->o.data=.func (docDef d.name d.params d.body d.scope pm cd doc)->s₁.heap.CodeRec cd d.name->mg d.name=some (.ref fa) ->
   s₁.heap.get? a=some { cls:=.type "list",data:=.seq vs.toArray }->IntsAre vs ns->ns.length<=n->s₁.gens=#[] ->
   codeAny (model l.prog w) callerA (.call (.ref fa) ⟨[.ref a],[]⟩) (fun r s'=>r=.ok (.ret (.bool true))/\OldK s₁.heap s'.heap/\s'.os=s₁.os/\AllBare s'.gens) s₁) :
  WalkO q loose XP YP l.row.toRowW d [] (fun f vs=>PySem.call f vs):=by
 intro w s₀ s₁ mg mb G Y fa o pm cd doc dV kV ho hd bF hD hmg hg args vals as lF hlay gD qO hlo;obtain rfl:dV=.none:=Dflts.none hD uE;obtain rfl:kV=.none:=Dflts.noKw hD;obtain ⟨a,vs,ns,rfl,rfl,uY,hints,hlen⟩:=Sl hn lF qO;refine enter_call (codeAny_mono (call w s₀ s₁ mg mb fa o pm cd doc a vs ns G Y ho (fd_plain hd) bF hmg uY hints hlen hg) fun r s' hq=>?_);obtain ⟨rfl,h2,h3,h4⟩:=hq;exact ⟨.inl ⟨.bool true,.bool true,[],rfl,fun _=>rfl,.bool true,QJ l _,fun _=>⟨List.Pairwise.nil,fun _ hm=>(nomatch hm)⟩⟩,h2,h3,h4⟩
section
variable {prog:Program} {w:World} {A:Around} {E:Value->Shared->Prop} {s:Shared} {K:Frag}
end
end Att
namespace L2
open PySem PySem.Spec PyProof.Rows
def Hx:∀ {vs:List Value} {ns:List Int},IntsAre vs ns->Vals (ns.map V.int) vs
 | _,_,.nil=>.nil
 | _,_,.cons n t h=>.cons ⟨t,rfl⟩ (Hx h)
abbrev KOf {K:PySem.W.Frag} {h:Heap} (_:K.In h):PySem.W.Frag:=K
def inClass (s:Stmt) (j:Nat):Stmt:=match s with
 | .ClassDef _ _ _ body _ _ _ _ _ _ _=>body.getD j (.Pass ⟨0,0,0,0⟩)
 | _=>.Pass ⟨0,0,0,0⟩
def eN (s:Stmt):Arguments:=match s with
 | .FunctionDef _ a _ _ _ _ _ _ _ _=>a
 | _=>{ posonlyargs:=[],args:=[],vararg:=none,kwonlyargs:=[],kw_defaults:=[],kwarg:=none,defaults:=[] }
def aV (s:Stmt):List Stmt:=match s with
 | .FunctionDef _ _ b _ _ _ _ _ _ _=>b
 | _=>[]
def ax (s:Stmt):Scope:=match s with
 | .FunctionDef _ _ _ _ _ _ sc _ _ _=>sc
 | _=>{ kind:=.function,names:=[],isGenerator:=false,isCoroutine:=false }
abbrev aI:dH:=fun _ _ _ _ _ _=>False
abbrev E0:XK:=fun _ _ _=>False
def az {X:Cx}:Passes aI X E0:=fun _ _ _ _ _ _ _ h=>h.elim
structure fv (K:PySem.W.Frag) (x qual:Str) (st:Stmt) (f:Addr) (fd:FuncData):Prop where
 ex:∃ (oc:Value) (od:Option Addr) (kV doc pm:Value) (an:Option Addr) (ag ct:Value) (cZ:Array (Option Value)),
  fd=PySem.W.fnOf x qual (eN st) (aV st) (ax st) .none kV doc pm an ag ct/\K.lookup f=some ⟨oc,od,.func fd,cZ⟩/\PySem.W.codeIn K ag qual=true
 kp:PySem.W.keepIn K (.ref f)=true
section
variable {P:Program} {w:World} {K:PySem.W.Frag} {mg:Str->Option Value} {base:Heap}
def fv.ok {x qual:Str} {st:Stmt} {f:Addr} {fd:FuncData} {N ps:List Str} {k:Nat} {sp:Sp} (F:fv K x qual st f fd) (S:aE N ps (ax st)) (len:∀ vs H Q E,sp vs H Q E->vs.length=ps.length)
  (iW:∀ (ag:Value) (A:Around) (outer:List Env) (s:Shared) (H:Hp) (vs:List V) (Q:VK) (E:XK),aZ k (A.deeper (envOfC qual (ax st) s.heap.objs.size f ag))->sp vs H Q E ->
   ∃ t,cX (bT aI P w K mg base N qual (ax st) f ag A outer s H E).pS (aV st) t/\t { nx:=fun _ H'=>Q .au H',rt:=Q } (start N vs) H):aB P w K mg base aI (k+1) f fd ps sp:=by
 obtain ⟨oc,od,kV,doc,pm,an,ag,ct,cZ,rfl,lk,bF⟩:=F.ex;refine wQ lk bF S len fun A outer s H vs Q E hr c8=>?_;obtain ⟨t,h,q⟩:=iW ag A outer s H vs Q E hr c8;exact ⟨t,h.pS,q⟩
def fv.binds {x qual:Str} {st:Stmt} {f:Addr} {fd:FuncData} {ps:List Str} (F:fv K x qual st f fd)
  (h:∀ (kV doc pm:Value) (an:Option Addr) (ag ct:Value) (us:List Value),us.length=ps.length->bindArgs (PySem.W.fnOf x qual (eN st) (aV st) (ax st) .none kV doc pm an ag ct) ⟨us,[]⟩=pure (ps.zip us)):Binds K fd ps []:=by
 obtain ⟨oc,od,kV,doc,pm,an,ag,ct,cZ,rfl,lk,bF⟩:=F.ex;exact .all (h kV doc pm an ag ct)
def C0 {x qual:Str} {st:Stmt} {f:Addr} {oc:Value} {od an:Option Addr} {cZ:Array (Option Value)} {kV doc pm ag ct:Value} (l:K.lookup f=some ⟨oc,od,.func (PySem.W.fnOf x qual (eN st) (aV st) (ax st) .none kV doc pm an ag ct),cZ⟩)
  (c:PySem.W.codeIn K ag qual=true) (k:PySem.W.keepIn K (.ref f)=true):fv K x qual st f (PySem.W.fnOf x qual (eN st) (aV st) (ax st) .none kV doc pm an ag ct):=⟨⟨oc,od,kV,doc,pm,an,ag,ct,cZ,rfl,l,c⟩,k⟩
end
def gn {A:Around} {k:Nat} (hr:aZ k A):A.units+1 < cLine:=_L (Nat.add_le_add_left (by decide:1<=64) _) hr.units
def Mq {n:Nat} (h:n<=1000):n < sizeLine:=_L h (by decide)
section
variable {X:Cx}
def pv (i:Nat) {x:Str} {pos:Pos} (hN:X.N[i]?=some x:=by rfl) (hv:mW X.env.scope x:=by first | exact Or.inl rfl | exact Or.inr (Or.inl rfl) | exact Or.inr (Or.inr rfl)) (hd:(x == ("__debug__" : Str))=false:=by decide)
  (bF:(x == ("__classdict__" : Str))=false:=by decide):PE X (.Name x pos) (JK i):=Bh hN hv hd bF
end
def bc {A B:Prop} (h:B):if false=true then A else B:=by
 rw [Id FS];exact h
def bL {A B:Prop} (h:A):if true=true then A else B:=by
 rw [IN rfl];exact h
def mm {c A B:Prop} [Decidable c] (h1:c->A) (h2:¬ c->B):if c then A else B:=by
 by_cases h:c
 ·rw [IN h];exact h1 h
 ·rw [Id h];exact h2 h
def ai (H H':Hp):Prop:=∀ b o,H b=some o->H' b=some o
def ai.refl (H:Hp):ai H H:=fun _ _ h=>h
def ai.trans {H H1 H2:Hp} (a:ai H H1) (b:ai H1 H2):ai H H2:=fun c o h=>b c o (a c o h)
def ai.free {H H':Hp} (e:ai H H') {l:Addr} (h:H' l=Option.none):H l=Option.none:=by
 cases q:H l with
 | none=>rfl
 | some o =>
  rw [e l o q] at h;cases h
def ai.seq {K:PySem.W.Frag} {H H':Hp} {a:Addr} {xs:List V} (e:ai H H') (h:aD K H a xs):aD K H' a xs:=by
 rcases h with (h | ⟨o,h⟩) | h
 ·exact .inl (.inl (e _ _ h))
 ·exact .inl (.inr ⟨o,e _ _ h⟩)
 ·exact .inr h
section
variable {X:Cx}
end
section
variable {κ:Type} [DecidableEq κ]
end
end L2
namespace Tx
open PySem PySem.Builtin PySem.Builtin.Str PySem.StrLaws
def S (l:List Nat):Str:=⟨l.toArray⟩
def mD (l:List Nat):(S l).cps.toList=l:=by simp [S]
def Sk (s:Str):S s.cps.toList=s:=by cases s; simp [S]
def cw (l:List Nat):(S l).length=l.length:=by simp [S,Str.length]
def vU {a b:List Nat} (h:S a=S b):a=b:=by
 have:=congrArg (fun s=>s.cps.toList) h
 simpa [mD] using this
def hU (a b:List Nat):S a++S b=S (a++b):=by
 apply Str.ext';rw [Str.cps_append];simp [S]
def kJ (c:Nat):(S [c]).length=1:=by rw [cw]; rfl
def subAt_one (x:List Nat) (c i:Nat) (h:i < x.length):subAt (S x) (S [c]) i=decide (x[i]?=some c):=by
 rw [subAt_eq,mD,mD,kJ];rw [List.drop_eq_getElem_cons h,List.take_succ_cons,List.take_zero,List.getElem?_eq_getElem h];by_cases e:x[i]=c
 ·simp [e]
 ·simp [e]
def Qf (x:List Nat) (c:Nat):(!(occurrences (S x) (S [c]) 0 (S x).length 1).isEmpty)=x.contains c:=by
 rw [Bool.eq_iff_iff,found_iff,kJ,cw];constructor
 ·rintro ⟨i,h1,h2⟩;rw [subAt_one x c i (by omega)] at h2;have h3:=of_decide_eq_true h2;exact List.elem_iff.mpr (List.mem_of_getElem? h3)
 ·intro h;obtain ⟨i,hi,e⟩:=List.getElem_of_mem (List.elem_iff.mp h);refine ⟨i,by omega,?_⟩;rw [subAt_one x c i hi,List.getElem?_eq_getElem hi,e];simp
def cut (c:Nat):List Nat->List (List Nat)
 | []=>[[]]
 | a::r=>if a=c then []::cut c r else match cut c r with
  | []=>[[a]]
  | h::t=>(a::h)::t
def Ww (c:Nat):∀ l,cut c l≠[]
 | []=>by simp [cut]
 | a::r=>by
  unfold cut;split
  ·simp
  ·split <;> simp
def cU (c:Nat):Nat->List Nat->List Nat
 | _,[]=>[]
 | k,a::r=>if a=c then k::cU c (k+1) r else cU c (k+1) r
def IG (c:Nat):∀ (l:List Nat) (k j:Nat),cU c (k+j) l=(cU c k l).map (· + j)
 | [],_,_=>rfl
 | a::r,k,j=>by
  unfold cU;have e:k+j+1=(k+1)+j:=by omega
  rw [e,IG c r (k+1) j];split <;> simp
def DK (x:List Nat) (c limit:Nat):∀ (l:List Nat) (k:Nat) (acc:Array Nat) (free:Nat),x.drop k=l->free<=k->acc.size+l.length < limit->k<=x.length ->
  (forIn (List.range' k (x.length+1 - k)) (acc,free) (occBody (S x) (S [c]) x.length limit)).run.fst.toList=acc.toList++cU c k l
 | [],k,acc,free,hd,hf,hl,hk=>by
  have xD:k=x.length:=by
   have:=congrArg List.length hd;simp at this;omega
  have e:x.length+1 - k=1:=by omega
  have e1:List.range' k 1=[k]:=rfl;rw [e,e1,List.forIn_cons];unfold occBody;have hc:¬ (((((acc,free):Array Nat×Nat).fst.size < limit/\((acc,free):Array Nat×Nat).snd<=k)/\k+(S [c]).length<=x.length)/\subAt (S x) (S [c]) k=true):=by
   rw [kJ];rintro ⟨⟨_,h⟩,_⟩;omega
  rw [if_neg hc];simp [cU]
 | a::r,k,acc,free,hd,hf,hl,hk=>by
  have bN:k < x.length:=by
   have:=congrArg List.length hd;simp at this;omega
  have e:x.length+1 - k=(x.length+1 - (k+1))+1:=by omega
  have hx:x[k]?=some a:=by
   have h1:(x.drop k)[0]?=some a:=by rw [hd]; rfl
   rw [List.getElem?_drop] at h1
   simpa using h1
  have hr:x.drop (k+1)=r:=by
   rw [<- List.drop_drop,hd]; rfl
  rw [e,List.range'_succ,List.forIn_cons];unfold occBody;simp only [List.length_cons] at hl;by_cases gH:a=c
  ·have hc:(((((acc,free):Array Nat×Nat).fst.size < limit/\((acc,free):Array Nat×Nat).snd<=k)/\k+(S [c]).length<=x.length)/\subAt (S x) (S [c]) k=true):=by
    rw [kJ,subAt_one x c k bN,hx,gH];refine ⟨⟨⟨?_,hf⟩,by omega⟩,by simp⟩;show acc.size < limit;omega
   rw [if_pos hc];have ih:=DK x c limit r (k+1) (acc.push k) (k+(S [c]).length) hr (by rw [kJ]; omega) (by simp; omega) (by omega);refine Eq.trans ih ?_;rw [show cU c k (a::r)=k::cU c (k+1) r from if_pos gH];simp
  ·have hc:¬ (((((acc,free):Array Nat×Nat).fst.size < limit/\((acc,free):Array Nat×Nat).snd<=k)/\k+(S [c]).length<=x.length)/\subAt (S x) (S [c]) k=true):=by
    rw [subAt_one x c k bN,hx];rintro ⟨_,h⟩;exact gH (Option.some.inj (of_decide_eq_true h))
   rw [if_neg hc];have ih:=DK x c limit r (k+1) acc free hr (by omega) (by omega) (by omega);refine Eq.trans ih ?_
   conv=>rhs; unfold cU
   rw [if_neg gH]
def C5 (x:List Nat) (c:Nat):occurrences (S x) (S [c]) 0 (S x).length ((S x).length+1)=cU c 0 x:=by
 rw [occ_eq,cw];have h:=DK x c (x.length+1) x 0 #[] 0 rfl (Nat.le_refl _) (by simp) (Nat.zero_le _);rw [h];simp
def pieces (l:List Nat) (ps:List Nat):List (List Nat):=((0::ps.map (· + 1)).zip (ps++[l.length])).map fun p=>(l.drop p.1).take (p.2 - p.1)
def rF (c:Nat):∀ l:List Nat,pieces l (cU c 0 l)=cut c l
 | []=>rfl
 | a::r=>by
  have ih:=rF c r;have sh:cU c (0+1) r=(cU c 0 r).map (· + 1):=IG c r 0 1;have tail:∀ (A B:List Nat),((A.map (· + 1)).zip (B.map (· + 1))).map (fun p:Nat×Nat=>((a::r).drop p.1).take (p.2 - p.1))=(A.zip B).map (fun p:Nat×Nat=>(r.drop p.1).take (p.2 - p.1)):=fun A B=>by
   rw [List.zip_map,List.map_map];refine List.map_congr_left fun p _=>?_;show ((a::r).drop (p.1+1)).take (p.2+1 - (p.1+1))=_;rw [List.drop_succ_cons]
   congr 1
   omega
  unfold pieces at ih ⊢;unfold cU cut;rw [sh];by_cases h:a=c
  ·rw [if_pos h,if_pos h];have e1:(0::(0::(cU c 0 r).map (· + 1)).map (· + 1))=0::((0::(cU c 0 r).map (· + 1)).map (· + 1)):=rfl;have e2:(0::(cU c 0 r).map (· + 1))++[(a::r).length]=0::((cU c 0 r++[r.length]).map (· + 1)):=by simp
   rw [e1,e2,List.zip_cons_cons,List.map_cons,tail,ih];simp
  ·rw [if_neg h,if_neg h];have e2:(cU c 0 r).map (· + 1)++[(a::r).length]=(cU c 0 r++[r.length]).map (· + 1):=by simp
   rw [e2];generalize hB:cU c 0 r++[r.length]=B at ih;cases B with
   | nil=>simp at hB
   | cons b B' =>
    rw [List.zip_cons_cons,List.map_cons] at ih;rw [<- ih];rw [List.map_cons (l:=B'),List.zip_cons_cons,List.map_cons,tail];simp
def Wb (x:List Nat) (i j:Nat):strSub (S x) i j=S ((x.drop i).take (j - i)):=by
 rw [<- Sk (strSub (S x) i j),strSub_toList,mD]
def AF (x:List Nat) (ps:List Nat):partsBetween (S x) ps 1=(pieces x ps).map S:=by
 unfold partsBetween pieces;rw [List.map_map,cw];refine List.map_congr_left fun p _=>?_;exact Wb x p.1 p.2
def LH (c:Nat):∀ l:List Nat,cU c 0 l=[]->cut c l=[l]
 | l,h=>by
  have:=rF c l;rw [h] at this;rw [<- this];simp [pieces]
def Le (x:List Nat) (c:Nat) (hc:c < 256):Txt.split (S x) (S [c])=(cut c x).map S:=by
 unfold Txt.split;rw [C5,kJ,AF,rF];have nop:∀ k,¬ c∈x->cU c k x=[]:=by
  intro k
  induction x generalizing k with
  | nil=>intro _; rfl
  | cons a r ih =>
   intro hm;unfold cU;rw [if_neg (fun e=>hm (by simp [e]))];exact ih (k+1) fun m=>hm (List.mem_cons_of_mem _ m)
 by_cases h1:(decide ((S x).length < 1) || decide (PySem.Builtin.Str.strKind (S x) < PySem.Builtin.Str.strKind (S [c])))=true
 ·rw [if_pos h1];have hx:cU c 0 x=[]:=by
   refine nop 0 fun m=>?_;rw [cw] at h1;have hk:PySem.Builtin.Str.strKind (S [c])=1:=by unfold PySem.Builtin.Str.strKind S; simp [hc]
   rw [hk] at h1;have hp:¬ x.length < 1:=by cases x with | nil=>simp at m | cons _ _=>simp
   have hq:¬ PySem.Builtin.Str.strKind (S x) < 1:=by unfold PySem.Builtin.Str.strKind; split <;> (try split) <;> omega
   simp [hp,hq] at h1
  rw [LH c x hx]; rfl
 ·rw [if_neg h1];by_cases h2:(cU c 0 x).isEmpty=true
  ·rw [if_pos h2];rw [LH c x (List.isEmpty_iff.mp h2)]; rfl
  ·rw [if_neg h2]
end Tx
namespace L2
open PySem PySem.Spec PyProof.Rows
def noStar:Expr->Bool
 | .Starred _ _=>false
 | _=>true
def fh {e:Expr} {es:List Expr} {env:Env} (h:noStar e=true):starEach (e::es) env=(false,eval e env)::starEach es env:=by
 cases e <;> first | rfl | cases h
def ib {pos:Pos} {env:Env}:∀ {es:List Expr},es.all noStar=true->(backTo pos (starEach es env)).any (·.1)=false
 | [],_=>rfl
 | e::es,h=>by
  rw [TD,IR] at h;rw [fh h.1];have ih:=ib (pos:=pos) (env:=env) h.2;show ((false || (backTo pos (starEach es env)).any (·.1)))=false;rw [ih];rfl
def Cb {pos:Pos} {env:Env}:∀ {es:List Expr},es.all noStar=true->(backTo pos (starEach es env)).all (fun x=>!x.1)=true
 | [],_=>rfl
 | e::es,h=>by
  rw [TD,IR] at h;rw [fh h.1];have ih:=Cb (pos:=pos) (env:=env) h.2;show ((true && (backTo pos (starEach es env)).all (fun x=>!x.1)))=true;rw [ih];rfl
section
variable {X:Cx}
def YB {e:Expr} {es:List Expr} {te:TE} {t:TA} (ha:PE X e te) (hr:PA X es t) (hs:noStar e=true:=by rfl):PA X (e::es) (o8 te t):=UX ha hr (fh hs)
def PZ {CX:dH} {k:Nat} {f:Addr} {fd:FuncData} {ps:List Str} {sp:Sp} {bh:List V} {ds:List Value} {E:XK} {x:Str} {p pos:Pos} {e:Expr} {es:List Expr} {t:TA}
  (F:aB X.prog X.w X.K X.mg X.base CX k f fd ps sp) (hr:aZ k X.A) (hg:Gl X x) (hm:X.mg x=some (.ref f)) (hk:PySem.W.keepIn X.K (.ref f)=true) (hb:Binds X.K fd ps ds) (hd:Vals bh ds) (hx:Passes CX X E)
  (ha:PA X (e::es) t) (hs:(e::es).all noStar=true:=by rfl) (bM:(x == ("__debug__" : Str))=false:=by decide):PE X (.Call (.Name x p) (e::es) [] pos) (xq sp bh E t):=by
 have hs':=hs;rw [TD,IR] at hs';exact Vo F hr hg hm hk hb hd hx ha bM (fh hs'.1) (ib hs'.2)
def RZ {x:Str} {p pos:Pos} {e:Expr} {es:List Expr} {t:TA} {id:String} {r:List V->Hp->VK->Prop} (hc:cA X (.builtin id) r) (hg:Gl X x) (hm:X.mg x=none) (hv:bootBuiltins x=some (.builtin id)) (ha:PA X (e::es) t)
  (hs:(e::es).all noStar=true:=by rfl) (hn:x ≠ "__name__" := by decide) (bM:(x == ("__debug__" : Str))=false:=by decide):PE X (.Call (.Name x p) (e::es) [] pos) (nM r t):=by
 have hs':=hs;rw [TD,IR] at hs';exact Wk hc hg hm hv ha hn bM (fh hs'.1) (ib hs'.2)
def aai {x:Str} {p pos:Pos} {e:Expr} {es:List Expr} {t:TA} {T:String} {r:List V->Hp->VK->Prop} (hc:cA X (.type T) r) (hg:Gl X x) (hm:X.mg x=none) (hv:bootBuiltins x=some (.type T)) (ha:PA X (e::es) t)
  (hs:(e::es).all noStar=true:=by rfl) (hn:x ≠ "__name__" := by decide) (bM:(x == ("__debug__" : Str))=false:=by decide):PE X (.Call (.Name x p) (e::es) [] pos) (nM r t):=by
 have hs':=hs;rw [TD,IR] at hs';exact W6 hc hg hm hv ha hn bM (fh hs'.1) (ib hs'.2)
end
section
variable {X:Cx}
def PE.imp {e:Expr} {t t':TE} (h:PE X e t) (i:∀ σ H Q,t' σ H Q->t σ H Q):PE X e t':=fun pins s σ H Q I hw=>h pins s σ H Q I (i σ H Q hw)
def PS.imp {e:Stmt} {t t':TS} (h:PS X e t) (i:∀ D σ H,t' D σ H->t D σ H):PS X e t':=fun pins s σ H D I hw=>h pins s σ H D I (i D σ H hw)
def aY.imp {f:Value->Value->Sem Value} {r r':R2} (h:aY X f r) (i:∀ x y H Q,r' x y H Q->r x y H Q):aY X f r':=fun pins s σ H x y v u Q I rx ry q=>h pins s σ H x y v u Q I rx ry (i x y H Q q)
def cA.imp {f:Value} {r r':List V->Hp->VK->Prop} (h:cA X f r) (i:∀ xs H Q,r' xs H Q->r xs H Q):cA X f r':=fun pins s σ H xs us Q I rx q=>h pins s σ H xs us Q I rx (i xs H Q q)
def lx (i:Nat):TE:=fun σ H Q=>match σ[i]? with
 | some (some v)=>Q v H
 | _=>False
def qv (i:Nat) {x:Str} {pos:Pos} (hN:X.N[i]?=some x:=by rfl) (hv:mW X.env.scope x:=by first | exact Or.inl rfl | exact Or.inr (Or.inl rfl) | exact Or.inr (Or.inr rfl)) (hd:(x == ("__debug__" : Str))=false:=by decide)
  (bF:(x == ("__classdict__" : Str))=false:=by decide):PE X (.Name x pos) (lx i):=(Bh hN hv hd bF).imp fun σ H Q h=>by
 unfold lx at h;split at h
 ·rename_i v e;exact ⟨v,e,h⟩
 ·exact h.elim
def Ao:R2:=fun x y H Q=>match x,y with
 | .int i,.int j=>Q (.int (i+j)) H
 | .str a,.str b=>a.length+b.length<=sizeLine/\Q (.str (a++b)) H
 | .ref l,.ref b=>match H l,H b with
  | some (.lst xs),some (.lst zs)=>xs.length+zs.length<=sizeLine/\∀ p,H p=none->Q (.ref p) (upd H p (.lst (xs++zs)))
  | _,_=>False
 | _,_=>False
def fT:aY X (binaryOp .Add) Ao:=(RF.or (aaZ.or Za)).imp fun x y H Q h=>by
 unfold Ao at h;split at h
 ·exact .inl ⟨_,_,rfl,rfl,h⟩
 ·exact .inr (.inl ⟨_,_,rfl,rfl,h.1,h.2⟩)
 ·split at h
  ·rename_i xs zs h1 h2;exact .inr (.inr ⟨_,_,xs,zs,rfl,rfl,h1,h2,h.1,h.2⟩)
  ·exact h.elim
 ·exact h.elim
def bH (K:PySem.W.Frag) (H:Hp) (p:Addr) (R:List V->Prop):Prop:=match H p with
 | some (.lst xs)=>R xs
 | some (.tup xs)=>R xs
 | _=>∃ xs,(aD K H p xs\/bo K H p xs)/\R xs
def vp {K:PySem.W.Frag} {H:Hp} {p:Addr} {R:List V->Prop} (h:bH K H p R):∃ xs,(aD K H p xs\/bo K H p xs)/\R xs:=by
 unfold bH at h;split at h
 ·rename_i xs e;exact ⟨xs,.inl (aD.of e),h⟩
 ·rename_i xs e;exact ⟨xs,.inr (bo.of e),h⟩
 ·exact h
def ug (K:PySem.W.Frag) (H:Hp) (p:Addr) (R:List V->Prop):Prop:=∃ xs,aD K H p xs/\R xs
def Ay {K:PySem.W.Frag} {H:Hp} {p:Addr} {R:List V->Prop} (h:ug K H p R):∃ xs,aD K H p xs/\R xs:=h
def GR {K:PySem.W.Frag} {H:Hp} {p:Addr} {R:List V->Prop} {xs:List V} (h:H p=some (.lst xs)) (r:R xs):ug K H p R:=⟨xs,aD.of h,r⟩
def qo (C:Int->Int->Prop) (f:Int->Int->Int):R2:=fun x y H Q=>match x,y with
 | .int i,.int j=>C i j/\Q (.int (f i j)) H
 | _,_=>False
def zy {C:Int->Int->Prop} {f:Int->Int->Int} {x y:V} {H:Hp} {Q:VK} (h:qo C f x y H Q):rI C (fun i j=>.int (f i j)) x y H Q:=by
 unfold qo at h;split at h
 ·exact ⟨_,_,rfl,rfl,h.1,h.2⟩
 ·exact h.elim
def mr:aY X (binaryOp .Mod) (qo (fun _ j=>0 < j) fun i j=>i % j):=T3.imp fun _ _ _ _ h=>zy h
def Aa:aY X (binaryOp .FloorDiv) (qo G2 fun i j=>i / j):=T2.imp fun _ _ _ _ h=>zy h
def pk (neg:Bool):R2:=fun x y H Q=>match x,y with
 | .int i,.int j=>Q (.bl (neg ^^ decide (i=j))) H
 | .str i,.str j=>Q (.bl (neg ^^ decide (i=j))) H
 | .bl i,.bl j=>Q (.bl (neg ^^ decide (i=j))) H
 | _,_=>wo x y=true/\Q (.bl (neg ^^ decide (x=y))) H
def HY (i j:Int):decide (V.int i=V.int j)=decide (i=j):=by by_cases h:i=j <;> simp [h]
def GU (i j:Str):decide (V.str i=V.str j)=decide (i=j):=by by_cases h:i=j <;> simp [h]
def HI (i j:Bool):decide (V.bl i=V.bl j)=decide (i=j):=by by_cases h:i=j <;> simp [h]
def Yz:aY X (compareOp .Eq) (pk false):=aaC.imp fun x y H Q h=>by
 unfold pk at h;simp only [Bool.false_bne] at h;split at h
 ·exact ⟨rfl,by rw [HY]; exact h⟩
 ·exact ⟨rfl,by rw [GU]; exact h⟩
 ·exact ⟨rfl,by rw [HI]; exact h⟩
 ·exact h
def Tf:aY X (compareOp .NotEq) (pk true):=aaL.imp fun x y H Q h=>by
 unfold pk at h;simp only [Bool.true_bne] at h;split at h
 ·exact ⟨rfl,by rw [HY]; exact h⟩
 ·exact ⟨rfl,by rw [GU]; exact h⟩
 ·exact ⟨rfl,by rw [HI]; exact h⟩
 ·exact h
def jF (f:Int->Int->Bool):R2:=fun x y H Q=>match x,y with
 | .int i,.int j=>Q (.bl (f i j)) H
 | _,_=>False
def yC {f:Int->Int->Bool} {x y:V} {H:Hp} {Q:VK} (h:jF f x y H Q):nK (fun i j=>.bl (f i j)) x y H Q:=by
 unfold jF at h;split at h
 ·exact ⟨_,_,rfl,rfl,h⟩
 ·exact h.elim
def sY:aY X (compareOp .Lt) (jF fun i j=>decide (i < j)):=Xl.imp fun _ _ _ _ h=>yC h
def qp:aY X (compareOp .LtE) (jF fun i j=>decide (i<=j)):=UR.imp fun _ _ _ _ h=>yC h
def Br:aY X (compareOp .Gt) (jF fun i j=>decide (j < i)):=aaQ.imp fun _ _ _ _ h=>yC h
def wF (K:PySem.W.Frag):R2:=fun x y H Q=>match x,y with
 | .str i,.str j=>Q (.bl (!(Builtin.Str.occurrences j i 0 j.length 1).isEmpty)) H
 | _,.ref p=>bH K H p fun xs=>cI x=true/\xs.all cI=true/\Q (.bl (f7 x xs)) H
 | _,_=>False
def O4:aY X (compareOp .In) (wF X.K):=(V6.or Hw).imp fun x y H Q h=>by
 unfold wF at h;split at h
 ·exact .inl ⟨_,_,rfl,rfl,h⟩
 ·obtain ⟨xs,h1,h2,h3,h4⟩:=vp h;exact .inr ⟨_,xs,rfl,h1,h2,h3,h4⟩
 ·exact h.elim
def mK (t:TE):TT:=fun σ H Q=>t σ H fun x H'=>match x with
 | .bl k=>Q k H'
 | _=>False
def zE {x:V} {H:Hp} {Q:Bool->Hp->Prop} (h:(match x with | .bl k=>Q k H | _=>False)):∃ k,x=.bl k/\Q k H:=by
 split at h
 ·exact ⟨_,rfl,h⟩
 ·exact h.elim
def UH {op:CmpOp} {r:R2} {a b:Expr} {ta tb:TE} {pos:Pos} (ho:aY X (compareOp op) r) (ha:PE X a ta) (hb:PE X b tb) (hm:behindInMarks op b=false:=by first | exact wm _ (by decide) (by decide) | rfl) :
  PT X (.Compare a [op] [b] pos) (mK (lA r ta tb)):=by
 intro pins s σ H Q I h;refine wpAny_isTrue_Compare1 ?_ hm;refine aC (ha pins s σ H _ I h) fun v s1 ⟨x,H1,I1,r1,q1⟩=>aC (hb pins s1 σ H1 _ I1 q1) fun u s2 ⟨y,H2,I2,r2,q2⟩=>?_;refine aC (ho pins s2 σ H2 x y v u _ I2 r1 r2 q2) fun c s3 ⟨z,H3,I3,r3,q3⟩=>?_;obtain ⟨k,rfl,q⟩:=zE q3;cases r3;exact XV ⟨H3,I3,q⟩
def Qd {e:Expr} {t:TE} (h:PE X e t) (he:∀ whole,isTrue e X.env whole=(do let v <- whole; standAt e.pos; holding [v] (truthy v)):=by intro _; rfl):PT X e (mK t):=by
 intro pins s σ H Q I hw;refine isTrue_plain (aC (h pins s σ H _ I hw) fun v s1 ⟨x,H1,I1,r1,q1⟩=>?_) (he _);obtain ⟨d,rfl,q⟩:=zE q1;cases r1;exact XV ⟨H1,I1,q⟩
def zF (f g:Int->Int->Bool) (ta tb tc:TE):TT:=fun σ H Q=>ta σ H fun x H1=>tb σ H1 fun y H2=>match x,y with
 | .int i,.int j=>if f i j=true then tc σ H2 fun z H3=>(match z with | .int k=>Q (g j k) H3 | _=>False) else Q false H2
 | _,_=>False
def DB (ta tb:TE):TE:=fun σ H Q=>ta σ H fun x H1=>match x with
 | .bl c=>if c=true then tb σ H1 Q else Q (.bl false) H1
 | _=>False
def Cf (ta tb:TE):TE:=fun σ H Q=>ta σ H fun x H1=>match x with
 | .bl c=>if c=true then Q (.bl true) H1 else tb σ H1 Q
 | _=>False
def zB (ta:TE):TE:=fun σ H Q=>ta σ H fun x H1=>match x with
 | .bl c=>Q (.bl (!c)) H1
 | _=>False
variable {a b:Expr} {ta tb:TE} {pos:Pos} {rest:List Expr}
def Rp (ha:PE X a ta) (hb:PE X (.BoolOp .And (b::rest) pos) tb):PE X (.BoolOp .And (a::b::rest) pos) (DB ta tb):=by
 intro pins s σ H Q I h;refine BoolOp_and (aC (ha pins s σ H _ I h) fun v s1 ⟨x,H1,I1,r1,q1⟩=>?_);have q1':∃ c,x=.bl c/\if c=true then tb σ H1 Q else Q (.bl false) H1:=by
  dsimp only at q1;split at q1
  ·exact ⟨_,rfl,q1⟩
  ·exact q1.elim
 obtain ⟨c,rfl,q1⟩:=q1';cases r1;refine XV ?_;cases c with
 | true=>exact hb pins s1 σ H1 Q I1 q1
 | false=>exact ⟨.bl false,H1,I1,rfl,q1⟩
def SY (ha:PE X a ta) (hb:PE X (.BoolOp .Or (b::rest) pos) tb):PE X (.BoolOp .Or (a::b::rest) pos) (Cf ta tb):=by
 intro pins s σ H Q I h;refine BoolOp_or (aC (ha pins s σ H _ I h) fun v s1 ⟨x,H1,I1,r1,q1⟩=>?_);have q1':∃ c,x=.bl c/\if c=true then Q (.bl true) H1 else tb σ H1 Q:=by
  dsimp only at q1;split at q1
  ·exact ⟨_,rfl,q1⟩
  ·exact q1.elim
 obtain ⟨c,rfl,q1⟩:=q1';cases r1;refine XV ?_;cases c with
 | false=>exact hb pins s1 σ H1 Q I1 q1
 | true=>exact ⟨.bl true,H1,I1,rfl,q1⟩
def vV:V->Value
 | .ty n=>.type n
 | .ref a=>.ref a
 | _=>.none
def aad:cA X (.builtin "isinstance") (fun xs H Q=>∃ x cV t b,xs=[x,cV]/\((∃ n,cV=.ty n)\/∃ a,cV=.ref a)/\fw X.K H x t/\PySem.W.kitOne X.K t (vV cV)=some b/\Q (.bl b) H):=by
 intro pins s σ H xs us Q I r h;obtain ⟨x,cV,t,b,rfl,hc,ty,e,q⟩:=h;obtain ⟨u,c',rfl,ru,rc'⟩:=vals2 r;have ec:c'=vV cV:=by
  rcases hc with ⟨n,rfl⟩ | ⟨a,rfl⟩
  ·exact rc'
  ·exact rc'
 subst ec;exact yR I ru ty e fun tk=>⟨.bl b,H,I.tok tk,rfl,q⟩
end
section
variable {X:Cx}
def BJ:V->List V->Hp->VK->Prop:=fun x xs H Q=>match x,xs with
 | .str a,[.str b]=>Q (.bl (Txt.startswith a b)) H
 | _,_=>False
def CU:dg X "str.startswith" BJ:=by
 intro pins s σ H x xs v us Q I rx r h;unfold BJ at h;split at h
 ·rename_i a b;obtain ⟨t,rfl⟩:=rx;obtain ⟨u,rfl,t',rfl⟩:=vals1 r;exact _d F.slot_str_startswith (_W s a t) F.entry_str_startswith (F.args_str_startswith_2 _ _) (gives_str_startswith a b t t').meets ⟨.bl _,H,I,rfl,h⟩
 ·exact h.elim
def DU:V->List V->Hp->VK->Prop:=fun x xs H Q=>match x,xs with
 | .str a,[.str b]=>Q (.bl (Txt.endswith a b)) H
 | _,_=>False
def Kd:dg X "str.endswith" DU:=by
 intro pins s σ H x xs v us Q I rx r h;unfold DU at h;split at h
 ·rename_i a b;obtain ⟨t,rfl⟩:=rx;obtain ⟨u,rfl,t',rfl⟩:=vals1 r;exact _d F.slot_str_endswith (_W s a t) F.entry_str_endswith (F.args_str_endswith_2 _ _) (gives_str_endswith a b t t').meets ⟨.bl _,H,I,rfl,h⟩
 ·exact h.elim
def LM:∀ (l:List (Str×Tok)),Vals ((l.map (·.1)).map V.str) (strValues l)
 | []=>.nil
 | p::r=>.cons ⟨p.2,rfl⟩ (LM r)
def vn:∀ {ts:List Str} {us:List Value},Vals (ts.map V.str) us->∃ l:List (Str×Tok),us=strValues l/\l.map (·.1)=ts
 | [],_,.nil=>⟨[],rfl,rfl⟩
 | t::r,_,.cons h h'=>by
  obtain ⟨k,rfl⟩:=h;obtain ⟨l,e1,e2⟩:=vn h';exact ⟨(t,k)::l,by rw [e1]; rfl,by rw [<- e2]; rfl⟩
def zM:V->List V->Hp->VK->Prop:=fun x xs H Q=>match x,xs with
 | .str a,[.str b]=>(b.length == 0)=false/\a.length<=sizeLine/\(Builtin.Str.partsBetween a (Builtin.Str.occurrences a b 0 a.length (a.length+1)) b.length).length<=sizeLine /\
   ∀ l,H l=none->Q (.ref l) (upd H l (.lst ((Txt.split a b).map V.str)))
 | _,_=>False
def KU:dg X "str.split" zM:=by
 intro pins s σ H x xs v us Q I rx r h;unfold zM at h;split at h
 ·rename_i a b;obtain ⟨hy,hx,hn,q⟩:=h;obtain ⟨t,rfl⟩:=rx;obtain ⟨w',rfl,u,rfl⟩:=vals1 r;have fin:∀ (l:List (Str×Tok)) (tk:Nat),l.map (·.1)=Txt.split a b->l.length<=sizeLine ->
    EP X pins σ Q (.ref s.heap.objs.size) { s with heap:=s.heap.push { cls:=.type "list",data:=.seq (strValues l).toArray },toks:=tk }:=fun l tk e hz =>
   ⟨.ref _,_,I.laid (t':=tk) (o:=.lst ((Txt.split a b).map V.str)) (fun b' o' q'=>xz _ q') (Ev _)
    ⟨by rw [At,<- e,At]; exact hz,strValues l,0,by rw [<- e]; exact LM l,FM _ rfl⟩,rfl,q _ (I.aA.fresh (Ev _))⟩
  cases h1:(decide (a.length < b.length) || decide (Builtin.Str.strKind a < Builtin.Str.strKind b))
  ·cases hf:(Builtin.Str.occurrences a b 0 a.length (a.length+1)).isEmpty
   ·refine _d F.slot_str_split (_W s a t) F.entry_str_split (JaC _ _) (meets_str_split_sep a b t u h1 hy hf hx hn) ?_;have e:Txt.split a b=Builtin.Str.partsBetween a (Builtin.Str.occurrences a b 0 a.length (a.length+1)) b.length:=(Id (Jau h1)).trans (Id (Jau hf));have z:=fin (numbered s.toks (Builtin.Str.partsBetween a (Builtin.Str.occurrences a b 0 a.length (a.length+1)) b.length)) (s.toks+(Builtin.Str.partsBetween a (Builtin.Str.occurrences a b 0 a.length (a.length+1)) b.length).length)
     ((numbered_texts _ _).trans e.symm) (by
      have:=UF List.length (numbered_texts s.toks (Builtin.Str.partsBetween a (Builtin.Str.occurrences a b 0 a.length (a.length+1)) b.length));rw [At] at this;rw [this]; exact hn)
    rw [<- strsFrom_eq] at z;exact z
   ·exact _d F.slot_str_split (_W s a t) F.entry_str_split (JaC _ _) (meets_str_split_not_found a b t u h1 hy hf)
     (fin [(a,t)] s.toks ((Id (Jau h1)).trans (IN hf)).symm (by show 1<=sizeLine; decide))
  ·exact _d F.slot_str_split (_W s a t) F.entry_str_split (JaC _ _) (meets_str_split_cannot_occur a b t u h1)
    (fin [(a,t)] s.toks (IN h1).symm (by show 1<=sizeLine; decide))
 ·exact h.elim
def rJoin (K:PySem.W.Frag):V->List V->Hp->VK->Prop:=fun x xs H Q=>match x,xs with
 | .str a,[.ref p]=>ug K H p fun xs=>∃ ts:List Str,xs=ts.map V.str/\ts.foldl (fun n z=>n+z.length+a.length) 0<=sizeLine/\Q (.str (Str.join a ts)) H
 | _,_=>False
def Sn:dg X "str.join" (rJoin X.K):=by
 intro pins s σ H x xs v us Q I rx r h;unfold rJoin at h;split at h
 ·rename_i a p;obtain ⟨xs,hq,ts,rfl,hz,q⟩:=Ay h;obtain ⟨t,rfl⟩:=rx;obtain ⟨w',rfl,e⟩:=vals1 r;cases e;obtain ⟨ao,rv,pl,hl⟩:=I.list hq;obtain ⟨l,rfl,e2⟩:=vn rv;have FK:Builtin.Str.tooLong ((l.map (·.1)).toArray.foldl (· + ·.length+a.length) 0)=false:=by
   unfold Builtin.Str.tooLong;refine Ch (Nat.not_lt.mpr ?_);rw [List.foldl_toArray,e2];exact hz
  refine _d F.slot_str_join (_W s a t) F.entry_str_join (F.args_str_join_2 _ _) (meets_str_join_list a t p l FK) ⟨pl.isList,?_⟩;have hlen:(Builtin.Str.glued a (l.map (·.1))).length<=sizeLine:=by
   rw [e2,StrLaws.glued_eq_join];refine Gc ?_ hz;have:∀ (us:List Str) (n:Nat),n+(Str.join a us).length<=us.foldl (fun n z=>n+z.length+a.length) n:=by
    intro us
    induction us with
    | nil=>intro n; exact Ev _
    | cons y r ih =>
     intro n;cases r with
     | nil=>show n+y.length<=n+y.length+a.length; omega
     | cons z r' =>
      have h1:(Str.join a (y::z::r')).length=y.length+a.length+(Str.join a (z::r')).length:=by
       show ((y++a)++Str.join a (z::r')).length=_;rw [Str.length_append,Str.length_append]
      have h2:=ih (n+y.length+a.length);rw [h1];refine Gc ?_ h2;omega
   have h0:=this ts 0;omega
  have e3:Builtin.Str.glued a (l.map (·.1))=Str.join a ts:=by rw [e2,StrLaws.glued_eq_join]
  match l,e2,e3,hlen with
  | [],e2,e3,hlen=>exact ⟨hlen,⟨.str (Str.join a ts),H,I.tok _,⟨_,by rw [e3]⟩,q⟩⟩
  | [p],e2,e3,hlen =>
   have e4:Str.join a ts=p.1:=by rw [<- e2]; rfl
   exact ⟨.str (Str.join a ts),H,I.tok _,⟨_,by rw [e4]⟩,q⟩
  | p1::p2::r',e2,e3,hlen=>exact ⟨hlen,⟨.str (Str.join a ts),H,I.tok _,⟨_,by rw [e3]⟩,q⟩⟩
 ·exact h.elim
def J4 {v:Value} {o:Option Int} (p:IsPart v o):∃ l:Option (Int×Tok),v=partValue l/\l.map (·.1)=o:=by
 cases p with
 | none=>exact ⟨none,rfl,rfl⟩
 | int i t=>exact ⟨some (i,t),rfl,rfl⟩
def HJ:V->Option Int->Option Int->Hp->VK->Prop:=fun x lo hi H Q=>match x with
 | .str z=>z.length<=sizeLine/\Q (.str (Txt.slice z lo hi)) H
 | _=>False
def TK:jx X HJ:=by
 intro pins s σ H x v vl vu lo hi sl Q I rx hs pl pu h;unfold HJ at h;split at h
 ·rename_i z;obtain ⟨hz,q⟩:=h;obtain ⟨t,rfl⟩:=rx;obtain ⟨l,rfl,rfl⟩:=J4 pl;obtain ⟨u,rfl,rfl⟩:=J4 pu;refine ⟨"str",_,F.slot_str_getitem.lookup,_W _ _ _,wpAny_getItem_str_slice (l:=l) (u:=u) (st:=none) hs rfl
   (post_val_or_str ⟨Gc (Txt.slice_le z _ _) hz,fun t' k=>?_⟩)⟩
  exact ⟨.str (Txt.slice z (l.map (·.1)) (u.map (·.1))),H,I.tok k,⟨t',rfl⟩,q⟩
 ·exact h.elim
def zC:R2:=fun x y H Q=>match x,y with
 | .int i,.int j=>vG i j/\Q (.int (i * j)) H
 | .str z,.int n=>MulOk z n/\Q (.str (Txt.mul z n)) H
 | .ref l,.int k=>match H l with
  | some (.lst xs)=>-(2 ^ 63)<=k/\k < 2 ^ 63/\xs.length * k.toNat<=sizeLine/\∀ p,H p=none->Q (.ref p) (upd H p (.lst (List.replicate k.toNat xs).flatten))
  | _=>False
 | _,_=>False
def ZV:aY X (binaryOp .Mult) (fun x y H Q=>∃ z n,x=.str z/\y=.int n/\MulOk z n/\Q (.str (Txt.mul z n)) H):=by
 intro pins s σ H x y v u Q I rx ry h;obtain ⟨z,n,rfl,rfl,hm,q⟩:=h;obtain ⟨t,rfl⟩:=rx;obtain ⟨t',rfl⟩:=ry;exact SB.mul hm fun t2 k=>⟨.str _,H,I.tok _,⟨_,rfl⟩,q⟩
def wu:aY X (binaryOp .Mult) zC:=(TB.or (ZV.or aaE)).imp fun x y H Q h=>by
 unfold zC at h;split at h
 ·exact .inl ⟨_,_,rfl,rfl,h.1,h.2⟩
 ·exact .inr (.inl ⟨_,_,rfl,rfl,h.1,h.2⟩)
 ·split at h
  ·rename_i xs h1;obtain ⟨h2,h3,h4,h5⟩:=h;exact .inr (.inr ⟨_,_,xs,rfl,rfl,h1,h2,h3,h4,h5⟩)
  ·exact h.elim
 ·exact h.elim
def J2:∀ {bs:List Bool} {us:List Value},Vals (bs.map V.bl) us->us=bs.map Value.bool
 | [],_,.nil=>rfl
 | b::r,_,.cons h h'=>by
  have h:_=Value.bool b:=h;rw [h,J2 h'];rfl
def all_range (bs:List Bool):(List.range bs.length).all (fun j=>bs.getD j true)=bs.all id:=by
 rw [_t,GM,GM];constructor
 ·intro h b hb;obtain ⟨i,hi,e⟩:=_z hb;have:=h i (JaA.mpr hi);rw [_Y,Db hi,e] at this;exact this
 ·intro h j hj;have hj:=JaA.mp hj;rw [_Y,Db hj];exact h _ (_1 hj)
def aan (hc:X.calm=true):cA X (.builtin "all") (fun xs H Q=>∃ (p:Addr) (bs:List Bool),xs=[.ref p]/\aD X.K H p (bs.map V.bl)/\Q (.bl (bs.all id)) H):=by
 intro pins s σ H xs us Q I r h;obtain ⟨p,bs,rfl,hq,q⟩:=h;obtain ⟨u,rfl,e⟩:=vals1 r;cases e;obtain ⟨ao,rv,pl,hz⟩:=I.list hq;have eb:=J2 rv;subst eb;have bw:p < s.heap.objs.size:=pl.lt;refine call_all_walk (wpAny_pyIter_list pl.isList ?_);refine ⟨s.heap.objs.size,_,_,_,_,_,fun j=>bs.getD j true,rfl,Walks.list (A:=X.A.in1) (show X.A.in1.handled=none from I.ok.hd hc) _ p (GE bw) (bs.map Value.bool).toArray,⟨⟨_,FM _ rfl,rfl,rfl⟩,pl.isList.push _⟩,?_,?_⟩
 ·intro i v s' Q' E' hP hQ;have hi:bs[i]?=some (bs.getD i true)/\v=.bool (bs.getD i true):=by
   have hP:(bs.map Value.bool).toArray[i]?=some v:=hP;rw [List.getElem?_toArray,Op] at hP;cases e:bs[i]? with
   | none=>rw [e] at hP; cases hP
   | some b =>
    rw [e] at hP;have:bs.getD i true=b:=by rw [_Y,e]; rfl
    rw [this];exact ⟨rfl,(PP hP).symm⟩
  rw [hi.2];exact XV hQ
 ·intro h' tk hk;have e:(List.range (bs.map Value.bool).toArray.size).all (fun j=>bs.getD j true)=bs.all id:=by
   rw [Fr,At];exact all_range bs
  rw [e];refine ⟨.bl (bs.all id),H,I.kept (t':=tk) (fun b o eo=>?_),rfl,q⟩;refine hk b o ?_ (xz _ eo);intro hm;have e1:b=s.heap.objs.size:=by simpa using hm
  exact absurd (Fk eo) (by rw [e1]; exact SZ _)
def wY (x:Str):It:=⟨fun i _=>i < x.length,fun i H y H'=>H'=H/\∃ c,x.cps[i]?=some c/\y=.str ⟨#[c]⟩,fun i _=>x.length<=i⟩
def K6 {P:Program} {w:World} {K:PySem.W.Frag} {tg:Expr} {x:Str} {t:Tok} {ty:String} (it:Addr)
  (cE:["enumerate","zip","dict_itemiterator","dict_reverseitemiterator","odict_iterator","itertools.zip_longest","itertools.pairwise"].contains ty=false)
  (W:∀ A:Around,A.handled=none->Walks P w A it [it] [it] x.cps.size (SignAt x) (fun i h=>h.IsStrIter it ty x t i)) (W0:∀ (A:Around) (i:Nat) (s:Shared) (Q:Value->Shared->Prop) (E:Value->Shared->Prop),s.heap.IsStrIter it ty x t i->Q (.ref it) s->wpAny (model P w) A (pyIter (.ref it)) Q E s) :
  Turn P w K tg (wY x) [it] it (fun i h=>i<=x.length/\h.IsStrIter it ty x t i) where
 mem:=by simp
 obj:=fun i h st b hb=>by
  have e:b=it:=by simpa using hb
  subst e;obtain ⟨_,o,e,c,d⟩:=st;exact ⟨o,e,fun v z=>by rw [d] at z; cases z⟩
 keep:=fun i h h' st k=>⟨st.1,let ⟨o,ho,r⟩:=st.2; ⟨o,k it (by simp) o ho,r⟩⟩
 item:=by
  intro X hP hw hK hc i pins s σ H E I hf st hg;subst hP hw hK;obtain ⟨f0,f1,f2,f3,f4,f5⟩:=hf it (by simp);refine (W X.A (I.ok.hd hc)).item i s _ E hg st.2 fun v h' tk hv st' hk=>?_;obtain ⟨c,u,Ep,rfl⟩:=hv;have I1:Inv X pins σ H { s with heap:=h',toks:=tk }:=I.turned (t':=tk) (fun b o hb e=>hk b o (by simpa using hb) e) f0 f1 f3 f4 f5;obtain ⟨o,e,cc,d⟩:=id st';exact ⟨_,rfl,Ai (s:={ s with heap:=h',toks:=tk }) e cc d cE ⟨.str ⟨#[c]⟩,H,I1,⟨u,rfl⟩,⟨rfl,c,Ep,rfl⟩,⟨hg,st'⟩,fun b hb=>(hf b hb).1⟩⟩
 done:=by
  intro X hP hw hK hc i pins s σ H E I hf st hg;subst hP hw hK;obtain ⟨f0,f1,f2,f3,f4,f5⟩:=hf it (by simp);have hi:i=x.cps.size:=Nat.le_antisymm st.1 hg;subst hi;exact (W X.A (I.ok.hd hc)).done s _ E st.2 fun h' tk hk=>⟨rfl,I.turned (t':=tk) (fun b o hb e=>hk b o (by simpa using hb) e) f0 f1 f3 f4 f5⟩
 self:=fun A i s Q E st h=>W0 A i s Q E st.2 h
def Cq (tl:TE):TI:=fun σ H R=>tl σ H fun x H1=>match x with
 | .str z=>R (wY z) H1
 | _=>False
def aa5 {tg l:Expr} {tl:TE} (hl:PE X l tl):PI X tg l (Cq tl):=by
 intro pins s σ H R I h;refine aC (hl pins s σ H _ I h) fun v s1 ⟨x,H1,I1,r1,q1⟩=>?_;have q1':∃ z,x=.str z/\R (wY z) H1:=by
  dsimp only at q1;split at q1
  ·exact ⟨_,rfl,q1⟩
  ·exact q1.elim
 obtain ⟨z,rfl,q⟩:=q1';obtain ⟨t,rfl⟩:=r1;have fp:∀ b∈[s1.heap.objs.size],jT X pins H1 b:=fun b hb=>by
  have e:b=s1.heap.objs.size:=by simpa using hb
  subst e;exact I1.Cs (Ev _) (I1.aA.fresh (Ev _))
 cases ha:z.cps.all (· < 128)
 ·refine wpAny_pyIter_wide ha ⟨s1.heap.objs.size,[s1.heap.objs.size],_,_,H1,rfl,I1.kept (t':=s1.toks) fun b o e=>xz _ e,
   K6 (ty := "str_iterator") (t:=t) _ (by decide) (fun A hA=>Walks.strWide hA _ z t) (fun A i s Q E st h=>wpAny_pyIter_striter_wide st h),⟨GT _,_,FM _ rfl,rfl,rfl⟩,fp,q⟩
 ·refine wpAny_pyIter_ascii ha ⟨s1.heap.objs.size,[s1.heap.objs.size],_,_,H1,rfl,I1.kept (t':=s1.toks) fun b o e=>xz _ e,
   K6 (ty := "str_ascii_iterator") (t:=t) _ (by decide) (fun A hA=>Walks.strAscii hA _ z t) (fun A i s Q E st h=>wpAny_pyIter_striter_ascii st h),⟨GT _,_,FM _ rfl,rfl,rfl⟩,fp,q⟩
end
section
variable {X:Cx} {a b c:Expr} {ta tb tc:TE} {pos:Pos}
def Ym (ha:PE X a ta):PE X (.UnaryOp .Not a pos) (zB ta):=by
 intro pins s σ H Q I h;refine UnaryOp_ (aC (ha pins s σ H _ I h) fun v s1 ⟨x,H1,I1,r1,q1⟩=>?_);have q1':∃ k,x=.bl k/\Q (.bl (!k)) H1:=by
  dsimp only at q1;split at q1
  ·exact ⟨_,rfl,q1⟩
  ·exact q1.elim
 obtain ⟨k,rfl,z1⟩:=q1';cases r1;exact not_of (XV ⟨.bl (!k),H1,I1,rfl,z1⟩)
def aap {op op':CmpOp} {f g:Int->Int->Bool} (ho:aY X (compareOp op) (jF f)) (ho':aY X (compareOp op') (jF g)) (ha:PE X a ta) (hb:PE X b tb) (hc:PE X c tc)
  (hm:lastMarks [op,op'] [b,c]=false:=by with_unfolding_all rfl):PT X (.Compare a [op,op'] [b,c] pos) (zF f g ta tb tc):=by
 intro pins s σ H Q I h;refine isTrue_chain (aC (ha pins s σ H _ I h) fun v s1 ⟨x,H1,I1,r1,q1⟩=>test_link (aC (hb pins s1 σ H1 _ I1 q1) fun u s2 ⟨y,H2,I2,r2,q2⟩=>?_)) hm;have q2':∃ i j,x=.int i/\y=.int j/\if f i j=true then tc σ H2 (fun z H3=>(match z with | .int k=>Q (g j k) H3 | _=>False)) else Q false H2:=by
  dsimp only at q2;split at q2
  ·exact ⟨_,_,rfl,rfl,q2⟩
  ·exact q2.elim
 obtain ⟨i,j,rfl,rfl,z2⟩:=q2';refine aC (ho pins s2 σ H2 (.int i) (.int j) v u (fun z H3=>z=.bl (f i j)/\H3=H2) I2 r1 r2 ⟨rfl,rfl⟩) fun d s3 ⟨z,H3,I3,r3,e,e'⟩=>?_;subst e e';cases r3;refine XV ?_;cases hf:f i j with
 | false =>
  rw [hf] at z2;exact ite_ff ⟨H3,I3,z2⟩
 | true =>
  rw [hf,IN rfl] at z2;refine ite_tt (test_last (aC (hc pins s3 σ H3 _ I3 z2) fun w' s4 ⟨z',H4,I4,r4,q4⟩=>?_));have q4':∃ k,z'=.int k/\Q (g j k) H4:=by
   dsimp only at q4;split at q4
   ·exact ⟨_,rfl,q4⟩
   ·exact q4.elim
  obtain ⟨k,rfl,z4⟩:=q4';refine aC (ho' pins s4 σ H4 (.int j) (.int k) u w' (fun z H5=>z=.bl (g j k)/\H5=H4) I4 r2 r4 ⟨rfl,rfl⟩) fun d' s5 ⟨z2,H5,I5,r5,e,e'⟩=>?_;subst e e';cases r5;exact XV ⟨H5,I5,z4⟩
def wk (K:PySem.W.Frag):List V->Hp->VK->Prop:=fun xs H Q=>match xs with
 | [.str y]=>y.length<=sizeLine/\Q (.int y.length) H
 | [.ref p]=>bH K H p fun ys=>Q (.int ys.length) H
 | _=>False
def O0:cA X (.builtin "len") (wk X.K):=IP.imp fun xs H Q h=>by
 unfold wk at h;split at h
 ·exact ⟨_,_,rfl,⟨h.1,rfl⟩,h.2⟩
 ·obtain ⟨ys,h1,h2⟩:=vp h;rcases h1 with h1 | h1
  ·exact ⟨_,_,rfl,.inl ⟨ys,h1,rfl⟩,h2⟩
  ·exact ⟨_,_,rfl,.inr ⟨ys,h1,rfl⟩,h2⟩
 ·exact h.elim
def Jg (K:PySem.W.Frag):List V->Hp->VK->Prop:=fun xs H Q=>match xs with
 | [x,cV]=>∃ t b,((∃ n,cV=.ty n)\/∃ a,cV=.ref a)/\fw K H x t/\PySem.W.kitOne K t (vV cV)=some b/\Q (.bl b) H
 | _=>False
def aba:cA X (.builtin "isinstance") (Jg X.K):=aad.imp fun xs H Q h=>by
 unfold Jg at h;split at h
 ·obtain ⟨t,b,h1,h2,h3,h4⟩:=h;exact ⟨_,_,t,b,rfl,h1,h2,h3,h4⟩
 ·exact h.elim
def u6 (K:PySem.W.Frag):List V->Hp->VK->Prop:=fun xs H Q=>match xs with
 | [.ref p]=>ug K H p fun xs=>∃ bs:List Bool,xs=bs.map V.bl/\Q (.bl (bs.all id)) H
 | _=>False
def Rb (hc:X.calm=true):cA X (.builtin "all") (u6 X.K):=(aan hc).imp fun xs H Q h=>by
 unfold u6 at h;split at h
 ·obtain ⟨xs,h1,bs,rfl,h2⟩:=Ay h;exact ⟨_,bs,rfl,h1,h2⟩
 ·exact h.elim
def vf (K:PySem.W.Frag):List V->Hp->VK->Prop:=fun xs H Q=>match xs with
 | [.ref p]=>bH K H p fun ys=>∀ l,H l=none->Q (.ref l) (upd H l (.lst ys))
 | _=>False
def XI:cA X (.type "list") (vf X.K):=Zp.imp fun xs H Q h=>by
 unfold vf at h;split at h
 ·obtain ⟨ys,h1,h2⟩:=vp h;exact ⟨_,ys,rfl,h1,h2⟩
 ·exact h.elim
def qk (K:PySem.W.Frag):R2:=fun x y H Q=>match x,y with
 | .ref p,.int i=>bH K H p fun xs=>match cM xs i with
  | some v=>Q v H
  | none=>False
 | .str z,.int i=>z.length<=sizeLine/\match cM z.cps.toList i with
  | some c=>Q (.str ⟨#[c]⟩) H
  | none=>False
 | _,_=>False
def fm.imp {r r':R2} (h:fm X r) (i:∀ x y H Q,r' x y H Q->r x y H Q):fm X r':=fun value slice pins s σ H x y v u Q I rx ry q=>h value slice pins s σ H x y v u Q I rx ry (i x y H Q q)
def qx:fm X (qk X.K):=Um.imp fun x y H Q h=>by
 unfold qk at h;split at h
 ·obtain ⟨xs,h1,h2⟩:=vp h;split at h2
  ·rename_i v e;rcases h1 with h1 | h1
   ·exact .inl ⟨_,xs,_,v,rfl,rfl,h1,e,h2⟩
   ·exact .inr (.inl ⟨_,xs,_,v,rfl,rfl,h1,e,h2⟩)
  ·exact h2.elim
 ·obtain ⟨h1,h2⟩:=h;split at h2
  ·rename_i d e;exact .inr (.inr ⟨_,_,d,rfl,rfl,h1,e,h2⟩)
  ·exact h2.elim
 ·exact h.elim
def vZ (K:PySem.W.Frag):V->Option Int->Option Int->Hp->VK->Prop:=fun x lo hi H Q=>match x with
 | .str z=>z.length<=sizeLine/\Q (.str (Txt.slice z lo hi)) H
 | .ref a=>ug K H a fun xs=>∀ p,H p=none->Q (.ref p) (upd H p (.lst (fi xs lo hi)))
 | _=>False
def W8:jx X (vZ X.K):=by
 intro pins s σ H x v vl vu lo hi sl Q I rx hs pl pu h;refine (TK.or PX) pins s σ H x v vl vu lo hi sl Q I rx hs pl pu ?_;unfold vZ at h;split at h
 ·exact .inl h
 ·obtain ⟨xs,h1,h2⟩:=Ay h;exact .inr ⟨_,xs,rfl,h1,h2⟩
 ·exact h.elim
def Cy (t:TE):TO:=fun σ H Q=>t σ H fun x H1=>match x with
 | .int i=>Q (some i) H1
 | _=>False
def XY {e:Expr} {te:TE} (h:PE X e te):PO X (some e) (Cy te):=by
 intro pins s σ H Q I q;refine evalPart_some_step (aC (h pins s σ H _ I q) fun v s1 ⟨x,H1,I1,r1,q1⟩=>?_);have q1':∃ i,x=.int i/\Q (some i) H1:=by
  dsimp only at q1;split at q1
  ·exact ⟨_,rfl,q1⟩
  ·exact q1.elim
 obtain ⟨i,rfl,z1⟩:=q1';obtain ⟨t,rfl⟩:=r1;exact ⟨some i,H1,I1,.int i t,z1⟩
def Dj:uq:=fun o i v H Q=>match o,i with
 | .ref p,.int k=>match H p with
  | some (.lst xs)=>(match gv xs.length k with
   | some j=>Q (upd H p (.lst (xs.set j v)))
   | none=>False)
  | _=>False
 | _,_=>False
def MF:wt X Dj:=by
 intro pins s σ H o i v ov iv u Q I ro ri rv h;refine set_list pins s σ H o i v ov iv u Q I ro ri rv ?_;unfold Dj at h;split at h
 ·split at h
  ·rename_i xs h1;split at h
   ·rename_i j h2;exact ⟨_,xs,_,j,rfl,rfl,h1,h2,h⟩
   ·exact h.elim
  ·exact h.elim
 ·exact h.elim
def dg.imp {id:String} {r r':V->List V->Hp->VK->Prop} (h:dg X id r) (i:∀ x xs H Q,r' x xs H Q->r x xs H Q):dg X id r':=fun pins s σ H x xs v us Q I rx rv q=>h pins s σ H x xs v us Q I rx rv (i x xs H Q q)
def yV:V->List V->Hp->VK->Prop:=fun x vs H Q=>match x,vs with
 | .ref l,[y]=>match H l with
  | some (.lst xs)=>xs.length < sizeLine/\Q .au (upd H l (.lst (xs++[y])))
  | _=>False
 | _,_=>False
def iI:dg X "list.append" yV:=dg.imp Rg fun x xs H Q h=>by
 unfold yV at h;split at h
 ·split at h
  ·rename_i zs h1;exact ⟨_,zs,_,rfl,rfl,h1,h.1,h.2⟩
  ·exact h.elim
 ·exact h.elim
def zf:V->List V->Hp->VK->Prop:=fun x vs H Q=>match x,vs with
 | .ref l,[.ref b]=>match H l,H b with
  | some (.lst xs),some (.lst zs)=>xs.length+zs.length<=sizeLine/\Q .au (upd H l (.lst (xs++zs)))
  | _,_=>False
 | _,_=>False
def WN:dg X "list.extend" zf:=dg.imp Zs fun x xs H Q h=>by
 unfold zf at h;split at h
 ·split at h
  ·rename_i zs ws h1 h2;exact ⟨_,_,zs,ws,rfl,rfl,h1,h2,h.1,h.2⟩
  ·exact h.elim
 ·exact h.elim
def clsName (H:Hp):V->Option String
 | .au=>some "NoneType"
 | .bl _=>some "bool"
 | .int _=>some "int"
 | .str _=>some "str"
 | .ref p=>match H p with
  | some (.lst _)=>some "list"
  | some (.tup _)=>some "tuple"
  | some (.dK _)=>some "dict"
  | _=>none
 | _=>none
def w9 (T n:String):Bool:=T == n || (T == "bool" && n == "int")
def VI {K:PySem.W.Frag} {H:Hp} {x:V} {T:String} (h:clsName H x=some T):fw K H x (.type T)/\T∈["NoneType","bool","int","str","list","tuple","dict"]:=by
 unfold clsName at h;split at h
 ·cases h; exact ⟨.au,by simp⟩
 ·cases h; exact ⟨.bl _,by simp⟩
 ·cases h; exact ⟨.int _,by simp⟩
 ·cases h; exact ⟨.str _,by simp⟩
 ·split at h
  ·rename_i e; cases h; exact ⟨.lst e,by simp⟩
  ·rename_i e; cases h; exact ⟨.tup e,by simp⟩
  ·rename_i e; cases h; exact ⟨.dK e,by simp⟩
  ·cases h
 ·cases h
def SQ (K:PySem.W.Frag):∀ T,T∈["NoneType","bool","int","str","list","tuple","dict"]->∀ n,n∈["bool","int","str","list","tuple","dict"]->PySem.W.kitOne K (.type T) (.type n)=some (w9 T n):=by
 intro T hT n hn;simp only [AT,List.mem_nil_iff,KB] at hT hn;rcases hT with rfl | rfl | rfl | rfl | rfl | rfl | rfl <;> rcases hn with rfl | rfl | rfl | rfl | rfl | rfl <;> kernel_rfl
def C8:List V->Hp->VK->Prop:=fun xs H Q=>match xs with
 | [x,.ty n]=>n∈["bool","int","str","list","tuple","dict"]/\match clsName H x with
  | some T=>Q (.bl (w9 T n)) H
  | none=>False
 | _=>False
def j3:cA X (.builtin "isinstance") C8:=aba.imp fun xs H Q h=>by
 unfold C8 at h;split at h
 ·rename_i x n;obtain ⟨hn,h⟩:=h;split at h
  ·rename_i T e;obtain ⟨h1,h2⟩:=VI (K:=X.K) e;exact ⟨_,_,.inl ⟨_,rfl⟩,h1,SQ _ T h2 n hn,h⟩
  ·exact h.elim
 ·exact h.elim
def AM (r:V->List V->Hp->VK->Prop) (to:TE) (t:TA):TE:=fun σ H Q=>to σ H fun x H1=>match x with
 | .str z=>t σ H1 fun xs H2=>r (.str z) xs H2 Q
 | _=>False
def zb (r:V->List V->Hp->VK->Prop) (to:TE) (t:TA):TE:=fun σ H Q=>to σ H fun x H1=>match x with
 | .ref l=>(match H1 l with
  | some (.lst _)=>t σ H1 fun xs H2=>r (.ref l) xs H2 Q
  | _=>False)
 | _=>False
section
variable {T:String} {name:Str} {id:String} {r:V->List V->Hp->VK->Prop} {o e:Expr} {es:List Expr} {to:TE} {t:TA} {apos bA:Pos}
def Ys (slot:Slot "str" name id) (cE:typeOf (.builtin id)=pure (.type "method_descriptor")) (hm:dg X id r) (ho:PE X o to) (ha:PA X (e::es) t)
  (hs:(e::es).all noStar=true:=by rfl) (bf:decide ((e::es).length+([]:List Keyword).length+(if ([]:List Keyword).isEmpty then 0 else 1) < 30)=true:=by rfl)
  (iU:attributeBase o name X.env (eval o X.env)=eval o X.env:=by rfl) (ja:(apos.endLine == bA.line)=true:=by rfl) :
  PE X (.Call (.Attribute o name apos) (e::es) [] bA) (AM r to t):=by
 have hs':=hs;rw [TD,IR] at hs';have aU:starEach (e::es) X.env=(false,eval e X.env)::starEach es X.env:=fh hs'.1;have D3:(backTo bA (starEach es X.env)).any (·.1)=false:=ib hs'.2;have EC:((backTo bA (starEach (e::es) X.env)).all (fun x=>!x.1) && (backToKw bA (keywordEach [] X.env)).all (fun x=>x.1.isSome)
   && decide ((e::es).length+([]:List Keyword).length+(if ([]:List Keyword).isEmpty then 0 else 1) < 30))=true:=by
  rw [Cb hs,bf];rfl
 intro pins s σ H Q I h;refine wpAny_Call_method_late iU EC ja rfl (aC (ho pins s σ H _ I h) fun v s1 ⟨x,H1,I1,r1,q1⟩=>?_);dsimp only at q1;split at q1
 ·rename_i z;obtain ⟨h1,h2⟩:=z9 (T := "str") I1 r1 rfl;refine ⟨"str",id,PySem.F.plainAttrs_str,slot,cE,h1,h2,?_⟩;have hA:=ha bA pins s1 σ H1 _ I1 q1;rw [aU] at hA ⊢;refine _K (by show (false || (backTo bA (starEach es X.env)).any (·.1))=false; rw [D3] <;> rfl) (_X ?_);exact aC hA fun us s2 ⟨vs,H2,I2,r2,q2⟩=>hm pins s2 σ H2 (.str z) vs v us Q I2 r1 r2 q2
 ·exact q1.elim
def U4 (slot:Slot "list" name id) (cE:typeOf (.builtin id)=pure (.type "method_descriptor")) (hm:dg X id r) (ho:PE X o to) (ha:PA X (e::es) t)
  (hs:(e::es).all noStar=true:=by rfl) (bf:decide ((e::es).length+([]:List Keyword).length+(if ([]:List Keyword).isEmpty then 0 else 1) < 30)=true:=by rfl)
  (iU:attributeBase o name X.env (eval o X.env)=eval o X.env:=by rfl) (ja:(apos.endLine == bA.line)=true:=by rfl) :
  PE X (.Call (.Attribute o name apos) (e::es) [] bA) (zb r to t):=by
 have hs':=hs;rw [TD,IR] at hs';have aU:starEach (e::es) X.env=(false,eval e X.env)::starEach es X.env:=fh hs'.1;have D3:(backTo bA (starEach es X.env)).any (·.1)=false:=ib hs'.2;have EC:((backTo bA (starEach (e::es) X.env)).all (fun x=>!x.1) && (backToKw bA (keywordEach [] X.env)).all (fun x=>x.1.isSome)
   && decide ((e::es).length+([]:List Keyword).length+(if ([]:List Keyword).isEmpty then 0 else 1) < 30))=true:=by
  rw [Cb hs,bf];rfl
 intro pins s σ H Q I h;refine wpAny_Call_method_late iU EC ja rfl (aC (ho pins s σ H _ I h) fun v s1 ⟨x,H1,I1,r1,q1⟩=>?_);dsimp only at q1;split at q1
 ·rename_i l;split at q1
  ·rename_i zs el;obtain ⟨h1,h2⟩:=z9 (T := "list") I1 r1 (.inl ⟨rfl,zs,aD.of el⟩);refine ⟨"list",id,PySem.F.plainAttrs_list,slot,cE,h1,h2,?_⟩;have hA:=ha bA pins s1 σ H1 _ I1 q1;rw [aU] at hA ⊢;refine _K (by show (false || (backTo bA (starEach es X.env)).any (·.1))=false; rw [D3] <;> rfl) (_X ?_);exact aC hA fun us s2 ⟨vs,H2,I2,r2,q2⟩=>hm pins s2 σ H2 (.ref l) vs v us Q I2 r1 r2 q2
  ·exact q1.elim
 ·exact q1.elim
end
def U2 {CX:dH} {P:Program} {w:World} {K:PySem.W.Frag} {mg:Str->Option Value} {base:Heap} {N:List Str} {qual:Str} {scope:Scope} {f:Addr} {cd:Value} {A:Around} {outer:List Env} {s:Shared} {H:Hp} {E:XK} :
  (bT CX P w K mg base N qual scope f cd A outer s H E).K=K:=rfl
def gz {α:Type} (a:α) (l:List α):cM (a::l) 0=some a:=gQ (j:=0) rfl
def wN {α:Type} (a b:α) (l:List α):cM (a::b::l) 1=some b:=gQ (j:=1) rfl
def LZ {α:Type} (a b c:α) (l:List α):cM (a::b::c::l) 2=some c:=gQ (j:=2) rfl
def Rk (n:Nat):gv (n+1) 0=some 0:=by
 unfold gv;rw [IN (by decide),IN (by omega)];rfl
def Vr (n:Nat):gv (n+3) 2=some 2:=by
 unfold gv;rw [IN (by decide),IN (by omega)];rfl
def Tp {H:Hp} {p b:Addr} {o u:HO} (h:H b=some u) (hp:H p=Option.none):upd H p o b=some u:=by rw [aj (fV h hp)]; exact h
def gC:bootBuiltins "isinstance" = some (.builtin "isinstance"):=by decide +kernel
def Iu:bootBuiltins "all" = some (.builtin "all"):=by decide +kernel
def qm:bootBuiltins "str" = some (.type "str"):=by decide +kernel
def Xe:bootBuiltins "bool" = some (.type "bool"):=by decide +kernel
def Bi:bootBuiltins "int" = some (.type "int"):=by decide +kernel
def xh:bootBuiltins "list" = some (.type "list"):=by decide +kernel
end
abbrev KY (ifs:List Expr) (env:Env):Sem Bool:=forIn ifs true fun c r=>if r=true then do let ok <- isTrue c env (eval c env); pure (ForInStep.yield ok) else pure (ForInStep.yield r)
section
variable {prog:Program} {w:World} {A:Around} {R:Result->Shared->Prop} {s:Shared}
def TQ {elt tg iter:Expr} {ifs:List Expr} {scope:Scope} {pos:Pos} {it acc:Value} {env:Env} (J:Nat->Shared->Prop) (hN:∀ e s',notedBy (model prog w) A env (fun e s'=>R (.error e) s') e s'->True)
  (turn:∀ n s,J n s->wpAny (model prog w) A (pyNext it) (fun r s1=>match r with
   | none=>R (.ok .next) s1
   | some v=>wpAny (model prog w) A (letOwnedTupleGo tg it v) (fun _ s2=>wpAny (model prog w) A (assign tg env v) (fun _ s3=>wpAny (model prog w) A (KY ifs env)
     (fun ok s4=>if ok=true then wpAny (model prog w) A (eval elt env) (fun x s5=>wpAny (model prog w) A (call (.builtin "list.append") [acc,x]) (fun _ s6=>∃ m,m < n/\J m s6) (fun _ _=>False) s5) (fun _ _=>False) s4
      else ∃ m,m < n/\J m s4) (fun _ _=>False) s3) (fun _ _=>False) s2) (fun _ _=>False) s1) (fun _ _=>False) s)
  (n:Nat) (h:J n s):codeAny (model prog w) A (.compLoop (.ListComp elt [⟨tg,iter,ifs,0⟩] scope pos) 0 it acc env) R s:=by
 have no:∀ {E:Value->Shared->Prop} (e:Value) (s':Shared),False->E e s':=fun _ _ z=>z.elim;refine codeAny_loop rfl J (fun n s hI=>?_) n h;refine (show wpAny _ A (Sem.onRaise (compTurn (.ListComp elt [⟨tg,iter,ifs,0⟩] scope pos) 0 it acc env) (fun x=>do noteFrame x env; theTreesLotGoes x)) _ _ s from ?_);refine wpAny_noted ?_;rw [compTurn_list];refine wT (Jaj (wT (Ty (turn n s hI) (fun r s1 q1=>?_) no)));cases r with
 | none=>exact Cl q1
 | some v =>
  refine wT (Ty q1 (fun _ s2 q2=>wT (Ty q2 (fun _ s3 q3=>wT (Ty q3 (fun ok s4 q4=>?_) no)) no)) no);cases ok with
  | false=>exact Cl ⟨rfl,q4⟩
  | true=>exact wT (wT (Ty q4 (fun x s5 q5=>wT (Ty q5 (fun _ s6 q6=>Cl (Cl ⟨rfl,q6⟩)) no)) no))
end
def pW (X:Cx) (ifs:List Expr) (t:TT):Prop :=
 ∀ (pins:List (Addr×Obj)) (s:Shared) (σ:St) (H:Hp) (Q:Bool->Hp->Prop),Inv X pins σ H s->t σ H Q->wpAny (model X.prog X.w) X.A (KY ifs X.env) (TP X pins σ Q) X.xe s
def nN:TT:=fun _ H Q=>Q true H
def UP {X:Cx}:pW X [] nN:=fun _ _ _ H _ I h=>wpAny_tests_nil ⟨H,I,h⟩
def YW {X:Cx} {c:Expr} {t:TT} (h:PT X c t):pW X [c] t:=fun pins s σ H Q I q=>wpAny_tests_one (h pins s σ H Q I q)
def vb (wi:TI) (tt:TT) (te:TE):TE:=fun σ H Q=>wi σ H fun J H1=>∃ W:Nat->List V->Nat->Hp->Prop,(∃ m,W 0 [] m H1)/\∀ i ys m H,W i ys m H ->
 ys.length<=sizeLine/\((J.stop i H/\∀ l,H l=none->Q (.ref l) (upd H l (.lst ys))) \/
  (J.go i H/\ys.length < sizeLine/\∀ y H',J.jX i H y H'->tt [some y] H' fun c H2=>if c=true then te [some y] H2 fun z H3=>∃ m',m' < m/\W (i+1) (ys++[z]) m' H3 else ∃ m',m' < m/\W (i+1) ys m' H2))
section
variable {X:Cx}
structure DP (X:Cx) (pins:List (Addr×Obj)) (H:Hp) (C:Addr):Prop where
 fr:H C=none
 nl:C≠X.env.locals
 ab:X.s₀.heap.objs.size<=C
 nc:∀ x c,X.env.cells.lookup x=some c->c≠C
 np:∀ p∈X.pn++pins,p.1≠C
def DP.go {pins:List (Addr×Obj)} {σ:St} {H:Hp} {s:Shared} {C:Addr} {h':Heap} (o:DP X pins H C) (I:Inv X pins σ H s) (hs:Heap.SameBut C s.heap h'):Inv X pins σ H { s with heap:=h' } :=
 I.turned (t':=s.toks) (fun b ob hb e=>(hs.2 b hb).trans e) o.fr o.nl (.inr o.ab) o.nc o.np
end
def cJ (st:Addr) (H H':Hp):Prop:=∀ c o,c≠st->H c=some o->H' c=some o
def cJ.trans {st:Addr} {H H1 H2:Hp} (a:cJ st H H1) (b:cJ st H1 H2):cJ st H H2:=fun c o n e=>b c o n (a c o n e)
def ai.upd {H:Hp} {p:Addr} {o:HO} (h:H p=Option.none):ai H (upd H p o):=fun b u e=>by rw [aj (fV e h)]; exact e
def ai.keep {H H':Hp} (h:ai H H') (st:Addr):cJ st H H':=fun c o _ e=>h c o e
def cJ.upd {H:Hp} {p:Addr} {o:HO}:cJ p H (upd H p o):=fun c u n e=>by rw [aj n]; exact e
def cJ.same {H H1 H':Hp} {st:Addr} (a:ai H H1) (h:H st=Option.none) (k:cJ st H1 H'):ai H H':=fun c o e=>k c o (fV e h) (a c o e)
def wZ:V->Bool
 | .str _=>true
 | _=>false
def mE (t:TE):TE:=fun σ H Q=>∃ M:VK,t σ H M/\∀ v H1,M v H1->Q v H1
def mA (t:TA):TA:=fun σ H Q=>∃ M:List V->Hp->Prop,t σ H M/\∀ v H1,M v H1->Q v H1
def PE.m {X:Cx} {e:Expr} {t:TE} (h:PE X e t):PE X e (mE t):=fun pins s σ H Q I ⟨M,h1,h2⟩=>aC (h pins s σ H M I h1) fun _ _ ⟨v,H1,I1,r,q⟩=>⟨v,H1,I1,r,h2 v H1 q⟩
def PA.m {X:Cx} {e:List Expr} {t:TA} (h:PA X e t):PA X e (mA t):=fun pos pins s σ H Q I ⟨M,h1,h2⟩=>aC (h pos pins s σ H M I h1) fun _ _ ⟨v,H1,I1,r,q⟩=>⟨v,H1,I1,r,h2 v H1 q⟩
def PI.imp {X:Cx} {tg it:Expr} {t t':TI} (h:PI X tg it t) (i:∀ σ H R,t' σ H R->t σ H R):PI X tg it t':=fun pins s σ H R I hw=>h pins s σ H R I (i σ H R hw)
def BW (ta:TA):TI:=fun σ H R=>ta σ H fun vs H1=>match vs with
 | [.int j]=>(-(2 ^ 62)<=j/\j < 2 ^ 62)/\R (jZ 0 j.toNat) H1
 | _=>False
def VB {X:Cx} {tg a:Expr} {ta:TA} {p pos:Pos} (hg:Gl X "range") (hm:X.mg "range" = none) (ha:PA X [a] ta) (hs:starEach [a] X.env=[(false,eval a X.env)]:=by rfl):PI X tg (.Call (.Name "range" p) [a] [] pos) (BW ta) :=
 (XQ hg hm ha.m hs).imp fun σ H R h=>⟨_,h,fun vs H1 z=>by
  split at z
  ·exact ⟨_,rfl,z.1.1,z.1.2,z.2⟩
  ·exact z.elim⟩
def zO (K:PySem.W.Frag) (tl:TE):TI:=fun σ H R=>tl σ H fun x H1=>match x with
 | .ref a=>(∃ xs,aD K H1 a xs)/\R (lz K a) H1
 | _=>False
def Qb {X:Cx} {tg l:Expr} {tl:TE} (hl:PE X l tl):PI X tg l (zO X.K tl):=(UK hl.m).imp fun σ H R h=>⟨_,h,fun x H1 z=>by
  split at z
  ·exact ⟨_,rfl,z.1,z.2⟩
  ·exact z.elim⟩
def Du (J:It) (g:TG) (tb:TS) (D:Ends) (σ:St) (H1:Hp):Prop:=∃ W:Nat->Nat->St->Hp->Prop,(∃ m,W 0 m σ H1)/\∀ i m σ H,W i m σ H ->
 (J.stop i H/\D.nx σ H)\/(J.go i H/\∃ N:St->Hp->Prop,(∀ σ' H',N σ' H'->∃ m',m' < m/\W (i+1) m' σ' H')/\∀ x H',J.jX i H x H'->g x σ H' fun σ2 H2=>tb { D with nx:=N,ct:=N,bk:=D.nx } σ2 H2)
def Qj {wi:TI} {g:TG} {tb:TS} {D:Ends} {σ:St} {H:Hp}:DO wi g tb D σ H=wi σ H fun J H1=>Du J g tb D σ H1:=rfl
def Tg {lo:Int} {n:Nat} {g:TG} {tb:TS} {D:Ends} {σ:St} {H:Hp} (Pv:Nat->St->Hp->Prop) (h0:Pv 0 σ H)
  (hs:∀ i σ H,i < n->Pv i σ H->g (.int (lo+i)) σ H fun σ2 H2=>tb { D with nx:=Pv (i+1),ct:=Pv (i+1),bk:=D.nx } σ2 H2) (hd:∀ σ H,Pv n σ H->D.nx σ H):Du (jZ lo n) g tb D σ H:=S4 Pv h0 hs hd
def Ck {K:PySem.W.Frag} {a:Addr} {xs:List V} {g:TG} {tb:TS} {D:Ends} {σ:St} {H:Hp} (Pv:Nat->St->Hp->Prop) (h0:Pv 0 σ H) (hl:∀ i σ H,i<=xs.length->Pv i σ H->aD K H a xs)
  (hs:∀ i x σ H,xs[i]?=some x->Pv i σ H->g x σ H fun σ2 H2=>tb { D with nx:=Pv (i+1),ct:=Pv (i+1),bk:=D.nx } σ2 H2) (hd:∀ σ H,Pv xs.length σ H->D.nx σ H):Du (lz K a) g tb D σ H:=Xa Pv h0 hl hs hd
def fits {n:Nat} (h:n<=1000):n<=sizeLine:=Jax (Mq h)
def nv {n:Nat} (h:n<=1000):n < sizeLine:=Mq h
def sP (t u:TS):TS:=fun D σ H=>∃ P:St->Hp->Prop,t { D with nx:=P } σ H/\∀ σ' H',P σ' H'->u D σ' H'
def VO {X:Cx} {st:Stmt} {rest:List Stmt} {t u:TS} (h1:PS X st t) (h2:cX X rest u):cX X (st::rest) (sP t u):=by
 intro pins s σ H D I h;obtain ⟨P,ht,hu⟩:=h;have h1':PS X st (fun D' σ' H'=>D'={ D with nx:=P }/\t D' σ' H'):=h1.imp fun _ _ _ z=>z.2;have h2':cX X rest (fun D' σ' H'=>P σ' H'/\D'=D):=fun pins s σ H D' I z=>by
  obtain ⟨z1,rfl⟩:=z;exact h2 pins s σ H D' I (hu σ H z1)
 refine TR (t:=fun D' σ' H'=>t { D with nx:=P } σ' H'/\D'.rt=D.rt/\D'.bk=D.bk/\D'.ct=D.ct/\∀ σ'' H'',P σ'' H''->D'.nx σ'' H'') (u:=fun D' σ' H'=>P σ' H'/\D'=D) ?_ h2' pins s σ H D I ⟨ht,rfl,rfl,rfl,fun σ'' H'' z=>⟨z,rfl⟩⟩;intro pins s σ H D' I z;obtain ⟨z1,z2,z3,z4,z5⟩:=z;refine aC (h1 pins s σ H { D with nx:=P } I z1) fun f s' hq=>?_;cases f with
 | next=>obtain ⟨σ',H',I',q⟩:=hq; exact ⟨σ',H',I',z5 _ _ q⟩
 | brk=>obtain ⟨σ',H',I',q⟩:=hq; exact ⟨σ',H',I',by rw [z3]; exact q⟩
 | cont=>obtain ⟨σ',H',I',q⟩:=hq; exact ⟨σ',H',I',by rw [z4]; exact q⟩
 | ret u=>obtain ⟨v,σ',H',I',r,q⟩:=hq; exact ⟨v,σ',H',I',r,by rw [z2]; exact q⟩
def ah {t u:TS} {D:Ends} {σ:St} {H:Hp} (h:t { D with nx:=u D } σ H):sP t u D σ H:=⟨u D,h,fun _ _ z=>z⟩
def jY {t u:TS} {D:Ends} {σ:St} {H:Hp} (P:St->Hp->Prop) (h1:t { D with nx:=P } σ H) (h2:∀ σ' H',P σ' H'->u D σ' H'):sP t u D σ H:=⟨P,h1,h2⟩
def Dz {H:Hp} {x:V} {T:String} (h:clsName H x=some T):w9 T "str" = wZ x:=by
 unfold clsName at h;split at h
 ·cases h; rfl
 ·cases h; rfl
 ·cases h; rfl
 ·cases h; rfl
 ·split at h
  ·cases h; rfl
  ·cases h; rfl
  ·cases h; rfl
  ·cases h
 ·cases h
def OU (H:Hp) (z:Str):clsName H (.str z)=some "str" := rfl
def Su (H:Hp) (z:Bool):clsName H (.bl z)=some "bool" := rfl
def YE (H:Hp) (z:Int):clsName H (.int z)=some "int" := rfl
def UU (H:Hp):clsName H .au=some "NoneType" := rfl
def PD {H:Hp} {p:Addr} {xs:List V} (h:H p=some (.lst xs)):clsName H (.ref p)=some "list" := by simp only [clsName,h]
def wb (n:String) (h:["bool","int","str","list","tuple","dict"].contains n=true):n∈["bool","int","str","list","tuple","dict"]:=by simpa using h
def vJ (K:PySem.W.Frag):R2:=fun x y H Q=>match y with
 | .ref p=>∃ xs,(aD K H p xs\/bo K H p xs)/\cI x=true/\xs.all cI=true/\Q (.bl (f7 x xs)) H
 | _=>False
def YZ {X:Cx}:aY X (compareOp .In) (vJ X.K):=Hw.imp fun x y H Q h=>by
 unfold vJ at h;split at h
 ·obtain ⟨xs,h1,h2,h3,h4⟩:=h;exact ⟨_,xs,rfl,h1,h2,h3,h4⟩
 ·exact h.elim
section
variable {X:Cx} {K:PySem.W.Frag}
def zr (h:X.K=K):aY X (compareOp .In) (wF K):=h ▸ O4
def vP (h:X.K=K):aY X (compareOp .In) (vJ K):=h ▸ YZ
def lV (h:X.K=K):cA X (.builtin "len") (wk K):=h ▸ O0
def Gs (h:X.K=K) (hc:X.calm=true):cA X (.builtin "all") (u6 K):=h ▸ Rb hc
def Jf (h:X.K=K):cA X (.type "list") (vf K):=h ▸ XI
def bP (h:X.K=K):fm X (qk K):=h ▸ qx
def nR (h:X.K=K):jx X (vZ K):=h ▸ W8
def ve (h:X.K=K):dg X "str.join" (rJoin K):=h ▸ Sn
end
def su (J:It) (tt:TT) (te:TE) (Q:VK) (H0:Hp):Prop:=∃ W:Nat->List V->Nat->Hp->Prop,(∃ m,W 0 [] m H0)/\∀ i ys m H,W i ys m H ->
 ys.length<=sizeLine/\((J.stop i H/\∀ l,H l=none->Q (.ref l) (upd H l (.lst ys))) \/
  (J.go i H/\ys.length < sizeLine/\∀ y H',J.jX i H y H'->tt [some y] H' fun c H2=>if c=true then te [some y] H2 fun z H3=>∃ m',m' < m/\W (i+1) (ys++[z]) m' H3 else ∃ m',m' < m/\W (i+1) ys m' H2))
def MB {wi:TI} {tt:TT} {te:TE} {σ:St} {H:Hp} {Q:VK}:vb wi tt te σ H Q=wi σ H fun J H1=>su J tt te Q H1:=rfl
def Xk {z:Str} {te:TE} {H:Hp} {Q:VK} (f:Nat->V) (hz:z.length<=sizeLine)
  (he:∀ c,c∈z.cps.toList->∀ H1,ai H H1->∀ R:VK,(∀ H2,ai H1 H2->R (f c) H2)->te [some (.str ⟨#[c]⟩)] H1 R)
  (q:∀ H1,ai H H1->∀ l,H1 l=none->Q (.ref l) (upd H1 l (.lst (z.cps.toList.map f)))):su (wY z) nN te Q H:=by
 have hl:z.cps.toList.length=z.length:=by simp [Str.length]
 refine ⟨fun i ys m H1=>ai H H1/\ys=(z.cps.toList.take i).map f/\i<=z.length/\m=z.length - i,⟨_,ai.refl H,rfl,GT _,rfl⟩,?_⟩;rintro i ys m H1 ⟨s1,rfl,hi,rfl⟩;have hlen:((z.cps.toList.take i).map f).length=i:=by rw [At,_0,hl]; omega
 refine ⟨by rw [hlen]; omega,?_⟩;by_cases h:i < z.length
 ·refine .inr ⟨h,by rw [hlen]; omega,?_⟩;rintro y H' ⟨rfl,c,hc,rfl⟩;have FF:z.cps.toList[i]?=some c:=by simpa using hc
  simp only [nN,if_true];refine he c (UV FF) H' s1 _ fun H2 s2=>⟨_,?_,s1.trans s2,?_,h,rfl⟩
  ·omega
  ·rw [List.take_add_one,FF,Tm]; rfl
 ·have N9:i=z.length:=by omega
  refine .inl ⟨Nat.le_of_eq N9.symm,fun l hl'=>?_⟩;have:=q H1 s1 l hl';rw [_l (by rw [hl]; omega)];exact this
def Bc {K:PySem.W.Frag} {a:Addr} {xs:List V} {tt:TT} {te:TE} {H:Hp} {Q:VK} (p:V->Bool) (f:V->V) (D2:aD K H a xs) (hz:xs.length<=sizeLine)
  (ht:∀ x,x∈xs->∀ H1,ai H H1->∀ R:Bool->Hp->Prop,(∀ H2,ai H1 H2->R (p x) H2)->tt [some x] H1 R)
  (he:∀ x,x∈xs->p x=true->∀ H1,ai H H1->∀ R:VK,(∀ H2,ai H1 H2->R (f x) H2)->te [some x] H1 R)
  (q:∀ H1,ai H H1->∀ l,H1 l=none->Q (.ref l) (upd H1 l (.lst ((xs.filter p).map f)))):su (lz K a) tt te Q H:=by
 refine ⟨fun i ys m H1=>ai H H1/\ys=((xs.take i).filter p).map f/\i<=xs.length/\m=xs.length - i,⟨_,ai.refl H,rfl,GT _,rfl⟩,?_⟩;rintro i ys m H1 ⟨s1,rfl,hi,rfl⟩;have hlen:(((xs.take i).filter p).map f).length<=i:=by
  rw [At];refine Gc (Jad _ _) ?_;rw [_0]; omega
 refine ⟨by omega,?_⟩;by_cases h:i < xs.length
 ·have hx:xs[i]?=some xs[i]:=Db h;refine .inr ⟨⟨xs,xs[i],s1.seq D2,hx⟩,by omega,?_⟩;rintro y H' ⟨rfl,hy⟩;have Nt:xs[i]?=some y:=hy xs (s1.seq D2);have hm:y∈xs:=UV Nt;have e1:(xs.take (i+1)).filter p=(xs.take i).filter p++(if p y=true then [y] else []):=by
   rw [List.take_add_one,Nt,List.filter_append];by_cases hp:p y=true
   ·simp [hp]
   ·simp [hp]
  refine ht y hm H' s1 _ fun H2 s2=>?_;by_cases hp:p y=true
  ·rw [IN hp];refine he y hm hp H2 (s1.trans s2) _ fun H3 s3=>⟨_,?_,(s1.trans s2).trans s3,?_,h,rfl⟩
   ·omega
   ·rw [e1,IN hp,Tm]; rfl
  ·rw [Id hp];refine ⟨_,?_,s1.trans s2,?_,h,rfl⟩
   ·omega
   ·rw [e1,Id hp,_h]
 ·have N9:i=xs.length:=by omega
  refine .inl ⟨⟨xs,s1.seq D2,by omega⟩,fun l hl'=>?_⟩;have:=q H1 s1 l hl';rw [_l (by omega)];exact this
structure QE (X:Cx) (e:Expr) (t:TE):Prop where
 h:PE X e t
structure QA (X:Cx) (e:List Expr) (t:TA):Prop where
 h:PA X e t
structure QT (X:Cx) (e:Expr) (t:TT):Prop where
 h:PT X e t
structure QW (X:Cx) (e:Expr) (t:TT):Prop where
 h:PW X e t
structure QS (X:Cx) (e:Stmt) (t:TS):Prop where
 h:PS X e t
structure QB (X:Cx) (e:List Stmt) (t:TS):Prop where
 h:cX X e t
structure QI (X:Cx) (tg it:Expr) (t:TI):Prop where
 h:PI X tg it t
structure QG (X:Cx) (e:Expr) (t:TG):Prop where
 h:PG X e t
structure vL (X:Cx) (e:List Expr) (t:jB):Prop where
 h:tM X e t
structure pd (X:Cx) (e:List Expr) (t:TT):Prop where
 h:pW X e t
structure QO (X:Cx) (e:Option Expr) (t:TO):Prop where
 h:PO X e t
structure QP (X:Cx) (pos:Pos) (ks:List (Option Expr)) (vs:List Expr) (t:List (TE×TE)):Prop where
 h:Xi X pos ks vs t
namespace Dv
section
variable {X:Cx} {a b c:Expr} {ta tb tc:TE} {pos:Pos} {rest:List Expr} {tA tB':TT}
def v (i:Nat) {x:Str} {pos:Pos} (hN:X.N[i]?=some x:=by rfl) (hv:mW X.env.scope x:=by first | exact Or.inl rfl | exact Or.inr (Or.inl rfl) | exact Or.inr (Or.inr rfl)) (hd:(x == ("__debug__" : Str))=false:=by decide)
  (bF:(x == ("__classdict__" : Str))=false:=by decide):QE X (.Name x pos) (lx i):=⟨qv i hN hv hd bF⟩
def int {i j pos}:QE X (.Constant (.int i) j pos) (tC (.int i)):=⟨ZY⟩
def bl {b j pos}:QE X (.Constant (.bool b) j pos) (tC (.bl b)):=⟨aa7⟩
def au {j pos}:QE X (.Constant .none j pos) (tC .au):=⟨Tr⟩
def str {x j pos}:QE X (.Constant (.str x) j pos) (tC (.str x)):=⟨YM⟩
def glob {x:Str} (v:V) {u:Value} {pos:Pos} (hm:X.mg x=some u) (r:RelV v u) (hg:Gl X x:=by rfl) (hd:(x == ("__debug__" : Str))=false:=by decide):QE X (.Name x pos) (tC v):=⟨Yu hg hm r hd⟩
def kC {x:Str} (v:V) {u:Value} {pos:Pos} (hm:X.mg x=none) (hv:bootBuiltins x=some u) (r:RelV v u) (hg:Gl X x:=by rfl) (hn:x ≠ "__name__" := by decide) (hd:(x == ("__debug__" : Str))=false:=by decide):QE X (.Name x pos) (tC v):=⟨V1 hg hm hv r hn hd⟩
def op {o:Operator} {r:R2} (ho:aY X (binaryOp o) r) (ha:QE X a ta) (hb:QE X b tb):QE X (.BinOp a o b pos) (lA r ta tb):=⟨WG ho ha.h hb.h⟩
def un {o:UnaryOp} {r:V->Hp->VK->Prop} (ho:tI X (unaryOp o) r) (ha:QE X a ta):QE X (.UnaryOp o a pos) (Dw r ta):=⟨Zy ho ha.h⟩
def cmp {o:CmpOp} {r:R2} (ho:aY X (compareOp o) r) (ha:QE X a ta) (hb:QE X b tb) (hm:behindInMarks o b=false:=by first | exact wm _ (by decide) (by decide) | rfl):QE X (.Compare a [o] [b] pos) (lA r ta tb):=⟨Se ho ha.h hb.h hm⟩
def qh (ha:QE X a ta) (hb:QE X (.BoolOp .And (b::rest) pos) tb):QE X (.BoolOp .And (a::b::rest) pos) (DB ta tb):=⟨Rp ha.h hb.h⟩
def Qr (ha:QE X a ta) (hb:QE X (.BoolOp .Or (b::rest) pos) tb):QE X (.BoolOp .Or (a::b::rest) pos) (Cf ta tb):=⟨SY ha.h hb.h⟩
def one {o} {t:TE} (h:QE X a t):QE X (.BoolOp o [a] pos) t:=⟨Rc h.h⟩
def RO (ha:QE X a ta):QE X (.UnaryOp .Not a pos) (zB ta):=⟨Ym ha.h⟩
def ae:QA X [] mT:=⟨ZQ⟩
def aa {e:Expr} {es:List Expr} {te:TE} {t:TA} (ha:QE X e te) (hr:QA X es t) (hs:noStar e=true:=by rfl):QA X (e::es) (o8 te t):=⟨YB ha.h hr.h hs⟩
def call {CX:dH} {k:Nat} {f:Addr} {fd:FuncData} {ps:List Str} {sp:Sp} {bh:List V} {ds:List Value} {E:XK} {x:Str} {p pos:Pos} {e:Expr} {es:List Expr} {t:TA}
  (F:aB X.prog X.w X.K X.mg X.base CX k f fd ps sp) (hr:aZ k X.A) (hm:X.mg x=some (.ref f)) (hk:PySem.W.keepIn X.K (.ref f)=true) (hb:Binds X.K fd ps ds) (hd:Vals bh ds) (hx:Passes CX X E)
  (ha:QA X (e::es) t) (hg:Gl X x:=by rfl) (hs:(e::es).all noStar=true:=by rfl) (bM:(x == ("__debug__" : Str))=false:=by decide):QE X (.Call (.Name x p) (e::es) [] pos) (xq sp bh E t):=⟨PZ F hr hg hm hk hb hd hx ha.h hs bM⟩
def cO {x:Str} {p pos:Pos} {e:Expr} {es:List Expr} {t:TA} {id:String} {r:List V->Hp->VK->Prop} (hc:cA X (.builtin id) r) (hm:X.mg x=none) (hv:bootBuiltins x=some (.builtin id)) (ha:QA X (e::es) t)
  (hg:Gl X x:=by rfl) (hs:(e::es).all noStar=true:=by rfl) (hn:x ≠ "__name__" := by decide) (bM:(x == ("__debug__" : Str))=false:=by decide):QE X (.Call (.Name x p) (e::es) [] pos) (nM r t):=⟨RZ hc hg hm hv ha.h hs hn bM⟩
def t9 {x:Str} {p pos:Pos} {e:Expr} {es:List Expr} {t:TA} {T:String} {r:List V->Hp->VK->Prop} (hc:cA X (.type T) r) (hm:X.mg x=none) (hv:bootBuiltins x=some (.type T)) (ha:QA X (e::es) t)
  (hg:Gl X x:=by rfl) (hs:(e::es).all noStar=true:=by rfl) (hn:x ≠ "__name__" := by decide) (bM:(x == ("__debug__" : Str))=false:=by decide):QE X (.Call (.Name x p) (e::es) [] pos) (nM r t):=⟨aai hc hg hm hv ha.h hs hn bM⟩
section
variable {name:Str} {id:String} {r:V->List V->Hp->VK->Prop} {o e:Expr} {es:List Expr} {to:TE} {t:TA} {apos bA:Pos}
def iT (slot:Slot "str" name id) (cE:typeOf (.builtin id)=pure (.type "method_descriptor")) (hm:dg X id r) (ho:QE X o to) (ha:QA X (e::es) t)
  (hs:(e::es).all noStar=true:=by rfl) (bf:decide ((e::es).length+([]:List Keyword).length+(if ([]:List Keyword).isEmpty then 0 else 1) < 30)=true:=by rfl)
  (iU:attributeBase o name X.env (eval o X.env)=eval o X.env:=by rfl) (ja:(apos.endLine == bA.line)=true:=by rfl):QE X (.Call (.Attribute o name apos) (e::es) [] bA) (AM r to t):=⟨Ys slot cE hm ho.h ha.h hs bf iU ja⟩
def gq (slot:Slot "list" name id) (cE:typeOf (.builtin id)=pure (.type "method_descriptor")) (hm:dg X id r) (ho:QE X o to) (ha:QA X (e::es) t)
  (hs:(e::es).all noStar=true:=by rfl) (bf:decide ((e::es).length+([]:List Keyword).length+(if ([]:List Keyword).isEmpty then 0 else 1) < 30)=true:=by rfl)
  (iU:attributeBase o name X.env (eval o X.env)=eval o X.env:=by rfl) (ja:(apos.endLine == bA.line)=true:=by rfl):QE X (.Call (.Attribute o name apos) (e::es) [] bA) (zb r to t):=⟨U4 slot cE hm ho.h ha.h hs bf iU ja⟩
end
def tJ:QO X none DF:=⟨UM⟩
def kQ (h:QE X a ta):QO X (some a) (Cy ta):=⟨XY h.h⟩
def slice {r:V->Option Int->Option Int->Hp->VK->Prop} {lo hi:Option Expr} {tl th:TO} {p2:Pos} (hr:jx X r) (he:QE X a ta) (hl:QO X lo tl) (hu:QO X hi th):QE X (.Subscript a (.Slice lo hi none p2) pos) (Co r ta tl th):=⟨ZX hr he.h hl.h hu.h⟩
def ix {r:R2} (hr:fm X r) (ha:QE X a ta) (hb:QE X b tb) (hs:FW b:=by intro _ _; rfl):QE X (.Subscript a b pos) (lA r ta tb):=⟨RN hr ha.h hb.h hs⟩
def lst {es:List Expr} {t:TA} (h:QA X es t):QE X (.List es pos) (yE t):=⟨Zz h.h⟩
def tup {es:List Expr} {x1} {t:TA} (h:QA X es t):QE X (.Tuple es x1 pos) (vY t):=⟨Vy h.h⟩
def nE:QE X (.Dict [] [] pos) za:=⟨Ut⟩
def bO {o:CmpOp} {r:R2} (ho:aY X (compareOp o) r) (ha:QE X a ta) (hb:QE X b tb) (hm:behindInMarks o b=false:=by first | exact wm _ (by decide) (by decide) | rfl):QT X (.Compare a [o] [b] pos) (mK (lA r ta tb)):=⟨UH ho ha.h hb.h hm⟩
def zq {o o':CmpOp} {f g:Int->Int->Bool} (ho:aY X (compareOp o) (jF f)) (ho':aY X (compareOp o') (jF g)) (ha:QE X a ta) (hb:QE X b tb) (hc:QE X c tc)
  (hm:lastMarks [o,o'] [b,c]=false:=by with_unfolding_all rfl):QT X (.Compare a [o,o'] [b,c] pos) (zF f g ta tb tc):=⟨aap ho ho' ha.h hb.h hc.h hm⟩
def cC {t:TE} (h:QE X a t) (he:∀ whole,isTrue a X.env whole=(do let v <- whole; standAt a.pos; holding [v] (truthy v)):=by intro _; rfl):QT X a (mK t):=⟨Qd h.h he⟩
def dz (ha:QT X a tA):QT X (.UnaryOp .Not a pos) (Bl tA):=⟨R5 ha.h⟩
def il (h:QW X a tA):QT X a tA:=⟨h.h.pt⟩
def Ba (ha:QT X a tA):QW X (.BoolOp .And [a] pos) tA:=⟨aa4 ha.h⟩
def ku (ha:QT X a tA):QW X (.BoolOp .Or [a] pos) tA:=⟨Y7 ha.h⟩
def w_and (ha:QT X a tA) (hb:QW X (.BoolOp .And (b::rest) pos) tB'):QW X (.BoolOp .And (a::b::rest) pos) (BH tA tB'):=⟨O7 ha.h hb.h⟩
def w_or (ha:QT X a tA) (hb:QW X (.BoolOp .Or (b::rest) pos) tB'):QW X (.BoolOp .Or (a::b::rest) pos) (z8 tA tB'):=⟨Z1 ha.h hb.h⟩
variable {st:Stmt} {Ov:List Stmt} {t u:TS} {tg:Expr} {g:TG}
def iw (i:Nat) {x:Str} (hN:X.N.Nodup) (hi:X.N[i]?=some x:=by rfl) (hx:Loc X.env.scope x:=by first | exact Or.inl rfl | exact Or.inr rfl) (hf:X.fn x=true\/X.env.scope.names.lookup x=some .local:=by first | exact .inl rfl | exact .inr rfl):QG X (.Name x pos) (gd i):=⟨ZL hN hi hx hf⟩
def GH {o i:Expr} {to ti:TE} {s:uq} (ho:QE X o to) (hi:QE X i ti) (hs:wt X s) (ha:∀ v,assign (.Subscript o i pos) X.env v=(do
   let ov <- holding [v] (eval o X.env)
   let iv <- holding [v,ov] (eval i X.env)
   standAt pos
   holding [v,ov,iv] (setItem ov iv v)
   release [v,ov,iv] []):=by intro _; rfl):QG X (.Subscript o i pos) (Dl to ti s):=⟨Xh ho.h hi.h hs ha⟩
def Yp:vL X [] y4:=⟨Pf⟩
def LB {e:Expr} {es:List Expr} {t:TG} {u:jB} (h1:QG X e t) (h2:vL X es u) (hs:(assignEach (e::es) X.env).map (·.2)=assign e X.env::(assignEach es X.env).map (·.2):=by rfl):vL X (e::es) (CY t u):=⟨aaG h1.h h2.h hs⟩
def Xp {K:PySem.W.Frag} {es:List Expr} {k:Nat} {t:jB} {n:Nat} (hK:X.K=K) (hc:X.calm=true) (h:vL X es t) (hn:(assignEach es X.env).length=n:=by rfl) (aU:(assignEach es X.env).findIdx? (·.1)=none:=by rfl):QG X (.Tuple es k pos) (CI K n t):=hK ▸ ⟨T1 hc h.h hn aU⟩
def aO (i:Nat) {x:Str} {e:Expr} {te:TE} {pos':Pos} (hN:X.N.Nodup) (he:QE X e te) (hi:X.N[i]?=some x:=by rfl) (hx:Loc X.env.scope x:=by first | exact Or.inl rfl | exact Or.inr rfl) (hs:swapsWith e (some (.Name x pos')) pos.line X.env=pure false:=by rfl)
  (hf:X.fn x=true\/X.env.scope.names.lookup x=some .local:=by first | exact .inl rfl | exact .inr rfl):QS X (.Assign [.Name x pos'] e pos) (lW te (gd i)):=⟨SM hN hi hx he.h hs hf⟩
def IJ {e:Expr} {te:TE} (he:QE X e te) (hg:QG X tg g) (hs:swapsWithSole [tg] e pos.line X.env=pure false:=by rfl) (hw:swappedStores [tg] e X.env=pure none:=by rfl) (h1:(assignEach [tg] X.env).map (·.2)=[assign tg X.env]:=by rfl) :
  QS X (.Assign [tg] e pos) (lW te g):=⟨Z4 he.h hg.h hs hw h1⟩
def aL (he:QE X a ta):QS X (.Return (some a) pos) (yx ta):=⟨Yb he.h⟩
def LA:QS X (.Return none pos) Aj:=⟨Vb⟩
def aX (he:QE X a ta) (hs:swapsWith a none pos.line X.env=pure false:=by rfl):QS X (.Expr a pos) (AD ta):=⟨TL he.h hs⟩
def bt {A B:List Stmt} (hc:QT X a tA) (ha:QB X A t) (hb:QB X B u):QS X (.If a A B pos) (yQ tA t u):=⟨Wh hc.h ha.h hb.h⟩
def xb {iter:Expr} {body:List Stmt} {wi:TI} {tb:TS} (hp:PassesOwn (model X.prog X.w) X.A X.env X.xe) (hc:X.calm=true) (hi:QI X tg iter wi) (hg:QG X tg g) (hb:QB X body tb) (hs:∀ x,foldedSetIterable iter X.env x=pure x:=by intro _; rfl) :
  QS X (.For tg iter body [] pos) (DO wi g tb):=⟨Vz hp hc hi.h hg.h hb.h hs⟩
def nil:QB X [] zW:=⟨VP⟩
def aq (h1:QS X st t):QB X [st] t:=⟨Xy h1.h⟩
def cut (h1:QS X st t) (h2:QB X Ov u):QB X (st::Ov) (sP t u):=⟨VO h1.h h2.h⟩
def nS {K:PySem.W.Frag} {l:Expr} {tl:TE} (h:X.K=K) (hl:QE X l tl):QI X tg l (zO K tl):=h ▸ ⟨Qb hl.h⟩
def RK {l:Expr} {tl:TE} (hl:QE X l tl):QI X tg l (Cq tl):=⟨aa5 hl.h⟩
def z0 {ta:TA} {p:Pos} (hm:X.mg "range" = none) (ha:QA X [a] ta) (hg:Gl X "range" := by rfl) (hs:noStar a=true:=by rfl):QI X tg (.Call (.Name "range" p) [a] [] pos) (BW ta):=⟨VB hg hm ha.h (fh hs)⟩
def wU:pd X [] nN:=⟨UP⟩
def zg (h:QT X c tA):pd X [c] tA:=⟨YW h.h⟩
end
end Dv
end L2
namespace Tx
open PySem PySem.Builtin PySem.StrLaws
def BS {c a:Nat} (h:a=c) (r:List Nat):cut c (a::r)=[]::cut c r:=if_pos h
def Gp {c a:Nat} {r:List Nat} {x:List Nat} {y:List (List Nat)} (h:¬ a=c) (e:cut c r=x::y):cut c (a::r)=(a::x)::y:=by
 show (if a=c then _ else _)=_;rw [if_neg h,e]
def K4 (c:Nat):∀ (t r:List Nat),cut c (t++c::r)=cut c t++cut c r
 | [],r=>BS rfl r
 | a::t,r=>by
  have ih:=K4 c t r;show cut c (a::(t++c::r))=_;by_cases h:a=c
  ·rw [BS h,BS h,ih]; rfl
  ·cases e:cut c t with
   | nil=>exact absurd e (Ww c t)
   | cons x y =>
    rw [e] at ih;rw [Gp h ih,Gp h e]; rfl
def words (c:Nat) (t:List Nat):List (List Nat):=(cut c t).filter fun w=>decide (w≠[])
def rq (c:Nat) (t r:List Nat):words c (t++c::r)=words c t++words c r:=by
 unfold words;rw [K4,List.filter_append]
def zc (c:Nat) (r:List Nat):words c (c::r)=words c r:=rq c [] r
def JF (c:Nat) (r:List Nat):∀ n:Nat,words c (List.replicate n c++r)=words c r
 | 0=>rfl
 | n+1=>by
  show words c (c::(List.replicate n c++r))=_;rw [zc,JF c r n]
def Ij (c:Nat):∀ w:List Nat,c ∉ w->cut c w=[w]
 | [],_=>rfl
 | a::r,h=>by
  unfold cut;rw [if_neg (fun e=>h (by rw [e]; exact List.mem_cons_self)),Ij c r (fun m=>h (List.mem_cons_of_mem _ m))]
def wa (c:Nat) (w:List Nat) (h:c ∉ w) (hn:w≠[]):words c w=[w]:=by
 unfold words;rw [Ij c w h];simp [hn]
def vT (c:Nat):∀ t:List Nat,(cut c t).length<=t.length+1
 | []=>Nat.le_refl _
 | a::r=>by
  have ih:=vT c r;unfold cut;split
  ·simp only [List.length_cons]; omega
  ·split
   ·simp
   ·rename_i h t' e;rw [e] at ih;simp only [List.length_cons] at ih ⊢;omega
def Ir (t:List Nat) (c:Nat):((cut c t).map S).filter (fun z=>decide (z≠S []))=(words c t).map S:=by
 unfold words;rw [List.filter_map]
 congr 1
 refine List.filter_congr fun w _=>?_;show decide (S w≠S [])=decide (w≠[]);by_cases h:w=[]
 ·simp [h]
 ·have:S w≠S []:=fun e=>h (vU e);simp [h,this]
def DI (x:List Nat) (c:Nat):Txt.startswith (S x) (S [c])=decide (x.head?=some c):=by
 unfold Txt.startswith;rw [cw,cw];cases x with
 | nil=>simp
 | cons a r =>
  rw [subAt_one (a::r) c 0 (by simp)];simp
def Bx (x:List Nat) (c:Nat):Txt.endswith (S x) (S [c])=decide (x.getLast?=some c):=by
 unfold Txt.endswith;rw [cw,cw];cases hx:x with
 | nil=>simp
 | cons a r =>
  have hl:(a::r).length - [c].length < (a::r).length:=by simp
  rw [subAt_one (a::r) c _ hl];have e:(a::r)[(a::r).length - [c].length]?=(a::r).getLast?:=by
   rw [List.getLast?_eq_getElem?]; rfl
  rw [e];have:decide (0+[c].length<=(a::r).length)=true:=decide_eq_true (by simp);rw [this,Bool.true_and]
end Tx
namespace L2
open PySem PySem.Spec PyProof.Rows
def MG {A:Around} {s:Shared} {l1 l2:List (Str×Tok)} (j:Nat) (h1:j < (strValues l1).toArray.size) (h2:j < (strValues l2).toArray.size) :
  SeqAt.EqAt A s (strValues l1).toArray[j] (strValues l2).toArray[j] (decide ((l1.map (·.1))[j]?=(l2.map (·.1))[j]?)):=by
 have g1:j < l1.length:=by simpa [strValues] using h1
 have g2:j < l2.length:=by simpa [strValues] using h2
 have e1:(strValues l1).toArray[j]=Value.str l1[j].1 l1[j].2:=by simp [strValues]
 have e2:(strValues l2).toArray[j]=Value.str l2[j].1 l2[j].2:=by simp [strValues]
 rw [e1,e2];have e:decide ((l1.map (·.1))[j]?=(l2.map (·.1))[j]?)=(l1[j].1 == l2[j].1):=by
  rw [Op,Op,Db g1,Db g2];by_cases q:l1[j].1=l2[j].1
  ·simp [q]
  ·simp [q]
 rw [e];exact SeqAt.EqAt.str_str _ _ _ _
def all_eq {α:Type} [DecidableEq α] {xs ys:List α} (h:xs.length=ys.length):(List.range xs.length).all (fun j=>decide (xs[j]?=ys[j]?))=decide (xs=ys):=by
 rw [_t,GM,_f];constructor
 ·intro q;apply List.ext_getElem?;intro i;by_cases hi:i < xs.length
  ·exact of_decide_eq_true (q i (JaA.mpr hi))
  ·rw [Jae (by omega),Jae (by omega)]
 ·rintro rfl j _;simp
section
variable {X:Cx}
def Jz {pins:List (Addr×Obj)} {σ:St} {H:Hp} {s:Shared} {A:Around} {a b:Addr} {ts us:List Str} (I:Inv X pins σ H s) (ha:H a=some (.lst (ts.map V.str))) (hb:H b=some (.lst (us.map V.str))) (hu:A.units < cLine) :
  SeqAt.RcAt A s (.ref a) (.ref b) (decide (ts=us))/\SeqAt.RcNeAt A s (.ref a) (.ref b) (!decide (ts=us)):=by
 obtain ⟨i1,r1,p1,_⟩:=I.list (aD.of ha);obtain ⟨i2,r2,p2,_⟩:=I.list (aD.of hb);obtain ⟨l1,rfl,e1⟩:=vn r1;obtain ⟨l2,rfl,e2⟩:=vn r2;have n1:(strValues l1).toArray.size=ts.length:=by rw [<- e1]; simp [strValues]
 have n2:(strValues l2).toArray.size=us.length:=by rw [<- e2]; simp [strValues]
 by_cases h:ts.length=us.length
 ·have hsz:(strValues l1).toArray.size=(strValues l2).toArray.size:=by rw [n1,n2,h]
  have k1:=SeqAt.RcAt.lists (A:=A) p1.isList p2.isList hsz hu (fun j g1 g2=>MG j g1 g2);have k2:=SeqAt.RcNeAt.lists (A:=A) p1.isList p2.isList hsz hu (fun j g1 g2=>MG j g1 g2);rw [n1,e1,e2,all_eq h] at k1 k2;exact ⟨k1,k2⟩
 ·have hsz:((strValues l1).toArray.size != (strValues l2).toArray.size)=true:=by rw [n1,n2]; simpa using h
  have e:decide (ts=us)=false:=Ch fun z=>h (by rw [z]);rw [e];exact ⟨SeqAt.RcAt.lists_lengths p1.isList p2.isList hsz hu,SeqAt.RcNeAt.lists_lengths p1.isList p2.isList hsz hu⟩
def o6 (neg:Bool):R2:=fun x y H Q=>match x,y with
 | .ref a,.ref b=>∃ ts us:List Str,H a=some (.lst (ts.map V.str))/\H b=some (.lst (us.map V.str))/\Q (.bl (neg ^^ decide (ts=us))) H
 | _,_=>False
def To (hu:X.A.units < cLine):aY X (compareOp .Eq) (o6 false):=by
 intro pins s σ H x y v u Q I rx ry h;unfold o6 at h;split at h
 ·obtain ⟨ts,us,ha,hb,q⟩:=h;cases rx; cases ry;simp only [Bool.false_bne] at q;exact (Jz I ha hb hu).1 _ _ _ _ ⟨.bl _,H,I,rfl,q⟩
 ·exact h.elim
def QC (hu:X.A.units < cLine):aY X (compareOp .NotEq) (o6 true):=by
 intro pins s σ H x y v u Q I rx ry h;unfold o6 at h;split at h
 ·obtain ⟨ts,us,ha,hb,q⟩:=h;cases rx; cases ry;simp only [Bool.true_bne] at q;exact (Jz I ha hb hu).2 _ _ _ _ ⟨.bl _,H,I,rfl,q⟩
 ·exact h.elim
def Dv.dW {st:Stmt}:QS X st zK:=⟨aaW⟩
end
end L2
namespace Tx
open PySem PySem.Builtin PySem.StrLaws
def Bw {α:Type} (a b:List α) (h:b≠[]):(a++b).getLast?=b.getLast?:=by
 rw [List.getLast?_append];rw [List.getLast?_eq_some_getLast h];rfl
def cH (c:Nat):List (List Nat)->List Nat
 | []=>[]
 | [x]=>x
 | x::y::r=>x++c::cH c (y::r)
def Lz (c:Nat):∀ ps:List (List Nat),Str.join (S [c]) (ps.map S)=S (cH c ps)
 | []=>rfl
 | [x]=>rfl
 | x::y::r=>by
  have ih:=Lz c (y::r);show S x++S [c]++Str.join (S [c]) ((y::r).map S)=S (x++c::cH c (y::r));rw [ih,hU,hU];simp
def wC (c:Nat):∀ ps:List (List Nat),(∀ w∈ps,c ∉ w/\w≠[])->words c (cH c ps)=ps
 | [],_=>rfl
 | [x],h=>wa c x (h x (by simp)).1 (h x (by simp)).2
 | x::y::r,h=>by
  have ih:=wC c (y::r) (fun w hw=>h w (List.mem_cons_of_mem _ hw));show words c (x++c::cH c (y::r))=_;rw [rq,ih,wa c x (h x (by simp)).1 (h x (by simp)).2];rfl
def K3 (c k:Nat):∀ ps:List (List Nat),(∀ w∈ps,w.length<=k)->(cH c ps).length<=ps.length * (k+1)
 | [],_=>Nat.zero_le _
 | [x],h=>by
  have:=h x (by simp);show x.length<=1 * (k+1);omega
 | x::y::r,h=>by
  have ih:=K3 c k (y::r) (fun w hw=>h w (List.mem_cons_of_mem _ hw));have:=h x (by simp);show (x++c::cH c (y::r)).length<=((y::r).length+1) * (k+1);rw [List.length_append,List.length_cons,Nat.add_mul];omega
def wK (c:Nat) (ps:List (List Nat)) (h:∀ w∈ps,c ∉ w/\w≠[]) (hn:ps≠[]):cH c ps≠[]:=fun e=>by
 have:=wC c ps h;rw [e] at this;exact hn this.symm
def BU (c:Nat):∀ ps:List (List Nat),(∀ w∈ps,c ∉ w/\w≠[])->(cH c ps).getLast?≠some c
 | [],_=>by simp [cH]
 | [x],h=>fun e=>(h x (by simp)).1 (List.mem_of_getLast? e)
 | x::y::r,h=>by
  have hr:∀ w∈(y::r),c ∉ w/\w≠[]:=fun w hw=>h w (List.mem_cons_of_mem _ hw);have ih:=BU c (y::r) hr;show (x++c::cH c (y::r)).getLast?≠some c;rw [Bw _ _ (by simp)];have:(c::cH c (y::r))=[c]++cH c (y::r):=rfl;rw [this,Bw _ _ (wK c (y::r) hr (by simp))];exact ih
def US (c:Nat):∀ ps:List (List Nat),(∀ w∈ps,c ∉ w/\w≠[])->(cH c ps).head?≠some c
 | [],_=>by simp [cH]
 | [x],h=>fun e=>(h x (by simp)).1 (List.mem_of_head? e)
 | x::y::r,h=>by
  show (x++c::cH c (y::r)).head?≠some c;have hx:=h x (by simp);cases x with
  | nil=>exact absurd rfl hx.2
  | cons a x' =>
   intro e;have e':some a=some c:=e;exact hx.1 (by rw [<- Option.some.inj e']; simp)
def Mg (a:Nat):∀ (ts:List Str) (n:Nat),ts.foldl (fun n z=>n+z.length+a) n=n+(ts.map (fun z=>z.length+a)).sum
 | [],n=>by simp
 | t::r,n=>by
  rw [List.foldl_cons,Mg a r,List.map_cons,List.sum_cons];omega
def Ie (k:Nat):∀ (l:List Nat),(∀ x∈l,x<=k)->l.sum<=l.length * k
 | [],_=>by simp
 | x::r,h=>by
  have ih:=Ie k r (fun y hy=>h y (List.mem_cons_of_mem _ hy));have:=h x (by simp);rw [List.sum_cons,List.length_cons,Nat.add_mul];omega
end Tx
namespace L2
open PySem PySem.Spec PyProof.Rows
def AW:V->Hp->VK->Prop:=fun x H Q=>match x with
 | .int i=>Q (.int (-i)) H
 | _=>False
def kY {X:Cx}:tI X (unaryOp .USub) AW:=fun pins s σ H x v Q I rx h=>Qm pins s σ H x v Q I rx (by
 unfold AW at h;split at h
 ·exact ⟨_,rfl,h⟩
 ·exact h.elim)
def Bs (r:List V) (x:V):fi (r++[x]) Option.none (some (-1))=r:=by
 unfold fi;have e1:HT.cT (r++[x]).length (r++[x]).length (some (-1))=r.length:=by
  unfold HT.cT;simp;omega
 rw [HT.AV,e1];simp
section
variable {X:Cx} {K:PySem.W.Frag}
def Cz (K:PySem.W.Frag):List V->Hp->VK->Prop:=fun xs H Q=>match xs with
 | [.ref p]=>∃ ys,aD K H p ys/\Q (.int ys.length) H
 | _=>False
def Z9 (h:X.K=K):cA X (.builtin "len") (Cz K):=h ▸ IP.imp fun xs H Q h=>by
 unfold Cz at h;split at h
 ·obtain ⟨ys,h1,h2⟩:=h;exact ⟨_,_,rfl,.inl ⟨ys,h1,rfl⟩,h2⟩
 ·exact h.elim
def Ci (K:PySem.W.Frag):R2:=fun x y H Q=>match x,y with
 | .ref p,.int i=>∃ xs v,aD K H p xs/\cM xs i=some v/\Q v H
 | _,_=>False
def qxE (h:X.K=K):fm X (Ci K):=h ▸ GJ.imp fun x y H Q h=>by
 unfold Ci at h;split at h
 ·obtain ⟨xs,v,h1,h2,h3⟩:=h;exact ⟨_,xs,_,v,rfl,rfl,h1,h2,h3⟩
 ·exact h.elim
end
end L2
namespace L2
open PySem
open Sem (wp)
def cY (e:Addr) (c:Value) (od:Option Addr) (h:Heap):Prop:=∃ o,h.get? e=some o/\o.cls=c/\o.dict=od/\∃ vs,o.data=.fields vs
structure Kp (e:Addr) (c:Value) (od:Option Addr) {α:Type} (t:Sem α):Prop where
 out:∀ (M:Model) (Γ:Ctx) (P:α->Pos->Shared->Prop) (Ee:Value->Pos->Shared->Prop) (p:Pos) (s:Shared),cY e c od s.heap->wp M Γ t P Ee p s->wp M Γ t (fun a p' s'=>P a p' s'/\cY e c od s'.heap) Ee p s
section
variable {e:Addr} {c:Value} {od:Option Addr} {α β:Type}
def Kp.pure (a:α):Kp e c od (Pure.pure a:Sem α):=⟨fun _ _ _ _ _ _ hd h=>⟨h,hd⟩⟩
def Kp.unsupported (w:String):Kp e c od (PySem.unsupported w:Sem α):=⟨fun _ _ _ _ _ _ _ h=>h⟩
def Kp.bind {m:Sem α} {f:α->Sem β} (hm:Kp e c od m) (hf:∀ a,Kp e c od (f a)):Kp e c od (m >>= f):=⟨fun M Γ P Ee p s hd h=>by
 rw [Sem.wp_bind'] at h ⊢;exact Sem.wp_mono M Γ m (fun a p' s' h'=>(hf a).out M Γ P Ee p' s' h'.2 h'.1) (fun _ _ _ x=>x) p s (hm.out M Γ _ Ee p s hd h)⟩
def Kp.ite {q:Prop} [Decidable q] {t u:Sem α} (ht:Kp e c od t) (hu:Kp e c od u):Kp e c od (if q then t else u):=by split <;> assumption
def Kp.load (a:Addr):Kp e c od (PySem.load a):=⟨fun _ _ _ _ _ _ hd h=>let ⟨o,ho,z⟩:=h; ⟨o,ho,z,hd⟩⟩
def Kp.stack:Kp e c od PySem.stack:=⟨fun M Γ P Ee p s hd h=>by
 unfold PySem.stack at h ⊢;rw [Sem.wp_stack] at h ⊢;exact ⟨h,hd⟩⟩
def cY.push {h:Heap} (x:cY e c od h) (o:Obj):cY e c od (h.push o):=let ⟨u,hu,r⟩:=x; ⟨u,xz _ hu,r⟩
def cY.update {h:Heap} (x:cY e c od h) (a:Addr) (f:Obj->Obj) (hf:∀ o,(f o).cls=o.cls/\(f o).dict=o.dict/\∀ vs,o.data=.fields vs->∃ ws,(f o).data=.fields ws):cY e c od (h.update a f):=by
 obtain ⟨u,hu,h1,h2,vs,h3⟩:=x;by_cases q:a=e
 ·subst q;obtain ⟨ws,h4⟩:=(hf u).2.2 vs h3;exact ⟨f u,_b f hu (Obj.isFreed_of_fields h4),(hf u).1.trans h1,(hf u).2.1.trans h2,ws,h4⟩
 ·exact ⟨u,(ST _ _ q).trans hu,h1,h2,vs,h3⟩
def Kp.update (a:Addr) (f:Obj->Obj) (hf:∀ o,(f o).cls=o.cls/\(f o).dict=o.dict/\∀ vs,o.data=.fields vs->∃ ws,(f o).data=.fields ws):Kp e c od (PySem.update a f) :=
 ⟨fun _ _ _ _ _ _ hd h=>⟨h.1,h.2,hd.update a f hf⟩⟩
def aaH (g:Array Value->Array Value) (o:Obj):(Obj.mapFields g o).cls=o.cls/\(Obj.mapFields g o).dict=o.dict/\∀ vs,o.data=.fields vs->∃ ws,(Obj.mapFields g o).data=.fields ws:=by
 obtain ⟨c1,d1,dt,sl⟩:=o;refine ⟨Obj.cls_mapFields _ _,?_,fun vs h=>⟨_,JaD h g⟩⟩;cases dt <;> rfl
def Kp.alloc (o:Obj):Kp e c od (PySem.alloc o):=⟨fun _ _ _ _ _ _ hd h=>⟨h,hd.push o⟩⟩
def Kp.field (v:Value) (i:Nat):Kp e c od (PySem.field v i):=⟨fun _ Γ _ _ _ _ hd h=>by
 rw [wp_field_iff] at h ⊢;obtain ⟨a,o,vs,x,h1,h2,h3,h4,h5⟩:=h;exact ⟨a,o,vs,x,h1,h2,h3,h4,h5,hd⟩⟩
def Kp.setField (v:Value) (i:Nat) (x:Value):Kp e c od (PySem.setField v i x):=⟨fun _ Γ _ _ _ _ hd h=>by
 rw [wp_setField_iff] at h ⊢;obtain ⟨a,o,vs,h1,h2,h3,h4,h5⟩:=h;exact ⟨a,o,vs,h1,h2,h3,h4,h5,hd.update a _ (aaH _)⟩⟩
local macro_rules | `(tactic| walk_at "kps")=>`(tactic| repeat' with_reducible first | assumption | exact Kp.pure _ | exact Kp.unsupported _ | exact Kp.field _ _ | exact Kp.setField _ _ _ | exact Kp.load _ | exact Kp.stack | exact Kp.alloc _ | apply Kp.ite | apply Kp.bind | intro _ | split)
def Kp.newFields (ty:String) (vs:List Value):Kp e c od (PySem.newFields ty vs):=by
 unfold PySem.newFields newObj newObjAsIs;walk_at "kps"
def Kp.frameEnvs:Kp e c od PySem.frameEnvs:=by
 unfold PySem.frameEnvs;walk_at "kps"
def Kp.isImport (env:Env) (outer:List Env):Kp e c od (behindIsImport env outer):=by
 unfold behindIsImport;walk_at "kps"
def Kp.caller:Kp e c od underTheClaimsCaller:=by
 unfold underTheClaimsCaller;walk_at "kps"
def Kp.keptBack (env:Env) (i:Bool) (l:List Env):Kp e c od (PySem.keptBack env i l):=by
 have:=Kp.caller (e:=e) (c:=c) (od:=od);cases l <;> unfold PySem.keptBack <;> walk_at "kps"
def Kp.ready:∀ l:List Env,Kp e c od (readyFrames l)
 | []=>Kp.pure _
 | env::outer=>by
  have ih:=Kp.ready outer;have h1:=Kp.isImport (e:=e) (c:=c) (od:=od) env outer;have h2:=fun i=>Kp.keptBack (e:=e) (c:=c) (od:=od) env i outer;unfold readyFrames;walk_at "kps"
  all_goals first | exact h2 _ | exact Kp.update _ _ (fun o=>⟨rfl,rfl,fun vs h=>⟨vs,h⟩⟩) | skip
def Kp.frameObject (l:List Env):Kp e c od (PySem.frameObject l):=by
 cases l with
 | nil=>exact Kp.pure _
 | cons env outer =>
  have:=Kp.ready (e:=e) (c:=c) (od:=od) (env::outer);unfold PySem.frameObject;walk_at "kps"
def Kp.frameOf (env:Env):Kp e c od (PySem.frameOf env):=by
 have h1:=Kp.frameEnvs (e:=e) (c:=c) (od:=od);have h2:=Kp.frameObject (e:=e) (c:=c) (od:=od);unfold PySem.frameOf;walk_at "kps"
 all_goals first | exact h2 _ | skip
def Kp.place (f:Addr) (b:Bool):Kp e c od (entryPlaceOf f b):=by
 unfold entryPlaceOf;walk_at "kps"
def Kp.setFlight (v:Value) (fr:Option Addr):Kp e c od (PySem.setFlight v fr):=by
 unfold PySem.setFlight;walk_at "kps"
def Kp.noteFrame (v:Value) (env:Env):Kp e c od (PySem.noteFrame v env):=by
 have h1:=Kp.frameOf (e:=e) (c:=c) (od:=od) env;have h2:=fun f b=>Kp.place (e:=e) (c:=c) (od:=od) f b;unfold PySem.noteFrame EntryCells.newEntry;walk_at "kps"
 all_goals first | exact h2 _ _ | exact Kp.newFields _ _ | skip
def Kp.leaving (env:Env) (v:Value):Kp e c od (PySem.leaving env v):=by
 have h1:=Kp.noteFrame (e:=e) (c:=c) (od:=od) v env;have h2:=Kp.setFlight (e:=e) (c:=c) (od:=od) v none;unfold PySem.leaving;walk_at "kps"
def Kp.any {t:Sem α} (k:Kp e c od t) {M:Model} {A:Around} {Q:α->Shared->Prop} {E:Value->Shared->Prop} {s:Shared} (hd:cY e c od s.heap) (h:wpAny M A t Q E s):wpAny M A t (fun a s'=>Q a s'/\cY e c od s'.heap) E s :=
 fun Γ p hΓ=>k.out M Γ _ _ p s hd (h Γ p hΓ)
end
end L2
namespace L2
def ZO (xs:List V) (k:Nat):fi xs none (some (k:Int))=xs.take k:=by
 unfold fi;rw [HT.AV,HT.z7,List.drop_zero,Nat.sub_zero];by_cases h:k<=xs.length
 ·rw [Nat.min_eq_left h]
 ·rw [Nat.min_eq_right (by omega),_l (Ev _),_l (by omega)]
def Ll (xs:List V) (k:Nat):fi xs (some (k:Int)) none=xs.drop k:=by
 unfold fi;rw [HT.AV,HT.z7];by_cases h:k<=xs.length
 ·rw [Nat.min_eq_left h,_l (by rw [List.length_drop]; exact Ev _)]
 ·rw [Nat.min_eq_right (by omega),List.drop_eq_nil_of_le (Ev _),List.drop_eq_nil_of_le (by omega)];simp
end L2
namespace L2
open PySem PySem.Spec PyProof.Rows
def bI.there {P:Program} {w:World} {H:Hp} {h:Heap} {a:Addr} {o:HO} (x:bI P w H h a o):∃ u,h.get? a=some u:=by
 cases o with
 | lst xs=>obtain ⟨_,_,_,_,e⟩:=x; exact ⟨_,e⟩
 | tup xs=>obtain ⟨_,_,_,u,e,_⟩:=x; exact ⟨_,e⟩
 | dK kvs=>obtain ⟨_,_,_,_,o,_,_,e,_⟩:=x; exact ⟨_,e⟩
 | dT kvs=>obtain ⟨_,_,_,_,o,_,_,e,_⟩:=x; exact ⟨_,e⟩
 | set S n=>obtain ⟨o,_,_,_,e,_⟩:=x; exact ⟨_,e⟩
 | ins C dx fs=>obtain ⟨_,_,_,e,_⟩:=x; exact ⟨_,e⟩
 | own y=>exact x
 | xd fs=>obtain ⟨_,⟨_,_,_,e,_⟩,_⟩:=x; exact ⟨_,e⟩
 | u3 lo hi=>obtain ⟨_,_,_,e⟩:=x; exact ⟨_,e⟩
 | eC ob u=>obtain ⟨e,_⟩:=x; exact ⟨_,e⟩
 | mF ps=>exact ⟨_,(show h.get? a=some _ from x)⟩
 | met f y=>exact ⟨_,(show h.get? a=some _ from x)⟩
 | ext φ=>obtain ⟨_,e,_⟩:=x; exact e
def tV (B:Heap) (fs:List Addr) (h:Heap) (H':Hp) (h':Heap):Prop :=
 ∀ b o,h'.get? b=some o->b ∉ fs->((∃ u,h.get? b=some u)\/∃ u,H' b=some u)->B.get? b=some o
def JV {P:Program} {w:World} {fs:List Addr} {H H':Hp} {h h1 h2 B:Heap} (u:Un fs [] H H' h h1) (aA:bU P w H' h1) (hf:∀ b∈fs,H b=none/\∃ o,h.get? b=some o/\∀ vs,o.data≠.fields vs) (gF:tV B fs h H' h1)
  (st:B.StaysIn h2) (up:h1.UpToSlots h2):Un fs [] H H' h h2/\bU P w H' h2:=by
 have kB:∀ b o,h1.get? b=some o->b ∉ fs->((∃ u,h.get? b=some u)\/∃ u,H' b=some u)->h2.get? b=some o:=fun b o e hb z=>st b o (gF b o e hb z);have fr:∀ b∈fs,∀ o,h.get? b=some o->∃ sl,h2.get? b=some { o with slots:=sl }:=fun b hb o e=>by
  obtain ⟨n,o',e',nf⟩:=hf b hb;rw [e] at e'; cases e';obtain ⟨sl,e1⟩:=u.slot b o e n hb (by simp);obtain ⟨sl',e2⟩:=up b _ e1 nf;exact ⟨sl',e2⟩
 refine ⟨⟨fun b o q n hb hx=>kB b o (u.keep b o q n hb hx) hb (.inl ⟨o,q⟩),fun b o q n hb hx=>fr b hb o q,u.free,fun b o q hx=>?_,u.fY,u.fA,u.fQ⟩,fun a v e=>?_⟩
 ·by_cases hb:b∈fs
  ·obtain ⟨sl,e⟩:=fr b hb o q;exact ⟨_,e⟩
  ·obtain ⟨o',e1⟩:=u.there b o q hx;exact ⟨o',kB b o' e1 hb (.inl ⟨o,q⟩)⟩
 ·have tr:∀ b,(∃ u,H' b=some u)->b ∉ fs:=fun b ⟨v',e'⟩ hb=>by
   obtain ⟨n,o,ho,_⟩:=hf b hb;have:=u.free b o ho n (by simp);rw [e'] at this; cases this
  refine (aA a v e).gJ (fun b x hb q=>?_) (fun _ q=>q) fun _ _ q=>q;have hs:∃ u,H' b=some u:=by
   rcases hb with rfl | hb
   ·exact ⟨v,e⟩
   ·exact ⟨_,hb⟩
  exact kB b x q (tr b hs) (.inr hs)
structure nI (P:Program) (w:World) (outer:List Env) (H:Hp) (s:Shared) (ea C:Addr) (od:Option Addr) (H':Hp) (s':Shared):Prop where
 os:s'.os=s.os
 bare:AllBare s'.gens
 un:Un (bJ outer) [] H H' s.heap s'.heap
 aA:bU P w H' s'.heap
 free:H' ea=none
 new:s.heap.get? ea=none
 hd:cY ea (.ref C) od s'.heap
 Ia:∃ B a0,Heap.FlyingW B outer ea (.ref C) a0 s'.heap/\tV B (bJ outer) s.heap H' s'.heap
def bj (P:Program) (w:World):dH:=fun outer H s E e s'=>∃ ea C od H',e=.ref ea/\nI P w outer H s ea C od H' s'/\E (.ref C) od H'
section
variable {X:Cx} {pins:List (Addr×Obj)} {σ:St} {H H':Hp} {s s':Shared} {ea C:Addr} {od:Option Addr}
def Inv.Kn (I:Inv X pins σ H s):∀ b∈bJ X.stack,H b=none/\∃ o,s.heap.get? b=some o/\∀ vs,o.data≠.fields vs:=fun b hb=>⟨I.xu b hb,(I.stack.mem hb).2⟩
structure Own (X:Cx):Prop where
 dj:X.stack=X.env::X.outer
 frame:X.env.frame=some X.env.locals
 ex:X.ex=[]
def Inv.AG {h1 B:Heap} {a0:Value} (I:Inv X pins σ H s) (O:Own X) (os:s'.os=s.os) (bare:AllBare s'.gens) (un:Un (bJ X.stack) [] H H' s.heap h1) (aA:bU X.prog X.w H' h1) (free:H' ea=none) (new:s.heap.get? ea=none)
  (gF:tV B (bJ X.stack) s.heap H' h1) (fl:Heap.FlyingW B X.outer ea (.ref C) a0 s'.heap) (up:h1.UpToSlots s'.heap) (hd:cY ea (.ref C) od s'.heap):nI X.prog X.w X.outer X.H₀ X.s₀ ea C od H' s':=by
 obtain ⟨u2,hok2⟩:=JV un aA I.Kn gF fl.1 up;have Fu:bJ X.stack=X.env.locals::X.fs:=by
  rw [O.dj];unfold bJ;rw [_y,O.frame];rfl
 have uV:∀ b o,X.s₀.heap.get? b=some o->b≠X.env.locals:=fun b o e=>GE (FB (Fk e) I.ok.above);have nx:∀ b:Addr,b ∉ X.ex:=fun b=>by rw [O.ex]; simp
 have fJ:∀ b o,X.s₀.heap.get? b=some o->b ∉ X.fs->b ∉ bJ X.stack:=fun b o e hb z=>by
  rw [Fu] at z;rcases AT.mp z with q | q
  ·exact uV b o e q
  ·exact hb q
 have Lfree:H' X.env.locals=none:=by
  obtain ⟨m,⟨o,_,_,ho,_⟩,_⟩:=I.loc;exact un.free _ o ho I.free (by simp)
 refine ⟨os.trans I.os,bare,⟨fun b o q n hb _=>?_,fun b o q n hb _=>?_,fun b o q n _=>?_,fun b o q _=>?_,fun b xs q=>?_,fun b o v q=>?_,fun b ps q=>?_⟩,hok2,free,?_,hd,B,a0,fl,fun b o e hb z=>?_⟩
 ·exact u2.keep b o (I.base.keep b o q n hb (nx b)) (I.base.free b o q n (nx b)) (fJ b o q hb) (by simp)
 ·obtain ⟨sl,e1⟩:=I.base.slot b o q n hb (nx b);obtain ⟨sl',e2⟩:=u2.slot b _ e1 (I.base.free b o q n (nx b)) (by rw [Fu]; exact LT _ hb) (by simp);exact ⟨sl',e2⟩
 ·obtain ⟨o',e1⟩:=I.base.there b o q (nx b);exact u2.free b o' e1 (I.base.free b o q n (nx b)) (by simp)
 ·obtain ⟨o',e1⟩:=I.base.there b o q (nx b);exact u2.there b o' e1 (by simp)
 ·exact u2.fY b xs (I.base.fY b xs q)
 ·exact u2.fA b o v (I.base.fA b o v q)
 ·obtain ⟨m1,e1⟩:=I.base.fQ b ps q;obtain ⟨m2,e2⟩:=u2.fQ b _ e1;exact ⟨m1++m2,by rw [e2,Array.append_assoc]⟩
 ·cases q:X.s₀.heap.get? ea with
  | none=>rfl
  | some u =>
   obtain ⟨u',e'⟩:=I.base.there ea u q (nx ea);rw [new] at e'; cases e'
 ·have hn:b ∉ bJ X.stack:=fun z'=>by
   rw [Fu] at z';rcases AT.mp z' with q | q
   ·rcases z with ⟨o',e'⟩ | ⟨v,e'⟩
    ·exact uV b o' e' q
    ·rw [q,Lfree] at e'; cases e'
   ·exact hb q
  have hs:∃ o',h1.get? b=some o'/\((∃ u,s.heap.get? b=some u)\/∃ u,H' b=some u):=by
   rcases z with ⟨o',e'⟩ | ⟨v,e'⟩
   ·obtain ⟨o2,e2⟩:=I.base.there b o' e' (nx b);obtain ⟨o3,e3⟩:=un.there b o2 e2 (by simp);exact ⟨o3,e3,.inl ⟨o2,e2⟩⟩
   ·obtain ⟨o3,e3⟩:=(aA b v e').there;exact ⟨o3,e3,.inr ⟨v,e'⟩⟩
  obtain ⟨o3,e3,z3⟩:=hs;have e4:=gF b o3 e3 hn z3;have e5:=fl.1 b o3 e4;rw [e] at e5; cases e5;exact e4
def Inv.Mb {M:Model} {A:Around} {E:Value->Shared->Prop} (I:Inv X pins σ H s) (O:Own X) (hA:A.frames=some X.stack) (F:nI X.prog X.w X.stack H s ea C od H' s') :
  wpAny M A (leaving X.env (.ref ea)) (fun _ s''=>nI X.prog X.w X.outer X.H₀ X.s₀ ea C od H' s'') E s':=by
 obtain ⟨B,a0,fl,gF⟩:=F.Ia;have fl':=fl;rw [O.dj] at fl' hA;refine aC ((Kp.leaving X.env (.ref ea)).any F.hd (wpAny_leaves_onW (Q:=fun _ s''=>∃ h',s''={ s' with heap:=h' }/\Heap.FlyingW B X.outer ea (.ref C) a0 h'/\s'.heap.UpToSlots h') hA O.frame fl' fun h' x1 x2=>⟨h',rfl,x1,x2⟩)) fun _ s'' ⟨⟨h',e,x1,x2⟩,hd⟩=>?_;subst e;exact I.AG (s':={ s' with heap:=h' }) O F.os F.bare F.un F.aA F.free F.new gF x1 x2 hd
def Jo {h h':Heap} {e:Addr} {cls:Value} {args:List Value} (hx:Heap.MadeExcOf h h' e cls args):cY e cls none h':=by
 obtain ⟨t,he,_⟩:=hx.there;exact ⟨_,he,rfl,rfl,_,rfl⟩
def Inv.Yo {M:Model} {A:Around} {E:Value->Shared->Prop} {h':Heap} {vs:List Value} (I:Inv X pins σ H s) (O:Own X) (hA:A.frames=some X.stack) (hx:Heap.MadeExcOf s.heap h' ea (.ref C) vs) :
  wpAny M A (leaving X.env (.ref ea)) (fun _ s''=>nI X.prog X.w X.outer X.H₀ X.s₀ ea C none H s'') E { s with heap:=h' }:=by
 have aU:(PySem.W.hideAll s.heap (bJ X.stack)).StaysIn s.heap:=fun b o q=>Jaz _ q;have lL:s.heap.FunFrames (PySem.W.hideAll s.heap (bJ X.stack)) X.stack:=PySem.W.funFrames_hide I.stack fun env he a ha=>Ja1.mpr ⟨env,he,ha⟩;have nj:H ea=none:=by
  cases q:H ea with
  | none=>rfl
  | some u =>
   obtain ⟨o,e⟩:=(I.aA ea u q).there;have:=hx.new;rw [e] at this; cases this
 have gF:tV (PySem.W.hideAll s.heap (bJ X.stack)) (bJ X.stack) s.heap H h':=fun b o e hb z=>by
  have hs:∃ u,s.heap.get? b=some u:=by
   rcases z with z | ⟨v,z⟩
   ·exact z
   ·exact (I.aA b v z).there
  obtain ⟨u,eu⟩:=hs;have:=hx.keeps b u eu;rw [e] at this; cases this;exact Jas _ eu hb
 generalize PySem.W.hideAll s.heap (bJ X.stack)=B at aU lL gF;have hfr':=lL;rw [O.dj] at hfr' hA;refine aC ((Kp.leaving X.env (.ref ea)).any (s:={ s with heap:=h' }) (Jo hx) (wpAny_leaves_madeW (s:={ s with heap:=h' }) (Q:=fun _ s''=>∃ h2 t,s''={ s with heap:=h2 }/\Heap.FlyingW B X.outer ea (.ref C) (.ref t) h2/\h'.UpToSlots h2) hA O.frame aU hfr' hx
  fun h2 t x1 _ _ x4=>⟨h2,t,rfl,x1,x4⟩)) fun _ s'' ⟨⟨h2,t,e,x1,x4⟩,hd⟩=>?_
 subst e;exact I.AG (s':={ s with heap:=h2 }) O rfl I.bare (Un.kept hx.keeps) (I.aA.kept hx.keeps) nj hx.new gF x1 x4 hd
structure gR (X:Cx) (R:St->XK):Prop where
 pass:∀ (pins:List (Addr×Obj)) (σ:St) (H:Hp) (s:Shared) (e:Value) (s':Shared),Inv X pins σ H s->bj X.prog X.w X.stack H s (R σ) e s'->X.xe e s'
structure Raises (X:Cx) (R:St->XK):Prop where
 made:∀ (pins:List (Addr×Obj)) (σ:St) (H:Hp) (s:Shared) (h':Heap) (ea C:Addr) (vs:List Value),Inv X pins σ H s->Heap.MadeExcOf s.heap h' ea (.ref C) vs->R σ (.ref C) none H->X.xe (.ref ea) { s with heap:=h' }
def cS {P:Program} {w:World} {K:PySem.W.Frag} {mg:Str->Option Value} {base:Heap} {N:List Str} {qual:Str} {scope:Scope} {f:Addr} {cd:Value} {A:Around} {outer:List Env} {s₀:Shared} {H₀:Hp} {E:XK} :
  gR (bT (bj P w) P w K mg base N qual scope f cd A outer s₀ H₀ E) (fun _=>E) where
 pass:=fun pins σ H s e s' I hc=>by
  obtain ⟨ea,C,od,H',rfl,F,hE⟩:=hc;exact aC (I.Mb ⟨rfl,rfl,rfl⟩ I.ok.frames F) fun _ s'' z=>⟨ea,C,od,H',rfl,z,hE⟩
def zQ {P:Program} {w:World} {K:PySem.W.Frag} {mg:Str->Option Value} {base:Heap} {N:List Str} {qual:Str} {scope:Scope} {f:Addr} {cd:Value} {A:Around} {outer:List Env} {s₀:Shared} {H₀:Hp} {E:XK} :
  Raises (bT (bj P w) P w K mg base N qual scope f cd A outer s₀ H₀ E) (fun _=>E) where
 made:=fun pins σ H s h' ea C vs I hx hE=>aC (I.Yo ⟨rfl,rfl,rfl⟩ I.ok.frames hx) fun _ s'' z=>⟨ea,C,none,H,rfl,z,hE⟩
def DL (sp:Sp) (bh:List V) (R:St->XK) (t:TA):TE:=fun σ H Q=>t σ H fun vs H1=>sp (vs++bh) H1 Q (R σ)
section
variable {k:Nat} {f:Addr} {fd:FuncData} {ps:List Str} {sp:Sp} {bh:List V} {ds:List Value} {R:St->XK} {x:Str} {p pos:Pos} {e:Expr} {es:List Expr} {t:TA}
def Lr {Q:VK} {us:List Value} {vs:List V} (F:aB X.prog X.w X.K X.mg X.base (bj X.prog X.w) k f fd ps sp) (hr:aZ k X.A) (hb:Binds X.K fd ps ds) (hd:Vals bh ds) (hx:gR X R)
  (I:Inv X pins σ H s) (r:Vals vs us) (h:sp (vs++bh) H Q (R σ)):wpAny (model X.prog X.w) X.A (call (.ref f) us) (EP X pins σ Q) X.xe s:=by
 have r2:Vals (vs++bh) (us++ds):=r.append hd;have hl:(us++ds).length=ps.length:=by rw [<- r2.length]; exact F.len _ _ _ _ h
 refine _r (_I (F.run X.A X.stack s H ⟨us,[]⟩ (us++ds) (vs++bh) Q (R σ) hr I.oY (hb s us I.bR hl) r2 h) fun r s' hq=>?_);cases r with
 | error e=>exact hx.pass pins σ H s e s' I hq
 | ok fl =>
  cases fl with
  | ret u=>exact I.after hq
  | next=>exact False.elim hq
  | brk=>exact False.elim hq
  | cont=>exact False.elim hq
def S9 (F:aB X.prog X.w X.K X.mg X.base (bj X.prog X.w) k f fd ps sp) (hr:aZ k X.A) (hg:Gl X x) (hm:X.mg x=some (.ref f)) (hk:PySem.W.keepIn X.K (.ref f)=true) (hb:Binds X.K fd ps ds) (hd:Vals bh ds) (hx:gR X R)
  (ha:PA X (e::es) t) (hs:(e::es).all noStar=true:=by rfl) (bM:(x == ("__debug__" : Str))=false:=by decide):PE X (.Call (.Name x p) (e::es) [] pos) (DL sp bh R t):=by
 have hs':=hs;rw [TD,IR] at hs';intro pins s σ H Q I h;refine SC (kE I hg hm ?_ bM);refine _c (h₀:=X.base) I.ok.mod.ie hk (aC (ha pos pins s σ H _ I h) fun us s1 ⟨vs,H1,I1,r,q⟩=>⟨I1.bR,?_⟩) (fh hs'.1) (ib hs'.2);exact Lr F hr hb hd hx I1 r q
end
end
abbrev ud:List Value:=[.type "ValueError",.type "Exception",.type "BaseException",.type "object"]
def S7 {K:PySem.W.Frag} {h:Heap} {C:Addr} {Nl:List Value} {newId:String} (X:K.In h) (q:PySem.W.excIn K C Nl newId=true) :
  ∃ bm N nm q bs hdct sn sub ab col dd k0 k1 k2 k3 k5 mN,h.get? C=some (excClassObj nm q C N bs bm hdct sn sub ab col dd k0 k1 k2 k3 k5 newId)/\h.Ns N mN/\mN "__init__" = none/\OwnTail h Nl bm:=by
 unfold PySem.W.excIn at q;split at q
 ·rename_i dd cd sl ho;split at q
  ·rename_i C' bm k0 k1 k2 k3 n k5 hm hs;simp only [IR,_o,Bool.not_eq_true'] at q;obtain ⟨⟨⟨⟨⟨q1,q2⟩,q3⟩,q4⟩,q5⟩,q6⟩:=q;subst q1 q2;obtain ⟨nm,bs,mro,ns,qn,hd,sn,sub,ab,col,del⟩:=cd;dsimp only at hm q3 q5 q6;subst hm q3;have e1:sl=#[k0,k1,k2,k3,some (.builtin n),k5]:=by
    obtain ⟨l⟩:=sl;simp only at hs;rw [hs]
   subst e1;exact ⟨bm,ns,nm,qn,bs,hd,sn,sub,ab,col,dd,k0,k1,k2,k3,k5,_,X _ _ ho,.of_isNs (PySem.W.isNs_of_in X q5),PySem.W.nsMap_none_of_in X q5 q6,PySem.W.tail_of_in X q4⟩
  ·cases q
 ·cases q
def Cp (C:Addr) (R:St->XK) (t:TA):TS:=fun _ σ H=>t σ H fun vs H1=>vs.length<=sizeLine/\R σ (.ref C) none H1
def RY {X:Cx} {R:St->XK} {x:Str} {C:Addr} {e:Expr} {es:List Expr} {t:TA} {np bA pos:Pos} (hx:Raises X R) (hc:X.calm=true) (hm:X.mg x=some (.ref C)) (q:PySem.W.excIn X.K C ud "ValueError.__new__" = true) (ha:PA X (e::es) t)
  (hg:Gl X x:=by rfl) (hs:(e::es).all noStar=true:=by rfl) (bM:(x == ("__debug__" : Str))=false:=by decide):PS X (.Raise (some (.Call (.Name x np) (e::es) [] bA)) none pos) (Cp C R t):=by
 have hs':=hs;rw [TD,IR] at hs';intro pins s σ H D I h;obtain ⟨bm,N,nm,qn,bs,hdct,sn,sub,ab,col,dd,k0,k1,k2,k3,k5,mN,hC,hN,hni,T⟩:=S7 I.ok.mod.ie q;refine wpAny_Raise_call_subT (C:=C) (nm:=nm) (q:=qn) (N:=N) (bs:=bs) (bm:=bm) (hdct:=hdct) (sn:=sn) (sub:=sub) (ab:=ab) (col:=col) (dd:=dd) (k0:=k0) (k1:=k1) (k2:=k2) (k3:=k3) (k5:=k5)
  _Z (mN:=mN) (T.hasType _Z.hasBase) (I.ok.hd hc) (by rw [fh hs'.1]; exact ib hs'.2) hni (kE I hg hm ⟨rfl,?_⟩ bM)
 have ha':=ha bA pins s σ H _ I h;rw [fh hs'.1] at ha' ⊢;refine _X (aC ha' fun us s2 ⟨vs,H2,I2,r,z,hR⟩=>?_);exact ⟨rfl,by rw [<- r.length]; exact z,I2.bk _ _ hC,hN.keeps I2.bk,T.keeps I2.bk,fun h' ea hm'=>hx.made pins σ H2 s2 h' ea C us I2 hm' hR⟩
def la (ea C:Addr) (od:Option Addr):HO:=.ext (cY ea (.ref C) od)
def RW {P:Program} {w:World} {H:Hp} {h:Heap} {ea C:Addr} {od:Option Addr} (x:cY ea (.ref C) od h):bI P w H h ea (la ea C od) :=
 ⟨x,let ⟨o,e,_⟩:=x; ⟨o,e⟩,fun _ _ ⟨o,e,r⟩ k=>⟨o,k o e,r⟩⟩
abbrev Cx.kI (X:Cx) (v:Value):Cx:={ X with A:=X.A.mark (some v),calm:=false,xe:=fun _ _=>False }
abbrev Cx.oi (X:Cx) (pins:List (Addr×Obj)) (R:St->XK):Cx:={ X with pn:=X.pn++pins,xe:=fun e s'=>∃ (σ':St) (H H':Hp) (s:Shared) (ea C:Addr) (od:Option Addr),Inv X pins σ' H s/\e=.ref ea/\nI X.prog X.w X.stack H s ea C od H' s'/\R σ' (.ref C) od H' }
section
variable {X:Cx} {pins pins':List (Addr×Obj)} {σ:St} {H H':Hp} {s s':Shared} {R:St->XK} {v:Value}
def Inv.kI (I:Inv X pins σ H s) (v:Value):Inv (X.kI v) pins σ H s :=
 ⟨⟨I.ok.mod,I.ok.kind,I.ok.glob,I.ok.blt,I.ok.above,I.ok.inj,I.ok.has,I.ok.kK,(fun z=>Bool.noConfusion z),I.ok.frames,I.ok.dj,I.ok.ub,I.ok.bs,I.ok.gN,I.ok.mL,I.ok.mz,I.ok.eX,I.ok.iM⟩,
  I.os,I.bare,I.base,I.loc,I.cell,I.free,I.e8,I.pin,I.aA,I.len⟩
def Inv.Wu (I:Inv (X.kI v) pins σ H s) (ok:X.Ok):Inv X pins σ H s:=⟨ok,I.os,I.bare,I.base,I.loc,I.cell,I.free,I.e8,I.pin,I.aA,I.len⟩
def Inv.oi (I:Inv X pins σ H s) (R:St->XK):Inv (X.oi pins R) [] σ H s :=
 ⟨⟨I.ok.mod,I.ok.kind,I.ok.glob,I.ok.blt,I.ok.above,I.ok.inj,I.ok.has,I.ok.kK,I.ok.hd,I.ok.frames,I.ok.dj,I.ok.ub,I.ok.bs,I.ok.gN,I.ok.mL,I.ok.mz,I.ok.eX,I.ok.iM⟩,
  I.os,I.bare,I.base,I.loc,I.cell,I.free,I.e8,fun p hp=>I.pin p (by simpa using hp),I.aA,I.len⟩
def Inv.sM (I:Inv (X.oi pins R) pins' σ H s):Inv X pins σ H s :=
 ⟨⟨I.ok.mod,I.ok.kind,I.ok.glob,I.ok.blt,I.ok.above,I.ok.inj,I.ok.has,I.ok.kK,I.ok.hd,I.ok.frames,I.ok.dj,I.ok.ub,I.ok.bs,I.ok.gN,I.ok.mL,I.ok.mz,I.ok.eX,I.ok.iM⟩,
  I.os,I.bare,I.base,I.loc,I.cell,I.free,I.e8,fun p hp=>I.pin p (_a _ hp),I.aA,I.len⟩
def aa0:gR (X.oi pins R) R:=⟨fun pins' σ H s e s' I hc=>by
 obtain ⟨ea,C,od,H',rfl,F,hE⟩:=hc;exact ⟨σ,H,H',s,ea,C,od,I.sM,rfl,F,hE⟩⟩
def Inv.vD {a:Addr} {o:HO} (I:Inv X pins σ H s) (hn:H a=none) (n0:X.s₀.heap.get? a=none) (nL:a≠X.env.locals) (nC:∀ x c,X.env.cells.lookup x=some c->c≠a) (nP:∀ p∈X.pn++pins,p.1≠a)
  (new:bI X.prog X.w (upd H a o) s.heap a o):Inv X pins σ (upd H a o) s:=by
 have ne:∀ b u,H b=some u->b≠a:=fun b u e=>fV e hn;have n0':∀ b u,X.s₀.heap.get? b=some u->b≠a:=fun b u e z=>by rw [z,n0] at e; cases e
 refine ⟨I.ok,I.os,I.bare,⟨I.base.keep,I.base.slot,fun b u e n hx=>by rw [aj (n0' b u e)]; exact I.base.free b u e n hx,I.base.there,fun b xs e=>by have:=I.base.fY b xs e; rw [aj (ne b _ this)]; exact this,
  fun b u v e=>by have:=I.base.fA b u v e; rw [aj (ne b _ this)]; exact this,fun b ps e=>?_⟩,I.loc,I.cell,by rw [aj (Fa nL)]; exact I.free,fun x c e=>by rw [aj (nC x c e)]; exact I.e8 x c e,fun p hp=>?_,fun b u e=>?_,I.len⟩
 ·obtain ⟨m,e1⟩:=I.base.fQ b ps e;exact ⟨m,by rw [aj (ne b _ e1)]; exact e1⟩
 ·obtain ⟨e1,e2,r⟩:=I.pin p hp;exact ⟨e1,by rw [aj (nP p hp)]; exact e2,r⟩
 ·by_cases hb:b=a
  ·subst hb;rw [aw] at e; cases e;exact new
  ·rw [aj hb] at e;exact (I.aA b u e).gJ (fun _ _ _ q=>q) (fun c q=>by rw [aj (ne c _ q)]; exact q) fun c xs q=>by rw [aj (ne c _ q)]; exact q
def Inv.S6 {i:Nat} {n:Str} {m:Str->Option Value} {h8:Heap} {v:Option Value} {t8:Nat} (I:Inv X pins σ H s) (hN:X.N.Nodup) (hi:X.N[i]?=some n)
  (hl:∀ (i:Nat) (x:Str) (v:V),X.N[i]?=some x->σ[i]?=some (some v)->mW X.env.scope x->∃ u,RelV v u/\Look X.env s.heap m x u)
  (E8:h8.Ns X.env.locals (fun x=>if x=n then v else m x)) (sb:Heap.SameBut X.env.locals s.heap h8):Inv X pins (σ.set i none) H { s with heap:=h8,toks:=t8 }:=by
 have old:∀ b o,X.s₀.heap.get? b=some o->h8.get? b=s.heap.get? b:=fun b o e=>sb.2 b (GE (FB (Fk e) I.ok.above));refine ⟨I.ok,I.os,I.bare,⟨fun b o e n' hb hx=>(old b o e).trans (I.base.keep b o e n' hb hx),fun b o e n' hb hx=>?_,I.base.free,fun b o e hx=>?_,I.base.fY,I.base.fA,I.base.fQ⟩,⟨_,E8,fun j y v' e1 e2 e3=>?_⟩,fun y c e=>?_,I.free,I.e8,fun p hp=>?_,fun b u e=>?_,by simpa using I.len⟩
 ·obtain ⟨sl,e1⟩:=I.base.slot b o e n' hb hx;exact ⟨sl,(old b o e).trans e1⟩
 ·obtain ⟨o',e1⟩:=I.base.there b o e hx;exact ⟨o',(old b o e).trans e1⟩
 ·by_cases hj:j=i
  ·subst hj;have bN:j < σ.length:=by rw [I.len]; exact (Do.mp hi).1
   rw [Wp bN] at e2;cases e2
  ·rw [Uf (Fa hj)] at e2;obtain ⟨u',r',q⟩:=hl j y v' e1 e2 e3;refine ⟨u',r',?_⟩;rcases q with ⟨k,e⟩ | ⟨k,c,e,z⟩
   ·refine .inl ⟨k,?_⟩;have:y≠n:=fun e=>hj (A0 hN e1 (e ▸ hi));simp [this,e]
   ·exact .inr ⟨k,c,e,z.sameBut sb (I.jq y c e)⟩
 ·obtain ⟨w',z⟩:=I.cell y c e;exact ⟨w',z.sameBut sb (I.jq y c e)⟩
 ·obtain ⟨e,n',ne,nf,d⟩:=I.pin p hp;exact ⟨(sb.2 p.1 ne).trans e,n',ne,nf,d⟩
 ·refine (I.aA b u e).gJ (fun c w' hc q=>(sb.2 c ?_).trans q) (fun _ q=>q) fun _ _ q=>q;rintro rfl;have hf:=I.free;rcases hc with z | z
  ·rw [z] at hf; rw [hf] at e; cases e
  ·rw [hf] at z; cases z
end
def Ends.CQ (D:Ends) (i:Nat):Ends:=⟨fun σ H=>D.nx (σ.set i none) H,D.rt,fun σ H=>D.bk (σ.set i none) H,fun σ H=>D.ct (σ.set i none) H⟩
structure jo (K:PySem.W.Frag) (C:Addr):Prop where
 ha:PySem.W.findIn K (.ref C) "__class__" = some (some (.builtin "object.__class__"))
 hn:PySem.W.specialIn K (.builtin "object.__class__") "__get__" = some (some (.builtin "getset_descriptor.__get__"))
 gg:PySem.W.takesIn K (.builtin "object.__class__")=some true
 hm:PySem.W.mroIn K C (.type "object")=some true
 qe:PySem.W.findIn K (.ref C) "__getattribute__" = some (some (.builtin "BaseException.__getattribute__"))
 rj:PySem.W.findIn K (.ref C) "__getattr__" = some none
 hb:PySem.W.mroIn K C (.type "BaseException")=some true
def nz {M:Model} {h:Heap} {x C:Addr} {od:Option Addr} (I:cY x (.ref C) od h):PySem.W.Looks M h (typeOf (.ref x)) (.ref C):=by
 obtain ⟨o,e,c,_⟩:=I;exact c ▸ (_C e).andThen .now
def BZ {K:PySem.W.Frag} {C:Addr} {b:Value} {r:Bool} (h:PySem.W.mroIn K C b=some r):∃ c d cd sl,K.lookup C=some ⟨c,d,.cls cd,sl⟩:=by
 obtain ⟨cd,bF,_⟩:=Option.bind_eq_some_iff.mp h;unfold PySem.W.clsIn at bF;split at bF
 ·rename_i c' d' cd' sl' ho;exact ⟨_,_,_,_,ho⟩
 ·cases bF
section
variable {prog:Program} {w:World} {A:Around} {E:Value->Shared->Prop} {s:Shared} {K:PySem.W.Frag} {x C:Addr} {od:Option Addr}
def O5 {M:Model} {h:Heap} {name:Str} {a g:Value} (X:K.In h) (ha:PySem.W.findIn K (.ref C) name=some (some a)) (hn:PySem.W.specialIn K a "__get__" = some (some g)) (gg:PySem.W.takesIn K a=some true) :
  PySem.W.Looks M h (Builtin.ObjectAttr.find (.ref x) (.ref C) name) (.bind g a):=by
 have L1:=SL (M:=M) X ha;have L2:PySem.W.Looks M h (Builtin.ObjectAttr.getOf (some a)) (some g):=PySem.W.looks_specialIn X hn;have L3:=PySem.W.looks_takesIn (M:=M) X gg;unfold Builtin.ObjectAttr.find;refine L1.andThen (L2.andThen ?_);have L4:PySem.W.Looks M h (Builtin.ObjectAttr.dataDescriptor? (some a) (some g)) (some (g,a)):=by
  unfold Builtin.ObjectAttr.dataDescriptor?;exact L3.andThen .now
 exact L4.andThen (PySem.W.Looks.tag .now)
open PySem.W in
open Builtin Builtin.ObjectAttr Builtin.Getset_descriptor in
def Ua {R:Result->Shared->Prop} {tp:Value} (Z:jo K C) (X:K.In s.heap) (I:cY x (.ref C) od s.heap) (h:R (.ok (.ret (.ref C))) s) :
  codeAny (model prog w) A (.call (.builtin "getset_descriptor.__get__") ⟨[.builtin "object.__class__",.ref x,tp],[]⟩) R s:=by
 obtain ⟨hh,g,dr,t,os⟩:=s;have L0:=nz (M:=model prog w) I;have L1:=looks_mroIn (M:=model prog w) X Z.hm;refine _x KF.slot_gs.plain KF.entry_gs (KF.slot_gs.check _ _ _ _ _ _ _ _ KF.type_class (KF.args_gs _ _ _) ?_);unfold Builtin.«getset_descriptor.__get__» descrGet;rw [dga_obj];refine wT (Cl ?_);unfold descrGetter descrCheckInstance descrNameAndClass isInstance;simp only [KF.owner_class]
 repeat lk
 refine ⟨JaE _ (by decide +kernel),Jap KF.entry_class ?_⟩;unfold Builtin.«object.__class__» shownTypeOf
 repeat lk
 exact h
def JT {M:Model} {NJ:Value} {Q:Unit->Shared->Prop} (Z:jo K C) (X:K.In s.heap) (I:cY x (.ref C) od s.heap) (h:Q () s):wpAny M A (checkBuiltinCall "BaseException.__getattribute__" ⟨[.ref x,NJ],[]⟩) Q E s:=by
 have k1:builtinKind "BaseException.__getattribute__" = some .slot:=by decide +kernel
 have k2:splitId "BaseException.__getattribute__" = some ("BaseException","__getattribute__"):=by decide +kernel
 have k3:=PySem.F.args_bexc_ga (.ref x) NJ;have L0:=nz (M:=M) I;have L1:=_A (M:=M) X Z.hb;obtain ⟨hh,g,d,t,os⟩:=s;have L2:PySem.W.Looks M hh (isInstance (.ref x) (.type "BaseException")) true:=L0.andThen L1;simp only [checkBuiltinCall,k1,k2];refine wT (L2.at ?_)
 repeat (any_goals (first | assumption | wp_step))
def R4 {Q:Option Value->Shared->Prop} (Z:jo K C) (X:K.In s.heap) (I:cY x (.ref C) od s.heap) (h:Q (some (.ref C)) { s with toks:=s.toks+1 }):wpAny (model prog w) A (getAttr? (.ref x) "__class__") Q E s:=by
 obtain ⟨hh,g,d,t,os⟩:=s;have L0:=nz (M:=model prog w) I;have L1:=SL (M:=model prog w) X Z.qe;have L2:=SL (M:=model prog w) X Z.rj;have L3:=O5 (M:=model prog w) (x:=x) X Z.ha Z.hn Z.gg;unfold getAttr? getAttrBy? getAttrBy;refine wT (wpAny_mkText (wT (JaG (Rs (wT (L0.at (wT (L1.at ?_))))))));show wpAny _ _ (getAttrByItsOwn (.ref x) (.str "__class__" t) (.ref C) (.builtin "BaseException.__getattribute__") false false) _ _ _;unfold getAttrByItsOwn;refine wT (L2.at ?_);refine wT (JaG (Rs ?_));show wpAny _ _ (boundAndCalled (.builtin "BaseException.__getattribute__") (.ref x) (.str "__class__" t)) _ _ _;unfold boundAndCalled;refine wT (wpAny_of_eq (_D.ga.bind (.ref x)) ?_);refine _r (_x _D.ga.plain PySem.F.entry_bexc_ga (JT Z X I ?_));show wpAny _ _ (Builtin.«object.__getattribute__» ⟨[.ref x,.str "__class__" t],[]⟩) _ _ _;unfold Builtin.«object.__getattribute__»;refine wT (Cl ?_);refine wT (Cl ?_);refine wT (L0.at (wT (L3.at ?_)));show wpAny _ _ (Builtin.ObjectAttr.bindTo (.builtin "getset_descriptor.__get__") (.builtin "object.__class__") (.ref x) (.ref C)) _ _ _;show wpAny _ _ (holding [.builtin "object.__class__"] (call (.builtin "getset_descriptor.__get__") [.builtin "object.__class__",.ref x,.ref C]) >>= fun v=>ret v) _ _ _;refine wT (Rs (_r (Ua Z X I (Cl ?_))));exact Cl (Cl h)
def CZ (Z:jo K C):PySem.W.KitX K (.ref x) (.ref C) (cY x (.ref C) od) where
 ty:=fun _ _ _ I=>nz I
 it:=fun _ _ X _=>by
  obtain ⟨c',d',cd',sl',ho⟩:=BZ Z.hm;intro A' Q' E' s' k q;unfold isType loadHead;exact wT (_B (k _ _ (X _ _ ho)) (Cl q))
 ne:=fun h tp dd ao n sl X htp=>by
  obtain ⟨c',d',cd',sl',ho⟩:=BZ Z.hm;refine Bool.eq_false_iff.mpr fun q=>?_;have e:C=tp:=Value.ref.inj (_o.mp q);subst e;have z:=(X _ _ ho).symm.trans htp;cases z
 ca:=fun X I k=>R4 Z X I k
end
inductive rA (K:PySem.W.Frag) (H:Hp):V->Value->Bool->Prop where
 | of {x:V} {t:Value} (h:fw K H x t):rA K H x t false
 | exc {ea C:Addr} {od:Option Addr} (e:H ea=some (la ea C od)) (Z:jo K C):rA K H (.ref ea) (.ref C) true
inductive ph (K:PySem.W.Frag) (H:Hp) (t:Value):Bool->V->Bool->Prop where
 | ty {f:Bool} {n:String} {b:Bool} (e:PySem.W.kitOne K t (.type n)=some b):ph K H t f (.ty n) b
 | cls {f:Bool} {a:Addr} {b:Bool} (e:PySem.W.kitOne K t (.ref a)=some b):ph K H t f (.ref a) b
 | tup {p:Addr} {cs:List V} {us:List Value} {b:Bool} (h:H p=some (.tup cs)) (hu:∀ ws,Vals cs ws->ws=us) (e:PySem.W.kitAny K t us=some b):ph K H t true (.ref p) b
section
variable {X:Cx} {K:PySem.W.Frag}
def yM (K:PySem.W.Frag):List V->Hp->VK->Prop:=fun xs H Q=>match xs with
 | [x,c]=>∃ (t:Value) (f b:Bool),rA K H x t f/\ph K H t f c b/\Q (.bl b) H
 | _=>False
def aar {x c:V} {u v t:Value} {pins:List (Addr×Obj)} {σ:St} {H:Hp} {s:Shared} {A:Around} {E:Value->Shared->Prop} {Q:Value->Shared->Prop} {f b:Bool} (I:Inv X pins σ H s) (rx:RelV x u) (rc:RelV c v) (ty:rA X.K H x t f) (a:ph X.K H t f c b)
  (h:∀ tk,Q (.bool b) { s with toks:=tk }):wpAny (model X.prog X.w) A (call (.builtin "isinstance") [u,v]) Q E s:=by
 cases ty with
 | of ty =>
  cases a with
  | ty e=>cases (show v=Value.type _ from rc); exact yR I rx ty e h
  | cls e=>cases (show v=Value.ref _ from rc); exact yR I rx ty e h
 | @exc ea C od e Z =>
  cases (show u=Value.ref ea from rx);obtain ⟨p,_,_⟩:=(show bI X.prog X.w H s.heap ea (la ea C od) from I.aA ea _ e);cases a with
  | ty e'=>cases (show v=Value.type _ from rc); exact Tk (CZ Z) I.bR p e' (fun z=>nomatch z) h
  | cls e'=>cases (show v=Value.ref _ from rc); exact Tk (CZ Z) I.bR p e' (fun z=>nomatch z) h
  | @tup tp cs us b hp hu e' =>
   cases (show v=Value.ref tp from rc);obtain ⟨_,ao,rv,o,ho,hc,n,hd,_⟩:=(show bI X.prog X.w H s.heap tp (.tup cs) from I.aA tp _ hp);obtain rfl:=hu ao rv;obtain ⟨oc,odd,Em,cZ⟩:=o;dsimp only at hc hd;subst hc hd;exact PySem.W.kia_tup (CZ Z) I.bR p ho e' (fun z=>nomatch z) h
def tP (h:X.K=K):cA X (.builtin "isinstance") (yM K):=h ▸ fun pins s σ H xs us Q I r q=>by
 unfold yM at q;split at q
 ·rename_i x c;obtain ⟨t,f,b,ty,a,q⟩:=q;obtain ⟨u,v,rfl,ru,rv⟩:=vals2 r;exact aar I ru rv ty a fun tk=>⟨.bl b,H,I.tok tk,rfl,q⟩
 ·exact q.elim
end
namespace Dv
section
variable {X:Cx} {st:Stmt} {t:TS}
def cP {k:Nat} {f:Addr} {fd:FuncData} {ps:List Str} {sp:Sp} {bh:List V} {ds:List Value} {R:St->XK} {x:Str} {p pos:Pos} {e:Expr} {es:List Expr} {t:TA}
  (F:aB X.prog X.w X.K X.mg X.base (bj X.prog X.w) k f fd ps sp) (hr:aZ k X.A) (hm:X.mg x=some (.ref f)) (hk:PySem.W.keepIn X.K (.ref f)=true) (hb:Binds X.K fd ps ds) (hd:Vals bh ds) (hx:gR X R)
  (ha:QA X (e::es) t) (hg:Gl X x:=by rfl) (hs:(e::es).all noStar=true:=by rfl) (bM:(x == ("__debug__" : Str))=false:=by decide):QE X (.Call (.Name x p) (e::es) [] pos) (DL sp bh R t):=⟨S9 F hr hg hm hk hb hd hx ha.h hs bM⟩
def BV {R:St->XK} {x:Str} {C:Addr} {e:Expr} {es:List Expr} {t:TA} {np bA pos:Pos} (hx:Raises X R) (hc:X.calm=true) (hm:X.mg x=some (.ref C)) (q:PySem.W.excIn X.K C ud "ValueError.__new__" = true) (ha:QA X (e::es) t)
  (hg:Gl X x:=by rfl) (hs:(e::es).all noStar=true:=by rfl) (bM:(x == ("__debug__" : Str))=false:=by decide):QS X (.Raise (some (.Call (.Name x np) (e::es) [] bA)) none pos) (Cp C R t):=⟨RY hx hc hm q ha.h hg hs bM⟩
end
end Dv
def fv.eg {P:Program} {w:World} {K:PySem.W.Frag} {mg:Str->Option Value} {base:Heap} {CX:dH} {x qual:Str} {st:Stmt} {f:Addr} {fd:FuncData} {N ps:List Str} {k:Nat} {sp:Sp} (F:fv K x qual st f fd) (S:aE N ps (ax st)) (len:∀ vs H Q E,sp vs H Q E->vs.length=ps.length)
  (hb:∀ (ag:Value) (A:Around) (outer:List Env) (s:Shared) (H:Hp) (vs:List V) (Q:VK) (E:XK),aZ k (A.deeper (envOfC qual (ax st) s.heap.objs.size f ag))->sp vs H Q E ->
   ∃ t,cX (bT CX P w K mg base N qual (ax st) f ag A outer s H E) (aV st) t/\t { nx:=fun _ H'=>Q .au H',rt:=Q } (start N vs) H):aB P w K mg base CX (k+1) f fd ps sp:=by
 obtain ⟨oc,od,kV,doc,pm,an,ag,ct,cZ,rfl,lk,bF⟩:=F.ex;exact wQ lk bF S len fun A outer s H vs Q E hr c8=>hb ag A outer s H vs Q E hr c8
def sT:List Value->Bool
 | []=>false
 | v::r=>(v::r) == ud || match v with
  | .ref _=>sT r
  | _=>false
def G3 (self:Value):∀ {l:List Value},sT l=true->refuseLoop self "__setattr__" l=pure ()
 | [],e=>nomatch e
 | v::r,e=>by
  unfold sT at e;rcases Bool.or_eq_true_iff.mp e with q | q
  ·rw [_o.mp q]; exact PySem.F.store_ValueError.passes self
  ·split at q
   ·rw [refuseLoop_ref];exact G3 self q
   ·cases q
def v8 (K:PySem.W.Frag) (C:Addr):Bool:=match K.lookup C with
 | some ⟨.type "type",_,.cls cd,sl⟩=>(match cd.mro,sl.toList with
  | .ref C'::bm,[_,_,_,_,some (.builtin n),_]=>C' == C && n == "ValueError.__new__" && !cd.hasDel && PySem.W.tailIn K ud bm && sT cd.mro && cd.hasDict
  | _,_=>false)
 | _=>false
structure gy (K:PySem.W.Frag) (C f:Addr) (fld:Str):Prop where
 q:v8 K C=true
 hi:PySem.W.findIn K (.ref C) "__init__" = some (some (.ref f))
 hf:PySem.W.typeIn K (.ref f)=some (.type "function")
 sa:PySem.W.findIn K (.ref C) "__setattr__" = some (some (.builtin "object.__setattr__"))
 na:PySem.W.findIn K (.ref C) fld=some none
 ob:PySem.W.mroIn K C (.type "object")=some true
 be:PySem.W.mroIn K C (.type "BaseException")=some true
 self:PySem.W.mroIn K C (.ref C)=some true
 kp:PySem.W.keepIn K (.ref C)=true
def vX {K:PySem.W.Frag} {h:Heap} {C:Addr} (X:K.In h) (q:v8 K C=true) :
  ∃ bm N nm q bs sn sub ab col dd k0 k1 k2 k3 k5,h.get? C=some (excClassObj nm q C N bs bm true sn sub ab col dd k0 k1 k2 k3 k5 "ValueError.__new__")/\OwnTail h ud bm/\sT (.ref C::bm)=true:=by
 unfold v8 at q;split at q
 ·rename_i dd cd sl ho;split at q
  ·rename_i C' bm k0 k1 k2 k3 n k5 hm hs;simp only [IR,_o,Bool.not_eq_true'] at q;obtain ⟨⟨⟨⟨⟨q1,q2⟩,q3⟩,q4⟩,q5⟩,q6⟩:=q;subst q1 q2;obtain ⟨nm,bs,mro,ns,qn,hd,sn,sub,ab,col,del⟩:=cd;dsimp only at hm q3 q5 q6;subst hm q3 q6;have e1:sl=#[k0,k1,k2,k3,some (.builtin "ValueError.__new__"),k5]:=by
    obtain ⟨l⟩:=sl;simp only at hs;rw [hs]
   subst e1;exact ⟨bm,ns,nm,qn,bs,sn,sub,ab,col,dd,k0,k1,k2,k3,k5,X _ _ ho,PySem.W.tail_of_in X q4,q5⟩
  ·cases q
 ·cases q
section
variable {prog:Program} {w:World} {A:Around} {E:Value->Shared->Prop} {s:Shared} {K:PySem.W.Frag} {x C f:Addr} {fld:Str} {v:Value}
open Builtin Builtin.ObjectAttr in
def XG {Q:Unit->Shared->Prop} (Z:gy K C f fld) (X:K.In s.heap) (I:cY x (.ref C) none s.heap)
  (h:∀ h' d tk,s.heap.objs.size<=d->d≠x->(∃ o,s.heap.get? x=some o/\h'.get? x=some { o with dict:=some d })->h'.Ns1 d (fun y=>if y=fld then some v else none)->(∀ b o,b≠x->s.heap.get? b=some o->h'.get? b=some o)->Q () { s with heap:=h',toks:=tk }) :
  wpAny (model prog w) A (setAttr (.ref x) fld v) Q E s:=by
 obtain ⟨hh,g,dr,t,os⟩:=s;have L0:=nz (M:=model prog w) I;have L1:=SL (M:=model prog w) X Z.sa;have L2:=SL (M:=model prog w) X Z.na;obtain ⟨bm,N,nm,qn,bs,sn,sub,ab,col,dd,k0,k1,k2,k3,k5,hC,T,N5⟩:=vX X Z.q;have Lo:=_A (M:=model prog w) X Z.ob;have Li:PySem.W.Looks (model prog w) hh (isInstance (.ref x) (.type "object")) true:=L0.andThen Lo;have SF:=PySem.F.store_object;refine wT (wpAny_mkText (wT (wT (wT (L0.at (L1.at (Rs ?_)))))));rw [SF.slot.bind];refine wT (Cl (wT (_r ?_)));refine _x SF.slot.plain SF.entry ?_;refine @PySem.W.check_slot (model prog w) _ _ ⟨hh,g,dr,t+1,os⟩ "object.__setattr__" "object" "__setattr__" (.ref x) [.str fld t,v] [] _ SF.kind SF.split Li (SF.args (.ref x) (.str fld t) v) ?_;show wpAny _ _ (Builtin.«object.__setattr__» ⟨[.ref x,.str fld t,v],[]⟩) _ _ _;rw [PySem.W.osa_eq,refuse_eq];refine wT (wT (L0.at (wT (wpAny_mroOf_exc hC ?_))));rw [G3 _ N5];refine Cl (wT (L0.at (wT (L2.at (wT (Cl ?_))))));obtain ⟨o,hx,hc,lM,vs,fb⟩:=I;show wpAny _ _ (storeInOwnDict (.ref x) (.ref C) (.str fld t) fld v false) _ _ _;have Lc:PySem.W.Looks (model prog w) hh (classData C) _:=(_C (part:=none) hC).andThen .now;obtain ⟨oc,od,Em,cZ⟩:=o;dsimp only at hc lM fb;subst hc lM fb;have bx:(hh.push { cls:=.type "dict",data:=.dict #[] }).get? x=some ⟨.ref C,none,.fields vs,cZ⟩:=xz _ hx;have Fx:x≠hh.objs.size:=GE (Fk hx);unfold storeInOwnDict ownDictForStores instanceDict;refine wT (Cl ?_);refine wT (wT (_B hx (wT (Lc.at ?_))));refine wT (wpAny_alloc' ?_);refine wT (wpAny_update' bx (Cl ?_));show wpAny _ _ (storeInDict hh.objs.size (.str fld t) fld v) _ _ _;have hself:((hh.push { cls:=.type "dict",data:=.dict #[] }).update x fun o=>{ o with dict:=some hh.objs.size }).get? x=some ⟨.ref C,some hh.objs.size,.fields vs,cZ⟩:=_b _ bx rfl;have hdict:((hh.push { cls:=.type "dict",data:=.dict #[] }).update x fun o=>{ o with dict:=some hh.objs.size }).get? hh.objs.size=some { cls:=.type "dict",data:=.dict #[] } :=
  (Heap.get?_update_ne _ _ _ _ Fx.symm).trans (Heap.get?_push_at rfl rfl)
 have hoth:∀ b o,b≠x->hh.get? b=some o->((hh.push { cls:=.type "dict",data:=.dict #[] }).update x fun o=>{ o with dict:=some hh.objs.size }).get? b=some o:=fun b o hb e =>
  (Heap.get?_update_ne _ _ _ _ hb).trans (xz _ e)
 have eK:((hh.push { cls:=.type "dict",data:=.dict #[] }).update x fun o=>{ o with dict:=some hh.objs.size }).Ns hh.objs.size (fun _=>none):=⟨_,#[],_,hdict,rfl,fun e he=>absurd he (by simp),fun _=>rfl⟩;unfold storeInDict newKeyGuard;refine wT (Cl (wT (wpAny_nsSet1 (Heap.Ns1.of_empty eK) fun h' hn' hs=>?_)));obtain ⟨oD,esD,epD,ER,EM,Eu⟩:=hn'.count (Within.cons fld v Within.nil);refine wT (wpAny_lookBehind ER (by rw [EM]; exact pastItsLine_dict (Gc Eu (by rw [Os,_M,_V]; omega))) ?_);refine Cl (Cl (Cl ?_));exact h h' hh.objs.size _ (Ev _) (Fa Fx) ⟨_,hx,(hs.2 x Fx).trans hself⟩ hn' fun b o hb e=>(hs.2 b (GE (Fk e))).trans (hoth b o hb e)
end
def mB (e:Addr) (c:Value) (od:Option Addr) (h:Heap):Prop:=∃ o,h.get? e=some o/\o.cls=c/\o.dict=od/\∃ vs a0,o.data=.fields vs/\vs[1]?=some .none/\vs[0]?=some a0
def mB.hd {e:Addr} {c:Value} {od:Option Addr} {h:Heap} (x:mB e c od h):cY e c od h:=let ⟨o,a,b,c,vs,_,d,_⟩:=x; ⟨o,a,b,c,vs,d⟩
def df (ea C:Addr) (od:Option Addr):HO:=.ext (mB ea (.ref C) od)
def HX {P:Program} {w:World} {H:Hp} {h:Heap} {ea C:Addr} {od:Option Addr} (x:mB ea (.ref C) od h):bI P w H h ea (df ea C od) :=
 ⟨x,let ⟨o,e,_⟩:=x; ⟨o,e⟩,fun _ _ ⟨o,e,r⟩ k=>⟨o,k o e,r⟩⟩
def Ug {h h':Heap} {e:Addr} {cls:Value} {args:List Value} (hx:Heap.MadeExcOf h h' e cls args):mB e cls none h':=by
 obtain ⟨t,he,_⟩:=hx.there;exact ⟨_,he,rfl,rfl,_,_,rfl,rfl,rfl⟩
def Dx (C:Addr) (fld:Str) (ta tv:TE):TS:=fun D σ H=>tv σ H fun y H1=>ta σ H1 fun x H2=>∃ ea,x=.ref ea/\H2 ea=some (df ea C none)/\∀ d,H2 d=none->D.nx σ (upd (upd H2 ea (df ea C (some d))) d (.xd [(fld,y)]))
def OZ {fld g:Str} {y:V} {u:Value} (r:RelV y u):eE (([(fld,y)]:List (Str×V)).lookup g) (if g=fld then some u else none):=by
 by_cases h:g=fld
 ·have hb:(g == fld)=true:=_o.mpr h;simp only [List.lookup,hb,IN h];exact r
 ·have hb:(g == fld)=false:=On.mpr h;simp only [List.lookup,hb,Id h];exact True.intro
section
variable {X:Cx} {C f:Addr} {fld:Str} {o value:Expr} {ta tv:TE} {pos pos':Pos}
def Tw (Z:gy X.K C f fld) (ha:PE X o ta) (hv:PE X value tv) (hs:swapsWith value (some (.Attribute o fld pos')) pos.line X.env=pure false):PS X (.Assign [.Attribute o fld pos'] value pos) (Dx C fld ta tv):=by
 intro pins s σ H D I h;refine plainObj_wpAny_Assign_Attribute (aC (hv pins s σ H _ I h) fun u s1 ⟨y,H1,I1,ry,q⟩=>aC (ha pins s1 σ H1 _ I1 q) fun ov s2 ⟨x,H2,I2,rx,ea,ex,he,q2⟩=>?_) hs;subst ex;obtain rfl:ov=Value.ref ea:=rx;obtain ⟨p,_,_⟩:=(show bI X.prog X.w H2 s2.heap ea (df ea C none) from I2.aA ea _ he);refine XG Z I2.bR p.hd fun h' d tk hsz lS uY eK hkeep=>?_;obtain ⟨o0,e0,e1⟩:=uY;obtain ⟨o0',e0',c0,d0,vs,a0,v0⟩:=p;rw [e0] at e0'; cases e0';have hd':mB ea (.ref C) (some d) h':=⟨_,e1,c0,rfl,vs,a0,v0⟩;have aS:H2 d=none:=I2.aA.fresh hsz;have J:Inv X pins σ (upd H2 ea (df ea C (some d))) { s2 with heap:=h',toks:=tk } :=
  I2.write (x:=ea) (e:=ea) (o:=df ea C (some d)) (t':=tk) (by rw [he]; exact True.intro) (.inl rfl) hkeep ⟨_,e1⟩ (HX hd')
 have big:∀ b,(∃ u,s2.heap.get? b=some u)->b≠d:=fun b ⟨u,e⟩ z=>absurd (Fk e) (by rw [z]; exact Nat.not_lt.mpr hsz);refine ⟨σ,_,J.vD (a:=d) (o:=.xd [(fld,y)]) (by rw [aj lS]; exact aS) (_v (Gc I2.sz hsz)) ?_ ?_ ?_ ⟨_,eK,fun g=>OZ ry⟩,q2 d aS⟩
 ·obtain ⟨m,⟨o,_,_,ho,_⟩,_⟩:=I2.loc;exact Fa (big _ ⟨o,ho⟩)
 ·intro z c e;obtain ⟨w',o,ho,_⟩:=I2.cell z c e;exact big _ ⟨o,ho⟩
 ·intro p hp;exact big _ ⟨_,(I2.pin p hp).1⟩
end
def mx (C:Addr) (fld:Str):Sp:=fun vs H Q _=>match vs with
 | [.ref ea,y]=>H ea=some (df ea C none)/\∀ d,H d=none->Q .au (upd (upd H ea (df ea C (some d))) d (.xd [(fld,y)]))
 | _=>False
section
variable {prog:Program} {w:World} {A:Around} {E:Value->Shared->Prop} {h:Heap} {g:Array GenState} {d:Drawn} {t:Nat} {os:OsState} {K:PySem.W.Frag} {C f:Addr} {fld:Str}
def P8 {rest:List Value} {Q:Fin->Shared->Prop} (Z:gy K C f fld) (X:K.In h) (dO:rest.length<=sizeLine)
  (hq:∀ h' e,Heap.MadeExcOf h h' e (.ref C) rest->wpAny (model prog w) A (call (.ref f) (.ref e::rest)) (fun r s'=>r=.none/\Q (.done (.ret (.ref e))) s') E ⟨h',g,d,t,os⟩) :
  wpAny (model prog w) A (Builtin.«type.__call__» ⟨.ref C::rest,[]⟩) Q E ⟨h,g,d,t,os⟩:=by
 have F:=_Z;obtain ⟨bm,N,nm,qn,bs,sn,sub,ab,col,dd,k0,k1,k2,k3,k5,hC,T,_⟩:=vX X Z.q
 repeat (first | with_reducible refine wpAny_loadPart_at hC ?_ | with_reducible refine wpAny_madeBy_exc hC ?_ | wp_step)
 refine codeAny_call_builtin_code (JaE _ F.quiet) (wpAny_check_new_subT F T hC (codeAny_exc_new_subT F T hC ?_ dO));show wpAny _ _ _ _ _ _;have kk:∀ b o,h.get? b=some o->((h.push { cls:=.type "tuple",data:=.seq rest.toArray }).push { cls:=.ref C,data:=.fields #[.ref h.objs.size,.none,.none,.none,.bool false,.none] }).get? b=some o:=fun b o e=>xz _ (xz _ e);have Oi:((h.push { cls:=.type "tuple",data:=.seq rest.toArray }).push { cls:=.ref C,data:=.fields #[.ref h.objs.size,.none,.none,.none,.bool false,.none] }).get? (h.objs.size+1)=some { cls:=.ref C,data:=.fields #[.ref h.objs.size,.none,.none,.none,.bool false,.none] }:=by heap_get
 have NI:((h.push { cls:=.type "tuple",data:=.seq rest.toArray }).push { cls:=.ref C,data:=.fields #[.ref h.objs.size,.none,.none,.none,.bool false,.none] }).get? h.objs.size=some { cls:=.type "tuple",data:=.seq rest.toArray }:=xz _ (Heap.get?_push_at rfl rfl);generalize Ob:(h.push { cls:=.type "tuple",data:=.seq rest.toArray }).push { cls:=.ref C,data:=.fields #[.ref h.objs.size,.none,.none,.none,.bool false,.none] }=h2 at kk Oi NI ⊢;have made:Heap.MadeExcOf h h2 (h.objs.size+1) (.ref C) rest:=⟨kk,_v (Jak _),h.objs.size,Oi,_v (Ev _),NI⟩;have X2:K.In h2:=fun b o e=>kk b o (X b o e);have L0:=nz (M:=model prog w) (Jo made);have L1:=SL (M:=model prog w) X2 Z.hi;have Lb:=PySem.W.bind_fn (M:=model prog w) X2 (.ref (h.objs.size+1)) Z.hf;have Ls:PySem.W.Looks (model prog w) h2 (isSubtype (.ref C) (.ref C)) true:=_A X2 Z.self;have Li:PySem.W.Looks (model prog w) h2 (isInstance (.ref (h.objs.size+1)) (.ref C)) true:=L0.andThen Ls;refine wT (Li.at ?_);simp only [_7,P3,_i];refine wT (Rs ?_);unfold callSpecial? specialOf;refine wT (wT (L0.at (L1.at ?_)));refine Rs (wT (Lb.at (wT (Ty (hq h2 _ made) (fun r s' z=>?_) fun _ _ z=>z))));obtain ⟨rfl,z⟩:=z;exact Cl (Cl z)
def Xx {rest:List Value} {Q:Value->Shared->Prop} (Z:gy K C f fld) (X:K.In h) (dO:rest.length<=sizeLine)
  (hq:∀ h' e,Heap.MadeExcOf h h' e (.ref C) rest->wpAny (model prog w) (A.under (.builtin "type.__call__" ⟨.ref C::rest,[]⟩)) (call (.ref f) (.ref e::rest)) (fun r s'=>r=.none/\Q (.ref e) s') E ⟨h',g,d,t,os⟩) :
  wpAny (model prog w) A (call (.ref C) rest) Q E ⟨h,g,d,t,os⟩:=by
 obtain ⟨bm,N,nm,qn,bs,sn,sub,ab,col,dd,k0,k1,k2,k3,k5,hC,T,_⟩:=vX X Z.q;have f1:=tc_lookup;have f2:=tc_bind (.ref C);have hT:(⟨h,g,d,t,os⟩:Shared).TypeIs (.ref C) "type" := ⟨_,hC,rfl⟩;refine _r (codeAny_of_tree ?_);show wpAny _ _ (callAny (.ref C) _) _ _ _
 repeat (any_goals (first | assumption | with_reducible refine wpAny_loadPart_at hC ?_ | wp_step))
 exact ⟨rfl,codeAny_call_builtin_at (JaE _ (by decide +kernel)) entry_typeCall (wpAny_check_type_call_sub hC (P8 Z X dO fun h' e hm=>hq h' e hm))⟩
end
def SW {M:Model} {A:Around} {E:Value->Shared->Prop} {s:Shared} {env:Env} {K:PySem.W.Frag} {C:Addr} {x:Sem Value} {Q:Flow->Shared->Prop} (hb:PySem.W.mroIn K C (.type "BaseException")=some true) (cE:PySem.W.typeIn K (.ref C)=some (.type "type")) (hh:A.handled=none)
  (h:wpAny M A x (fun v s₁=>∃ e o vs,v=.ref e/\s₁.heap.get? e=some o/\o.cls=.ref C/\o.data=.fields vs/\vs[1]?=some .none/\K.In s₁.heap/\E (.ref e) s₁) E s) :
  wpAny M A (raiseStmt env (some x) none) Q E s:=by
 unfold raiseStmt;refine wT (Ty h (fun v s₁ h₁=>?_) fun _ _ x=>x);obtain ⟨e,o,vs,rfl,he,hc,hd,h1,X,hE⟩:=h₁;obtain ⟨hp,g,d,tk,os⟩:=s₁;have L0:PySem.W.Looks M hp (typeOf (.ref e)) (.ref C):=hc ▸ (_C he).andThen .now;have L1:=_A (M:=M) X hb;have L2:PySem.W.Looks M hp (isType (.ref e)) false:=by
  obtain ⟨oc,od,Em,cZ⟩:=o;dsimp only at hd;subst hd;intro A' Q' E' s' k q;unfold isType loadHead;exact wT (_B (k _ _ he) (Cl q))
 have L3:PySem.W.Looks M hp (isExcClass (.ref e)) false:=L2.andThen .now;have L4:PySem.W.Looks M hp (isInstance (.ref e) (.type "BaseException")) true:=L0.andThen L1;have L5:=PySem.W.looks_typeIn (M:=M) X cE;refine wT (Cl (wT (Rs ?_)));unfold excFromValue;refine wT (L3.at ?_);simp only [P3,_i];refine wT (L4.at ?_);simp only [if_true];refine Cl ?_;refine wT (L2.at ?_);simp only [P3,_i];unfold raisedInstance;refine wT (wT (L0.at (wT (L5.at ?_))));refine Cl ?_;unfold setFlight;refine wT (wT (wpAny_field he hd h1 ?_));refine Cl ?_;exact wpAny_raiseNew_none hh hE
def ID {fs:List Addr} {H H':Hp} {h h1 base:Heap} (u:Un fs [] H H' h h1):∀ l:List Env,(∀ b∈bJ l,b∈fs/\H b=none)->h.FunFrames base l->h1.FunFrames base l
 | [],_,_=>trivial
 | env::r,hs,⟨hk,⟨L,o,hf,hn,ho,hd⟩,hr⟩=>by
  have e:bJ (env::r)=L::bJ r:=by
   unfold bJ;rw [_y,hf]
  obtain ⟨h1',h2'⟩:=hs L (by rw [e]; exact T0);obtain ⟨sl,e1⟩:=u.slot L o ho h2' h1' (by simp);exact ⟨hk,⟨L,_,hf,hn,e1,hd⟩,ID u r (fun b hb=>hs b (by rw [e]; exact LT _ hb)) hr⟩
section
variable {X:Cx} {pins:List (Addr×Obj)} {σ:St} {H H':Hp} {s s1:Shared} {ea C:Addr} {od:Option Addr}
def Inv.SG {M:Model} {A:Around} {E:Value->Shared->Prop} (I:Inv X pins σ H s) (O:Own X) (hA:A.frames=some X.stack) (os:s1.os=s.os) (bare:AllBare s1.gens) (un:Un (bJ X.stack) [] H H' s.heap s1.heap) (aA:bU X.prog X.w H' s1.heap)
  (free:H' ea=none) (new:s.heap.get? ea=none) (hn:mB ea (.ref C) od s1.heap):wpAny M A (leaving X.env (.ref ea)) (fun _ s''=>nI X.prog X.w X.outer X.H₀ X.s₀ ea C od H' s'') E s1:=by
 have aU:(PySem.W.hideAll s1.heap (ea::bJ X.stack)).StaysIn s1.heap:=fun b o q=>Jaz _ q;have lL:s1.heap.FunFrames (PySem.W.hideAll s1.heap (ea::bJ X.stack)) X.stack:=PySem.W.funFrames_hide (ID un X.stack (fun b hb=>⟨hb,I.xu b hb⟩) I.stack) fun env he a ha=>LT _ (Ja1.mpr ⟨env,he,ha⟩);have Ft:(PySem.W.hideAll s1.heap (ea::bJ X.stack)).get? ea=none:=PySem.W.hideAll_none _ T0;have gF:tV (PySem.W.hideAll s1.heap (ea::bJ X.stack)) (bJ X.stack) s.heap H' s1.heap:=fun b o e hb z=>by
  refine Jas _ e fun hm=>?_;rcases AT.mp hm with q | q
  ·rcases z with ⟨u,z⟩ | ⟨u,z⟩
   ·rw [q,new] at z; cases z
   ·rw [q,free] at z; cases z
  ·exact hb q
 generalize PySem.W.hideAll s1.heap (ea::bJ X.stack)=B at aU lL Ft gF;rw [O.dj] at lL hA;obtain ⟨oe,he,hc,xG,vs,a0,hd,h1,h0⟩:=id hn;refine aC ((Kp.leaving X.env (.ref ea)).any hn.hd (wpAny_leaving_firstW (Q:=fun _ s''=>∃ h2,s''={ s1 with heap:=h2 }/\Heap.LeftW B (X.env::X.outer) ea oe.cls a0 s1.heap h2) hA lL O.frame he aU Ft hd h1 h0 fun h2 x=>⟨h2,rfl,x⟩)) fun _ s'' ⟨⟨h2,e,k1,⟨_,_,k2⟩,k3,k4⟩,hd2⟩=>?_;subst e;rw [hc] at k3;exact I.AG (s':={ s1 with heap:=h2 }) O os bare un aA free new gF ⟨k1,Ft,k2,k3⟩ k4 hd2
structure yX (X:Cx) (R:St->XK):Prop where
 made:∀ (pins:List (Addr×Obj)) (σ:St) (H H':Hp) (s s1:Shared) (ea C:Addr) (od:Option Addr),Inv X pins σ H s->s1.os=s.os->AllBare s1.gens->Un (bJ X.stack) [] H H' s.heap s1.heap->bU X.prog X.w H' s1.heap->H' ea=none->s.heap.get? ea=none ->
  mB ea (.ref C) od s1.heap->R σ (.ref C) od H'->X.xe (.ref ea) s1
end
def xj {P:Program} {w:World} {K:PySem.W.Frag} {mg:Str->Option Value} {base:Heap} {N:List Str} {qual:Str} {scope:Scope} {f:Addr} {cd:Value} {A:Around} {outer:List Env} {s₀:Shared} {H₀:Hp} {E:XK} :
  yX (bT (bj P w) P w K mg base N qual scope f cd A outer s₀ H₀ E) (fun _=>E) where
 made:=fun pins σ H H' s s1 ea C od I os bare un aA free new hn hE=>aC (I.SG ⟨rfl,rfl,rfl⟩ I.ok.frames os bare un aA free new hn) fun _ s'' z=>⟨ea,C,od,H',rfl,z,hE⟩
def yD (C:Addr) (fld:Str) (R:St->XK) (t:TA):TS:=fun _ σ H=>t σ H fun vs H1=>∃ v,vs=[v]/\∀ d,H1 d=none->R σ (.ref C) (some d) (upd H1 d (.xd [(fld,v)]))
def Yq {X:Cx} {R:St->XK} {x fld:Str} {C f:Addr} {fd:FuncData} {k:Nat} {ps:List Str} {e:Expr} {es:List Expr} {t:TA} {np bA pos:Pos} (hx:yX X R) (hex:X.ex=[]) (hc:X.calm=true) (hm:X.mg x=some (.ref C)) (Z:gy X.K C f fld) (cE:PySem.W.typeIn X.K (.ref C)=some (.type "type"))
  (F:aB X.prog X.w X.K X.mg X.base aI k f fd ps (mx C fld)) (hr:aZ (k+1) X.A) (hb:Binds X.K fd ps []) (ha:PA X (e::es) t)
  (hg:Gl X x:=by rfl) (hs:(e::es).all noStar=true:=by rfl) (bM:(x == ("__debug__" : Str))=false:=by decide):PS X (.Raise (some (.Call (.Name x np) (e::es) [] bA)) none pos) (yD C fld R t):=by
 have hs':=hs;rw [TD,IR] at hs';intro pins s σ H D I h;rw [arm_exec_Raise];refine wT (Jaj ?_);show wpAny _ _ (raiseStmt X.env (some (do let v <- eval (.Call (.Name x np) (e::es) [] bA) X.env; standAt pos; pure v)) none) _ _ s;refine SW Z.be cE (I.ok.hd hc) (wT (Ty (SC (kE I hg hm ?_ bM)) (fun v s3 h3=>wT (Jaj (Cl h3))) fun _ _ z=>z));refine _c (h₀:=X.base) I.ok.mod.ie Z.kp (aC (ha bA pins s σ H _ I h) fun us s2 ⟨vs,H2,I2,r,v,ev,hR⟩=>⟨I2.bR,?_⟩) (fh hs'.1) (ib hs'.2);subst ev;obtain ⟨u,rfl,ru⟩:=vals1 r;obtain ⟨h2,g2,d2,t2,yj⟩:=s2;refine Xx Z I2.bR (by show 1<=sizeLine; decide) fun h3 ex mZ=>?_;have fJ:∀ b,(∃ o,h2.get? b=some o)->b≠ex:=fun b ⟨o,e'⟩ z=>by
  have:=mZ.new;rw [z,this] at e'; cases e'
 have nj:H2 ex=none:=by
  cases q:H2 ex with
  | none=>rfl
  | some o=>exact absurd rfl (fJ ex (I2.aA ex o q).there)
 have I3:Inv X pins σ H2 ⟨h3,g2,d2,t2,yj⟩:=I2.kept (t':=t2) mZ.keeps;have I4:Inv X pins σ (upd H2 ex (df ex C none)) ⟨h3,g2,d2,t2,yj⟩:=by
  refine I3.vD nj ?_ ?_ ?_ ?_ (HX (Ug mZ))
  ·cases q:X.s₀.heap.get? ex with
   | none=>rfl
   | some o =>
    exact absurd rfl (fJ ex (I2.base.there ex o q (by rw [hex]; simp)))
  ·obtain ⟨m,⟨o,_,_,ho,_⟩,_⟩:=I2.loc;exact Fa (fJ _ ⟨o,ho⟩)
  ·intro y c e';obtain ⟨w',o,ho,_⟩:=I2.cell y c e';exact fJ _ ⟨o,ho⟩
  ·intro p hp;exact fJ _ ⟨_,(I2.pin p hp).1⟩
 have hl:([Value.ref ex,u]++([]:List Value)).length=ps.length:=by
  have:=F.len [.ref ex,v] (upd H2 ex (df ex C none)) (fun _ _=>True) E0 ⟨aw,fun _ _=>True.intro⟩;exact this
 refine _r (_I (F.run (X.A.under (.builtin "type.__call__" ⟨[.ref C,u],[]⟩)) X.stack ⟨h3,g2,d2,t2,yj⟩ (upd H2 ex (df ex C none)) ⟨[.ref ex,u],[]⟩ [.ref ex,u] [.ref ex,v]
  (fun r H5=>r=.au/\∃ d,upd H2 ex (df ex C none) d=none/\H5=upd (upd (upd H2 ex (df ex C none)) ex (df ex C (some d))) d (.xd [(fld,v)])) E0 (hr.make C [u] []) (I4.oY.make C [u] []) (hb _ [.ref ex,u] I4.bR hl) (.cons rfl (.cons ru .nil))
  ⟨aw,fun d hd=>⟨rfl,d,hd,rfl⟩⟩) fun r s5 hq=>?_)
 cases r with
 | error e'=>exact False.elim hq
 | ok fl =>
  cases fl with
  | next=>exact False.elim hq
  | brk=>exact False.elim hq
  | cont=>exact False.elim hq
  | ret u5 =>
   obtain ⟨v5,H5,os5,bare5,m7,Fm,rv5,rfl,d,qW,rfl⟩:=hq;have lS:d≠ex:=fun z=>by rw [z,aw] at qW; cases qW
   have hd2:H2 d=none:=by rw [aj lS] at qW; exact qW
   have e5:upd (upd (upd H2 ex (df ex C none)) ex (df ex C (some d))) d (.xd [(fld,v)]) ex=some (df ex C (some d)):=by rw [aj (Fa lS),aw]
   have e6:∀ b,b≠ex->upd (upd (upd H2 ex (df ex C none)) ex (df ex C (some d))) d (.xd [(fld,v)]) b=upd H2 d (.xd [(fld,v)]) b:=fun b hb=>by
    by_cases q:b=d
    ·rw [q,aw,aw]
    ·rw [aj q,aj hb,aj hb,aj q]
   have e7:upd H2 d (.xd [(fld,v)]) ex=none:=by rw [aj (Fa lS)]; exact nj
   have e4:∀ b,b≠ex->upd H2 ex (df ex C none) b=H2 b:=fun b hb=>aj hb;generalize upd (upd (upd H2 ex (df ex C none)) ex (df ex C (some d))) d (.xd [(fld,v)])=H5 at m7 Fm e5 e6;obtain ⟨hN,_,_⟩:=(show bI X.prog X.w H5 s5.heap ex (df ex C (some d)) from Fm ex _ e5);have qS:∀ b o,H2 b=some o->b≠ex:=fun b o q=>fV q nj;have NS:Un (bJ X.stack) [] H2 (upd H2 d (.xd [(fld,v)])) h2 s5.heap:=by
    refine ⟨fun b o q n hb hx=>?_,fun b o q n hb hx=>?_,fun b o q n hx=>?_,fun b o q hx=>?_,fun b xs q=>?_,fun b o v' q=>?_,fun b ps' q=>?_⟩
    ·exact m7.keep b o (mZ.keeps b o q) (by rw [e4 b (fJ b ⟨o,q⟩)]; exact n) hb hx
    ·exact m7.slot b o (mZ.keeps b o q) (by rw [e4 b (fJ b ⟨o,q⟩)]; exact n) hb hx
    ·rw [<- e6 b (fJ b ⟨o,q⟩)];exact m7.free b o (mZ.keeps b o q) (by rw [e4 b (fJ b ⟨o,q⟩)]; exact n) hx
    ·exact m7.there b o (mZ.keeps b o q) hx
    ·rw [<- e6 b (qS b _ q)];exact m7.fY b xs (by rw [e4 b (qS b _ q)]; exact q)
    ·rw [<- e6 b (qS b _ q)];exact m7.fA b o v' (by rw [e4 b (qS b _ q)]; exact q)
    ·rw [<- e6 b (qS b _ q)];exact m7.fQ b ps' (by rw [e4 b (qS b _ q)]; exact q)
   have hokF:bU X.prog X.w (upd H2 d (.xd [(fld,v)])) s5.heap:=fun b o q=>by
    have hb:b≠ex:=fun z=>by rw [z,e7] at q; cases q
    have q5:H5 b=some o:=by rw [e6 b hb]; exact q
    have ne5:∀ c o',H5 c=some o'->o'≠df ex C (some d)->c≠ex:=fun c o' z1 z2 z=>by rw [z,e5] at z1; exact z2 (PP z1).symm
    refine (Fm b o q5).gJ (fun _ _ _ z=>z) (fun c z=>?_) fun c xs z=>?_
    ·rw [<- e6 c (ne5 c _ z (fun z'=>by cases z'))]; exact z
    ·rw [<- e6 c (ne5 c _ z (fun z'=>by cases z'))]; exact z
   obtain ⟨oe,he,yp,xG,vs',a0,yf,h1,h0⟩:=id hN;refine ⟨rv5,ex,oe,vs',rfl,he,yp,yf,h1,?_,hx.made pins σ H2 _ ⟨h2,g2,d2,t2,yj⟩ s5 ex C (some d) I2 os5 bare5 NS hokF e7 mZ.new hN (hR d hd2)⟩;exact I2.ok.mod.ie.keeps fun b o z=>NS.keep b o (I2.bs b o z).1 (I2.bs b o z).2 (fun hb=>by have:=(I2.stack.mem hb).1; rw [z] at this; cases this) (by simp)
section
variable {prog:Program} {w:World} {A:Around} {E:Value->Shared->Prop} {s:Shared} {K:PySem.W.Frag} {x C f d:Addr} {fld:Str}
open Builtin Builtin.ObjectAttr in
def Si {M:Model} {h:Heap} {mA:Str->Option Value} {u:Value} (Z:gy K C f fld) (X:K.In h) (I:cY x (.ref C) (some d) h) (hn:h.Ns1 d mA) (hu:mA fld=some u):PySem.W.Looks M h (find (.ref x) (.ref C) fld) (.value u):=by
 have L1:=SL (M:=M) X Z.na;obtain ⟨bm,N,nm,qn,bs,sn,sub,ab,col,dd,k0,k1,k2,k3,k5,hC,T,N5⟩:=vX X Z.q;have Lc:PySem.W.Looks M h (classData C) _:=(_C (part:=none) hC).andThen .now;obtain ⟨o,hx,hc,lM,vs,fb⟩:=I;obtain ⟨oc,od,Em,cZ⟩:=o;dsimp only at hc lM fb;subst hc lM fb;intro A' Q' E' s' k q;unfold find;refine wT (L1 _ _ _ _ k ?_);refine wT (Cl (wT (Cl ?_)));show wpAny M A' (ownThenClass (.ref x) fld none none) Q' E' s';unfold ownThenClass inOwnDict ownDict;refine wT (wT (wT (_B (k _ _ hx) ?_)));show wpAny M A' (instanceDict x false) _ E' s';unfold instanceDict;refine wT (_B (k _ _ hx) (wT (Lc _ _ _ _ k ?_)));refine Cl (a:=some d) ?_;show wpAny M A' (nsGet d fld) _ E' s';refine wpAny_nsGet (hn.ns.keeps k) ?_;rw [hu];exact wT (wpAny_rule (Cl q))
def Px {v:V} {u:Value} (r:RelV v u):handedOut u=pure u:=by
 cases v <;> first
  | (cases r; rfl)
  | (obtain ⟨t,rfl⟩:=r; rfl)
def Vw {b:Bool} {Q:Value->Shared->Prop} {mA:Str->Option Value} {u:Value} (Z:gy K C f fld) (ZK:jo K C) (X:K.In s.heap) (I:cY x (.ref C) (some d) s.heap) (hn:s.heap.Ns1 d mA) (hu:mA fld=some u) (hh:handedOut u=pure u)
  (h:Q u { s with toks:=s.toks+1 }):wpAny (model prog w) A (getAttr (.ref x) fld b) Q E s:=by
 obtain ⟨hp,g,dr,t,os⟩:=s;have L0:=nz (M:=model prog w) I;have L1:=SL (M:=model prog w) X ZK.qe;have L2:=SL (M:=model prog w) X ZK.rj;have L3:=Si (M:=model prog w) Z X I hn hu;unfold getAttr getAttrBy;refine wT (wpAny_mkText (Rs (wT (L0.at (wT (L1.at ?_))))));show wpAny _ _ (getAttrByItsOwn (.ref x) (.str fld t) (.ref C) (.builtin "BaseException.__getattribute__") true b) _ _ _;unfold getAttrByItsOwn;refine wT (L2.at ?_);refine wT (JaG (Rs ?_));have ec:callGetattribute (.ref x) (.str fld t) (.builtin "BaseException.__getattribute__") b=boundAndCalled (.builtin "BaseException.__getattribute__") (.ref x) (.str fld t):=by
  unfold callGetattribute;cases b <;> rfl
 rw [ec];unfold boundAndCalled;refine wT (wpAny_of_eq (_D.ga.bind (.ref x)) ?_);refine _r (_x _D.ga.plain PySem.F.entry_bexc_ga (JT ZK X I ?_));show wpAny _ _ (Builtin.«object.__getattribute__» ⟨[.ref x,.str fld t],[]⟩) _ _ _;unfold Builtin.«object.__getattribute__»;refine wT (Cl (wT (Cl (wT (L0.at (wT (L3.at ?_)))))));refine Cl ?_;show wpAny _ _ (handedOut u) _ _ _;rw [hh];exact Cl h
end
def Ar (C:Addr) (fld:Str) (ta:TE):TE:=fun σ H Q=>ta σ H fun x H1=>∃ ea d fs v,x=.ref ea/\H1 ea=some (la ea C (some d))/\H1 d=some (.xd fs)/\fs.lookup fld=some v/\Q v H1
def V8 {X:Cx} {C f:Addr} {fld:Str} {e:Expr} {ta:TE} {pos:Pos} (Z:gy X.K C f fld) (ZK:jo X.K C) (he:PE X e ta) (hb:attributeBase e fld X.env (eval e X.env)=eval e X.env):PE X (.Attribute e fld pos) (Ar C fld ta):=by
 intro pins s σ H Q I h;refine F9 hb (aC (he pins s σ H _ I h) fun u s1 ⟨x,H1,I1,rx,ea,d,fs,v,ex,h1,h2,hl,q⟩=>?_);subst ex;obtain rfl:u=Value.ref ea:=rx;obtain ⟨p,_,_⟩:=(show bI X.prog X.w H1 s1.heap ea (la ea C (some d)) from I1.aA ea _ h1);obtain ⟨mA,eK,hrel⟩:=(show bI X.prog X.w H1 s1.heap d (.xd fs) from I1.aA d _ h2);have hr:=hrel fld;rw [hl] at hr;cases hm:mA fld with
 | none=>rw [hm] at hr; exact hr.elim
 | some u' =>
  rw [hm] at hr;exact Vw Z ZK I1.bR p eK hm (Px hr) ⟨v,H1,I1.tok _,hr,q⟩
inductive FI (C:Addr) (f:Str) (x:V) (H:Hp) (Q:V->Prop):Prop
 | mk:∀ a dx fs v,x=.ref a->H a=some (.ins C dx fs)->fs.lookup f=some v->Q v->FI C f x H Q
inductive SI (C:Addr) (f:Str) (x y:V) (H:Hp) (R:Hp->Prop):Prop
 | mk:∀ a dx fs,x=.ref a->H a=some (.ins C dx fs)->fs.length < 1000->R (upd H a (.ins C dx (ay f y fs)))->SI C f x y H R
inductive AI (C:Addr) (f:Str) (x:V) (H:Hp) (Q:Addr->V->Prop):Prop
 | mk:∀ a dx fs v,x=.ref a->H a=some (.ins C dx fs)->fs.lookup f=some v->Q a v->AI C f x H Q
inductive BI (C:Addr) (f:Str) (a:Addr) (z:V) (H:Hp) (R:Hp->Prop):Prop
 | mk:∀ dx fs,H a=some (.ins C dx fs)->fs.length < 1000->R (upd H a (.ins C dx (ay f z fs)))->BI C f a z H R
def vo (C:Addr) (f:Str) (ta:TE):TE:=fun σ H Q=>ta σ H fun x H1=>FI C f x H1 fun v=>Q v H1
def rm (C:Addr) (f:Str) (ta tv:TE):TS:=fun D σ H=>tv σ H fun y H1=>ta σ H1 fun x H2=>SI C f x y H2 fun H3=>D.nx σ H3
def yI (C:Addr) (f:Str) (ta tv:TE) (rd:R2):TS:=fun D σ H=>ta σ H fun x H1=>AI C f x H1 fun a v=>tv σ H1 fun y H2=>rd v y H2 fun z H3=>BI C f a z H3 fun H4=>D.nx σ H4
def DH (C:Addr) (m:Str) (sp:Sp) (bh:List V) (R:St->XK) (ta:TE) (t:TA):TE:=fun σ H Q=>ta σ H fun x H1=>MI C m x H1 (t σ H1 fun vs H2=>sp (x::(vs++bh)) H2 Q (R σ))
section
variable {X:Cx} {k:Nat} {f C:Addr} {fd:FuncData} {ps:List Str} {sp:Sp} {bh:List V} {ds:List Value} {R:St->XK} {x m:Str} {p pos apos:Pos} {e o:Expr} {es:List Expr} {ta:TE} {t:TA}
def Uz {pl:Sem Bool} (he:PE X o ta) (c:cR X.K C) (hm:Meth X.K C m f) (F:aB X.prog X.w X.K X.mg X.base (bj X.prog X.w) k f fd ps sp) (hr:aZ k X.A) (hb:Binds X.K fd ps ds) (hd:Vals bh ds) (hx:gR X R) (ha:PA X (e::es) t) (hs:(e::es).all noStar=true:=by rfl)
  (ht:eval (.Call (.Attribute o m apos) (e::es) [] pos) X.env=(do
   let ov <- eval o X.env
   standAt apos.atName
   let (f,first) <- holding [ov] (getMethod ov m pl)
   callWith pos f first (backTo pos (starEach (e::es) X.env)) (backToKw pos (keywordEach [] X.env))):=by rfl):PE X (.Call (.Attribute o m apos) (e::es) [] pos) (DH C m sp bh R ta t):=by
 have hs':=hs;rw [TD,IR] at hs';intro pins s σ H Q I h;refine Jaa (pl:=pl) (aC (he pins s σ H _ I h) fun u s1 ⟨x,H1,I1,rx,a,dx,fs,ex,ea,l,q⟩=>?_) ht;subst ex;obtain rfl:u=Value.ref a:=rx;refine yS I1 ea c hm l (_c (first:=[.ref a]) (h₀:=X.base) I.ok.mod.ie hm.kp (aC (ha pos pins s1 σ H1 _ I1 q) fun us s2 ⟨vs,H2,I2,r,q2⟩=>⟨I2.bR,?_⟩) (fh hs'.1) (ib hs'.2));exact Lr (us:=.ref a::us) (vs:=.ref a::vs) F hr hb hd hx I2 (.cons rfl r) q2
end
section
variable {X:Cx} {C:Addr} {f:Str} {e o value:Expr} {ta tv:TE} {pos pos' tpos:Pos}
def Uv (c:cR X.K C) (n:bD X.K C f) (he:PE X e ta) (hb:attributeBase e f X.env (eval e X.env)=eval e X.env):PE X (.Attribute e f pos) (vo C f ta):=by
 intro pins s σ H Q I h;refine F9 hb (aC (he pins s σ H _ I h) fun u s1 ⟨x,H1,I1,rx,a,dx,fs,v,ex,ea,l,q⟩=>?_);subst ex;obtain rfl:u=Value.ref a:=rx;exact JW I1 ea c n l fun u' s2 I2 ru=>⟨v,H1,I2,ru,q⟩
def SS (c:cR X.K C) (n:bD X.K C f) (ha:PE X o ta) (hv:PE X value tv) (hs:swapsWith value (some (.Attribute o f pos')) pos.line X.env=pure false):PS X (.Assign [.Attribute o f pos'] value pos) (rm C f ta tv):=by
 intro pins s σ H D I h;refine plainObj_wpAny_Assign_Attribute (aC (hv pins s σ H _ I h) fun u s1 ⟨y,H1,I1,ry,q⟩=>aC (ha pins s1 σ H1 _ I1 q) fun ov s2 ⟨x,H2,I2,rx,a,dx,fs,ex,ea,l,q2⟩=>?_) hs;subst ex;obtain rfl:ov=Value.ref a:=rx;exact IQ I2 ea c n l ry fun s3 I3=>⟨σ,_,I3,q2⟩
def S5 {op:Operator} {rd:R2} (c:cR X.K C) (n:bD X.K C f) (ha:PE X o ta) (hv:PE X value tv) (E3:zk X op rd):PS X (.AugAssign (.Attribute o f tpos) op value pos) (yI C f ta tv rd):=by
 intro pins s σ H D I h;refine wpAny_AugAssign_AttributeAny (aC (ha pins s σ H _ I h) fun ov s1 ⟨x,H1,I1,rx,a,dx,fs,v,ex,ea,l,q⟩=>?_);subst ex;obtain rfl:ov=Value.ref a:=rx;refine JW I1 ea c n l fun u s2 I2 ru=>aC (hv pins s2 σ H1 _ I2 q) fun w3 s3 ⟨y,H2,I3,ry,q3⟩=>aC (E3 pins s3 σ H2 v y u w3 _ I3 ru ry q3) fun w4 s4 ⟨z,H3,I4,rz,dx',fs',ea',l',q4⟩=>?_;exact IQ I4 ea' c n l' rz fun s5 I5=>⟨σ,_,I5,q4⟩
end
def GB {X:Cx} {op:CmpOp} {a b:Expr} {t:TE} {pos:Pos} (h:PC X op a b t) (hm:behindInMarks op b=false:=by first | exact wm _ (by decide) (by decide) | rfl):PT X (.Compare a [op] [b] pos) (mK t):=by
 intro pins s σ H Q I hw;refine wpAny_isTrue_Compare1 (aC (h pins s σ H _ I hw) fun v s1 h1=>aC h1 fun u s2 h2=>aC h2 fun c s3 ⟨x,H1,I1,r1,q1⟩=>?_) hm;obtain ⟨k,rfl,q⟩:=zE q1;cases r1;exact XV ⟨H1,I1,q⟩
namespace Dv
section
variable {X:Cx} {a b o e i value:Expr} {ta tb td ty tv:TE} {es:List Expr} {t:TA} {pos pos' apos bA p tpos:Pos} {f C:Addr} {fn m x:Str} {k:Nat} {fd:FuncData} {ps:List Str} {sp:Sp} {bh:List V} {ds:List Value} {R:St->XK} {CX:dH} {E:XK} {tA:TT} {body:List Stmt} {tB:TS}
def fld (c:cR X.K C) (n:bD X.K C fn) (he:QE X e ta) (hb:attributeBase e fn X.env (eval e X.env)=eval e X.env:=by rfl):QE X (.Attribute e fn pos) (vo C fn ta):=⟨Uv c n he.h hb⟩
def bC (c:cR X.K C) (n:bD X.K C fn) (ha:QE X o ta) (hv:QE X value tv) (hs:swapsWith value (some (.Attribute o fn pos')) pos.line X.env=pure false:=by rfl):QS X (.Assign [.Attribute o fn pos'] value pos) (rm C fn ta tv):=⟨SS c n ha.h hv.h hs⟩
def lY {op:Operator} {rd:R2} (c:cR X.K C) (n:bD X.K C fn) (E3:zk X op rd) (ha:QE X o ta) (hv:QE X value tv):QS X (.AugAssign (.Attribute o fn tpos) op value pos) (yI C fn ta tv rd):=⟨S5 c n ha.h hv.h E3⟩
def Ly (Z:gy X.K C f fn) (ZK:jo X.K C) (he:QE X e ta) (hb:attributeBase e fn X.env (eval e X.env)=eval e X.env:=by rfl):QE X (.Attribute e fn pos) (Ar C fn ta):=⟨V8 Z ZK he.h hb⟩
def Hk (Z:gy X.K C f fn) (ha:QE X o ta) (hv:QE X value tv) (hs:swapsWith value (some (.Attribute o fn pos')) pos.line X.env=pure false:=by rfl):QS X (.Assign [.Attribute o fn pos'] value pos) (Dx C fn ta tv):=⟨Tw Z ha.h hv.h hs⟩
def bE {pl:Sem Bool} (c:cR X.K C) (hm:Meth X.K C m f) (F:aB X.prog X.w X.K X.mg X.base CX k f fd ps sp) (hr:aZ k X.A) (hb:Binds X.K fd ps ds) (hd:Vals bh ds) (hx:Passes CX X E) (ho:QE X o ta) (ha:QA X (e::es) t) (hs:(e::es).all noStar=true:=by rfl)
  (ht:eval (.Call (.Attribute o m apos) (e::es) [] pos) X.env=(do
   let ov <- eval o X.env
   standAt apos.atName
   let (f,first) <- holding [ov] (getMethod ov m pl)
   callWith pos f first (backTo pos (starEach (e::es) X.env)) (backToKw pos (keywordEach [] X.env))):=by rfl):QE X (.Call (.Attribute o m apos) (e::es) [] pos) (qZ C m sp bh E ta t):=by
 have hs':=hs;rw [TD,IR] at hs';exact ⟨ZF ho.h c hm F hr hb hd hx ha.h (fh hs'.1) (ib hs'.2) ht⟩
def sC {pl:Sem Bool} (c:cR X.K C) (hm:Meth X.K C m f) (F:aB X.prog X.w X.K X.mg X.base CX k f fd ps sp) (hr:aZ k X.A) (hb:Binds X.K fd ps ds) (hd:Vals bh ds) (hx:Passes CX X E) (ho:QE X o ta)
  (ht:eval (.Call (.Attribute o m apos) [] [] pos) X.env=(do
   let ov <- eval o X.env
   standAt apos.atName
   let (f,first) <- holding [ov] (getMethod ov m pl)
   callWith pos f first (backTo pos (starEach [] X.env)) (backToKw pos (keywordEach [] X.env))):=by rfl):QE X (.Call (.Attribute o m apos) [] [] pos) (qZ C m sp bh E ta mT):=⟨Vv ho.h c hm F hr hb hd hx ht⟩
def dI {pl:Sem Bool} (c:cR X.K C) (hm:Meth X.K C m f) (F:aB X.prog X.w X.K X.mg X.base (bj X.prog X.w) k f fd ps sp) (hr:aZ k X.A) (hb:Binds X.K fd ps ds) (hd:Vals bh ds) (hx:gR X R) (ho:QE X o ta) (ha:QA X (e::es) t) (hs:(e::es).all noStar=true:=by rfl)
  (ht:eval (.Call (.Attribute o m apos) (e::es) [] pos) X.env=(do
   let ov <- eval o X.env
   standAt apos.atName
   let (f,first) <- holding [ov] (getMethod ov m pl)
   callWith pos f first (backTo pos (starEach (e::es) X.env)) (backToKw pos (keywordEach [] X.env))):=by rfl):QE X (.Call (.Attribute o m apos) (e::es) [] pos) (DH C m sp bh R ta t):=⟨Uz ho.h c hm F hr hb hd hx ha.h hs ht⟩
def make (M:Mk X.K C f) (F:aB X.prog X.w X.K X.mg X.base CX k f fd ps sp) (hr:aZ (k+1) X.A) (hm:X.mg x=some (.ref C)) (hb:Binds X.K fd ps ds) (hd:Vals bh ds) (hx:Passes CX X E) (ha:QA X (e::es) t) (hg:Gl X x:=by rfl) (hs:(e::es).all noStar=true:=by rfl) (bM:(x == ("__debug__" : Str))=false:=by decide) :
  QE X (.Call (.Name x p) (e::es) [] pos) (uj C sp bh E t):=by
 have hs':=hs;rw [TD,IR] at hs';exact ⟨P2 M F hr hg hm hb hd hx ha.h bM (fh hs'.1) (ib hs'.2)⟩
def U3 (M:Mk X.K C f) (F:aB X.prog X.w X.K X.mg X.base CX k f fd ps sp) (hr:aZ (k+1) X.A) (hm:X.mg x=some (.ref C)) (hb:Binds X.K fd ps ds) (hd:Vals bh ds) (hx:Passes CX X E) (hg:Gl X x:=by rfl) (bM:(x == ("__debug__" : Str))=false:=by decide) :
  QE X (.Call (.Name x p) [] [] pos) (uj C sp bh E mT):=⟨Sg M F hr hg hm hb hd hx bM⟩
def wz (hx:yX X R) (hex:X.ex=[]) (hc:X.calm=true) (hm:X.mg x=some (.ref C)) (Z:gy X.K C f fn) (cE:PySem.W.typeIn X.K (.ref C)=some (.type "type")) (F:aB X.prog X.w X.K X.mg X.base aI k f fd ps (mx C fn)) (hr:aZ (k+1) X.A) (hb:Binds X.K fd ps []) (ha:QA X (e::es) t)
  (hg:Gl X x:=by rfl) (hs:(e::es).all noStar=true:=by rfl) (bM:(x == ("__debug__" : Str))=false:=by decide):QS X (.Raise (some (.Call (.Name x p) (e::es) [] bA)) none pos) (yD C fn R t):=⟨Yq hx hex hc hm Z cE F hr hb ha.h hg hs bM⟩
def xt (hu:X.A.units+1 < cLine) (ho:QE X o td) (hi:QE X i ty) (hs:Ac i:=by intro _ _; rfl):QE X (.Subscript o i pos) (yK td ty):=⟨abe hu ho.h hi.h hs⟩
def Ca (hu:X.A.units+1 < cLine) (hi:QE X i ty) (ho:QE X o td) (hm:behindInMarks .In o=false:=by rfl):QT X (.Compare i [.In] [o] pos) (mK (yZ ty td)):=⟨GB (Tv hu hi.h ho.h) hm⟩
def aah (hu:X.A.units+1 < cLine) (hi:QE X i ty) (ho:QE X o td) (hm:behindInMarks .NotIn o=false:=by rfl):QT X (.Compare i [.NotIn] [o] pos) (mK (zp ty td)):=⟨GB (Zf hu hi.h ho.h) hm⟩
def ui (hu:X.A.units+1 < cLine) (ho:QE X o td) (hi:QE X i ty) (hv:QE X value tv) (hs:swapsWith value (some (.Subscript o i pos')) pos.line X.env=pure false:=by rfl):QS X (.Assign [.Subscript o i pos'] value pos) (zA td ty tv):=⟨UT hu ho.h hi.h hv.h hs⟩
def aav:QE X (.Dict [] [] pos) DT:=⟨Qh⟩
def ZG (hu:X.A.units+1 < cLine) (ho:QE X o td) (he:QE X e ty) (m1:M1 X o "get" apos e bA:=by exact ⟨rfl,rfl,rfl,rfl⟩):QE X (.Call (.Attribute o "get" apos) [e] [] bA) (Am td ty):=⟨OR hu ho.h he.h m1⟩
def sG (hp:PassesOwn (model X.prog X.w) X.A X.env X.xe) (hc:QT X a tA) (hb:QB X body tB):QS X (.While a body [] pos) (GY tA tB):=⟨aaX hp hc.h hb.h⟩
def Ku (hc:QT X o tA) (ha:QE X a ta) (hb:QE X b tb):QE X (.IfExp o a b pos) (Ce tA ta tb):=⟨Vd hc.h ha.h hb.h⟩
end
end Dv
def BB {P:Program} {w:World} {K:PySem.W.Frag} {mg:Str->Option Value} {base:Heap} {N:List Str} {qual:Str} {scope:Scope} {f:Addr} {cd:Value} {A:Around} {outer:List Env} {s₀:Shared} {H₀:Hp} {E:XK} {CX:dH} :
  PassesOwn (model P w) (bT CX P w K mg base N qual scope f cd A outer s₀ H₀ E).A (bT CX P w K mg base N qual scope f cd A outer s₀ H₀ E).env (bT CX P w K mg base N qual scope f cd A outer s₀ H₀ E).xe:=PassesOwn.leaving
def UL {K:PySem.W.Frag} {M:Model} {A:Around} {E:Value->Shared->Prop} {s:Shared} {e C Cc:Addr} {od:Option Addr} {Q:Bool->Shared->Prop} {b:Bool} (X:K.In s.heap) (hd:cY e (.ref C) od s.heap) (h1:PySem.W.instIn K (.ref Cc) (.type "tuple")=some false)
  (h2:PySem.W.mroIn K Cc (.type "BaseException")=some true) (h3:PySem.W.subIn K (.ref C) (.ref Cc)=some b) (hq:Q b s):wpAny M A (excMatches (.ref e) (.ref Cc)) Q E s:=by
 obtain ⟨o,he,hc,_⟩:=hd;have L1:=PySem.W.looks_instIn (M:=M) X h1;have L2:=_A (M:=M) X h2;have L3:=PySem.W.looks_subIn (M:=M) X h3;have L4:PySem.W.Looks M s.heap (isType (.ref Cc)) true:=by
  obtain ⟨c',d',cd',sl',ho⟩:=BZ h2;intro A' Q' E' s' k q;unfold isType loadHead;exact wT (_B (k _ _ (X _ _ ho)) (Cl q))
 have L5:PySem.W.Looks M s.heap (typeOf (.ref e)) (.ref C):=hc ▸ (_C he).andThen .now;have L6:PySem.W.Looks M s.heap (isExcClass (.ref Cc)) true:=L4.andThen L2;obtain ⟨hh,g,d,t,os⟩:=s;unfold excMatches;refine wT (L1.at ?_);simp only [P3,_i,pure_bind];simp only [List.forIn_cons,List.forIn_nil,bind_assoc,pure_bind];refine wT (L6.at ?_);simp only [_7,P3,_i,bind_assoc,pure_bind];refine wT (L5.at (wT (L3.at ?_)));cases b with
 | true =>
  simp only [if_true,pure_bind];exact Cl hq
 | false =>
  simp only [P3,_i,pure_bind];exact Cl hq
structure DN (X:Cx) (pins:List (Addr×Obj)) (σ:St) (H:Hp) (ea C:Addr) (od:Option Addr) (s:Shared):Prop where
 fl:∃ B a0,Heap.FlyingW B (X.env::X.outer) ea (.ref C) a0 s.heap/\∀ h4:Heap,B.StaysIn h4->s.heap.UpToSlots h4->Inv X pins σ H { s with heap:=h4 }
 hd:cY ea (.ref C) od s.heap
 free:H ea=none
 n0:X.s₀.heap.get? ea=none
 nL:ea≠X.env.locals
 nC:∀ x c,X.env.cells.lookup x=some c->c≠ea
 nP:∀ p∈X.pn++pins,p.1≠ea
def DN.inv {X:Cx} {pins:List (Addr×Obj)} {σ:St} {H:Hp} {ea C:Addr} {od:Option Addr} {s:Shared} (L:DN X pins σ H ea C od s):Inv X pins σ H s:=by
 obtain ⟨B,a0,fl,k⟩:=L.fl;exact k s.heap fl.1 (Heap.UpToSlots.refl _)
abbrev jD:=Ends->St->Addr->Option Addr->Hp->Prop
def PH (X:Cx) (hs:List ExceptHandler) (t:jD):Prop:=∀ (pins:List (Addr×Obj)) (s:Shared) (σ:St) (H:Hp) (D:Ends) (ea C:Addr) (od:Option Addr),DN X pins σ H ea C od s->t D σ C od H->wpAny (model X.prog X.w) X.A (handleBy (.ref ea) X.env hs) (SP X pins D) X.xe s
def KN (K:PySem.W.Frag) (Cc:Addr) (i:Nat) (th:TS) (tr:jD):jD:=fun D σ C od H=>∃ b,PySem.W.subIn K (.ref C) (.ref Cc)=some b/\if b=true then ∀ ea,H ea=none->th (D.CQ i) (σ.set i (some (.ref ea))) (upd H ea (la ea C od)) else tr D σ C od H
def Hg:jD:=fun _ _ _ _ _=>False
def aaP {X:Cx}:PH X [] Hg:=fun _ _ _ _ _ _ _ _ _ h=>h.elim
section
variable {X:Cx} {K:PySem.W.Frag} {Cc:Addr} {n x:Str} {uP:List Stmt} {b₀:Stmt} {np hpos pos:Pos} {th:TS} {tr:jD} {rest:List ExceptHandler}
def PF (i:Nat) (hK:X.K=K) (hN:X.N.Nodup) (hm:X.mg x=some (.ref Cc)) (c1:PySem.W.instIn X.K (.ref Cc) (.type "tuple")=some false) (c2:PySem.W.mroIn X.K Cc (.type "BaseException")=some true) (hs:∀ v,cX (X.kI v) (b₀::uP) th) (hr:PH X rest tr)
  (hg:Gl X x:=by rfl) (hi:X.N[i]?=some n:=by rfl) (hn:X.env.scope.names.lookup n=some .local:=by rfl) (bM:(x == ("__debug__" : Str))=false:=by decide):PH X (.ExceptHandler (some (.Name x np)) (some n) (b₀::uP) hpos::rest) (KN K Cc i th tr):=by
 subst hK;intro pins s σ H D ea C od L h;obtain ⟨b,hsub,h⟩:=h;have I:=L.inv;refine wpAny_handleBy_cons (codeAny_handlers_test (kE (I.kI (.ref ea)) hg hm (UL I.bR L.hd c1 c2 hsub ?_) bM)) (by intro q; cases q);cases b with
 | false=>exact hr pins s σ H D ea C od L h
 | true =>
  have aF:=h;rw [IN rfl] at aF;obtain ⟨B,a0,fl,step⟩:=L.fl;refine codeAny_handlers_suite_as (aC ((Kp.setFlight (.ref ea) none).any L.hd (lands_againW (Q:=fun _ s4=>∃ h4,s4={ s with heap:=h4 }/\Heap.FlyingW B (X.env::X.outer) ea (.ref C) a0 h4/\s.heap.UpToSlots h4) fl fun h4 x1 x2=>⟨h4,rfl,x1,x2⟩)) fun _ s4 ⟨⟨h4,e4,fl4,up4⟩,qW⟩=>?_);subst e4;have I5:Inv X pins σ (upd H ea (la ea C od)) { s with heap:=h4 }:=(step h4 fl4.1 up4).vD L.free L.n0 L.nL L.nC L.nP (RW qW);refine Cm (X:=X.kI (.ref ea)) (v:=.ref ea) (I5.kI (.ref ea)) hN hi (Or.inl hn) rfl (fun s6 I6=>?_) (Or.inr hn);refine Ty (hs (.ref ea) pins s6 _ _ (D.CQ i) I6 (aF ea L.free)) (fun f s7 z=>?_) fun _ _ z=>False.elim z;have Fc:(X.env.scope.kind == .class || (X.env.scope.kind == .module && X.env.locals != X.env.globals))=false:=by rw [I.ok.kind]; rfl
  have fin:∀ {σ7:St} {H7:Hp} (I7:Inv (X.kI (.ref ea)) pins σ7 H7 s7) (Q:Unit->Shared->Prop),(∀ s8,Inv X pins (σ7.set i none) H7 s8->Q () s8)->∀ E:Value->Shared->Prop,wpAny (model X.prog X.w) X.A (do bindName X.env n .none; unbindBehindTheSuite X.env n hpos) Q E s7:=fun {σ7 H7} I7 Q k E=>by
   have J:=I7.Wu I.ok;obtain ⟨m,hn7,hl7⟩:=id J.loc;exact wpAny_nameGoes_keeps hn hn7 Fc fun h8 v E8 sb8=>k _ (J.S6 hN hi hl7 E8 sb8)
  cases f with
  | next=>obtain ⟨σ7,H7,I7,q⟩:=z; exact fin I7 _ (fun s8 I8=>⟨_,H7,I8,q⟩) _
  | ret u=>obtain ⟨v,σ7,H7,I7,r,q⟩:=z; exact fin I7 _ (fun s8 I8=>⟨v,_,H7,I8,r,q⟩) _
  | brk=>obtain ⟨σ7,H7,I7,q⟩:=z; exact fin I7 _ (fun s8 I8=>⟨_,H7,I8,q⟩) _
  | cont=>obtain ⟨σ7,H7,I7,q⟩:=z; exact fin I7 _ (fun s8 I8=>⟨_,H7,I8,q⟩) _
def Ks (tb:(St->XK)->TS) (t:jD):TS:=fun D σ H=>∃ R:St->XK,tb R D σ H/\∀ σ' C od H',R σ' (.ref C) od H'->t D σ' C od H'
def WS {body:List Stmt} {h₀:ExceptHandler} {tb:(St->XK)->TS} {t:jD} (O:Own X) (hb:∀ pins R,cX (X.oi pins R) body (tb R)) (hh:PH X (h₀::rest) t):PS X (.Try body (h₀::rest) [] [] pos) (Ks tb t):=by
 intro pins s σ H D I h;obtain ⟨R,hb',hR⟩:=h;refine wpAny_Try_except (Ty (hb pins R [] s σ H D (I.oi R) hb') (fun f s1 z=>?_) fun e s1 z=>?_)
 ·cases f with
  | next=>obtain ⟨σ',H',I',q⟩:=z; exact _8 ⟨σ',H',I'.sM,q⟩
  | ret u=>obtain ⟨v,σ',H',I',r,q⟩:=z; exact ⟨v,σ',H',I'.sM,r,q⟩
  | brk=>obtain ⟨σ',H',I',q⟩:=z; exact ⟨σ',H',I'.sM,q⟩
  | cont=>obtain ⟨σ',H',I',q⟩:=z; exact ⟨σ',H',I'.sM,q⟩
 ·obtain ⟨σ',H0,H',s0,ea,C,od,I0,rfl,F,Fq⟩:=z;obtain ⟨B,a0,fl,gF⟩:=F.Ia;have hA:X.A.frames=some (X.env::X.outer):=by rw [<- O.dj]; exact I.ok.frames
  rw [O.dj] at fl;refine aC ((Kp.noteFrame (.ref ea) X.env).any F.hd (wpAny_looks_onW (Q:=fun _ s2=>∃ h2,s2={ s1 with heap:=h2 }/\Heap.HeldW B (X.env::X.outer) ea (.ref C) a0 X.env.locals h2/\s1.heap.UpToSlots h2) hA O.frame fl fun h2 x1 x2=>⟨h2,rfl,x1,x2⟩)) fun _ s2 ⟨⟨h2,e2,held,up2⟩,hd2⟩=>?_;subst e2;refine aC ((Kp.setFlight (.ref ea) none).any (s:={ s1 with heap:=h2 }) hd2 (wpAny_landsW (s:={ s1 with heap:=h2 }) (Q:=fun _ s3=>∃ h3,s3={ s1 with heap:=h3 }/\Heap.FlyingW B (X.env::X.outer) ea (.ref C) a0 h3/\h2.UpToSlots h3) held fun h3 x1 x2=>⟨h3,rfl,x1,x2⟩)) fun _ s3 ⟨⟨h3,e3,fl3,up3⟩,hd3⟩=>?_;subst e3;have fJ:∀ b,(∃ o,s0.heap.get? b=some o)->b≠ea:=fun b ⟨o,e⟩ z=>by rw [z,F.new] at e; cases e
  refine hh pins { s1 with heap:=h3 } σ' H' D ea C od ⟨⟨B,a0,fl3,fun h4 st up=>?_⟩,hd3,F.free,?_,?_,fun y c e=>?_,fun p hp=>?_⟩ (hR σ' C od H' Fq)
  ·obtain ⟨u,aA⟩:=JV F.un F.aA I0.Kn gF st ((up2.trans up3).trans up);exact I0.Lj (s':={ s1 with heap:=h4 }) (ch:=[]) F.os u aA F.bare (fun b z=>absurd z (by simp))
  ·cases q:X.s₀.heap.get? ea with
   | none=>rfl
   | some u=>exact absurd rfl (fJ ea (I0.base.there ea u q (by rw [O.ex]; simp)))
  ·obtain ⟨m,⟨o,_,_,ho,_⟩,_⟩:=I0.loc;exact Fa (fJ _ ⟨o,ho⟩)
  ·obtain ⟨w',o,ho,_⟩:=I0.cell y c e;exact fJ _ ⟨o,ho⟩
  ·exact fJ _ ⟨_,(I0.pin p hp).1⟩
end
structure QH (X:Cx) (hs:List ExceptHandler) (t:jD):Prop where
 h:PH X hs t
namespace Dv
section
variable {X:Cx} {K:PySem.W.Frag} {Cc:Addr} {n x:Str} {uP:List Stmt} {b₀:Stmt} {np hpos pos:Pos} {th:TS} {tr:jD} {rest:List ExceptHandler}
def Xr:QH X [] Hg:=⟨aaP⟩
def DQ (i:Nat) (hK:X.K=K) (hN:X.N.Nodup) (hm:X.mg x=some (.ref Cc)) (c1:PySem.W.instIn X.K (.ref Cc) (.type "tuple")=some false) (c2:PySem.W.mroIn X.K Cc (.type "BaseException")=some true) (hs:∀ v,QB (X.kI v) (b₀::uP) th) (hr:QH X rest tr)
  (hg:Gl X x:=by rfl) (hi:X.N[i]?=some n:=by rfl) (hn:X.env.scope.names.lookup n=some .local:=by rfl) (bM:(x == ("__debug__" : Str))=false:=by decide):QH X (.ExceptHandler (some (.Name x np)) (some n) (b₀::uP) hpos::rest) (KN K Cc i th tr) :=
 ⟨PF i hK hN hm c1 c2 (fun v=>(hs v).h) hr.h hg hi hn bM⟩
def aaj {body:List Stmt} {h₀:ExceptHandler} {tb:(St->XK)->TS} {t:jD} (O:Own X) (hb:∀ pins R,QB (X.oi pins R) body (tb R)) (hh:QH X (h₀::rest) t):QS X (.Try body (h₀::rest) [] [] pos) (Ks tb t):=⟨WS O (fun pins R=>(hb pins R).h) hh.h⟩
end
end Dv
def eJ (a b:Str):Bool:=!ltCps b.cps.toList a.cps.toList
def e9 (ts:List Str):List Str:=ts.mergeSort eJ
def vM {a b:Str}:eJ a b=true ↔ ¬ b.cps.toList < a.cps.toList:=by
 unfold eJ; rw [ltCps_eq]; simp
def JJ (a b c:Str) (h1:eJ a b=true) (h2:eJ b c=true):eJ a c=true:=by
 rw [vM] at *;exact Jal.mpr (List.le_trans (Jal.mp h1) (Jal.mp h2))
def Vh (a b:Str):(eJ a b || eJ b a)=true:=by
 cases h:eJ a b with
 | true=>rfl
 | false =>
  have:¬ eJ a b=true:=by rw [h]; simp
  rw [vM,Classical.not_not] at this;simp only [Bool.false_or,vM];exact Jal.mpr (List.le_of_lt this)
def OT {a b:Str} (h1:eJ a b=true) (h2:eJ b a=true):a=b:=by
 rw [vM] at *;have:=List.le_antisymm (Jal.mp h1) (Jal.mp h2);obtain ⟨x⟩:=a; obtain ⟨y⟩:=b;exact UF Str.mk (Array.ext' this)
def GK (ts:List Str):(e9 ts).Perm ts:=List.mergeSort_perm ts eJ
def QN (ts:List Str):(e9 ts).Pairwise (fun a b=>eJ a b=true):=List.pairwise_mergeSort JJ Vh ts
def GX (ts:List Str):(e9 ts).length=ts.length:=(GK ts).length_eq
def J3:∀ (p:Str) (l:List Str),risingS p l=true->(p::l).Pairwise (fun a b=>eJ a b=true)
 | p,[],_=>List.pairwise_singleton _ _
 | p,x::r,h=>by
  have h':eJ p x=true/\risingS x r=true:=by simpa [risingS,eJ] using h
  have ih:=J3 x r h'.2;refine List.pairwise_cons.mpr ⟨fun y hy=>?_,ih⟩;rcases AT.mp hy with e | hy
  ·exact e ▸ h'.1
  ·exact JJ p x y h'.1 (List.rel_of_pairwise_cons ih hy)
def HV:∀ (l:List Str),sortedS l=true->l.Pairwise (fun a b=>eJ a b=true)
 | [],_=>.nil
 | x::r,h=>J3 x r h
def Ld {us ts:List Str} (hp:us.Perm ts) (hs:us.Pairwise (fun a b=>eJ a b=true)):us=e9 ts :=
 List.Perm.eq_of_pairwise (fun a b _ _ h1 h2=>OT h1 h2) hs (QN ts) (hp.trans (GK ts).symm)
def Iw:∀ {ts:List Str} {us:List Value},Vals (ts.map V.str) us->StrsAre us ts
 | [],_,.nil=>.nil
 | x::r,_,.cons h t=>by obtain ⟨t',rfl⟩:=h; exact .cons x t' (Iw t)
def yA:∀ {us:List Value} {ts:List Str},StrsAre us ts->Vals (ts.map V.str) us
 | _,_,.nil=>.nil
 | _,_,.cons y t h=>.cons ⟨t,rfl⟩ (yA h)
section
variable {X:Cx}
def JQ (K:PySem.W.Frag):List V->Hp->VK->Prop:=fun xs H Q=>∃ p ts,xs=[.ref p]/\aD K H p (ts.map V.str)/\ts.length < 64/\∀ l,H l=none->Q (.ref l) (upd H l (.lst ((e9 ts).map V.str)))
def U7:cA X (.builtin "sorted") (JQ X.K):=by
 intro pins s σ H xs us Q I r h;obtain ⟨p,ts,rfl,hq,D4,q⟩:=h;obtain ⟨u,rfl,rx⟩:=vals1 r;cases rx;obtain ⟨ao,r',pl,hz⟩:=I.list hq;have hlen:=r'.length;refine sorted_strs pl.isList (Iw r') (by rw [<- hlen]; simpa using D4) fun out ss' a1 a2 a3=>?_;obtain ⟨e,he⟩:=sortedAll_at s.heap ao out;have e1:ss'=e9 ts:=Ld a2 (HV _ a3);subst e1;refine ⟨.ref (s.heap.objs.size+1),_,I.laid (t':=s.toks) (fun _ _=>sortedAll_old) (Jak _) (show bI X.prog X.w _ _ _ (.lst ((e9 ts).map V.str)) from ⟨?_,out.toList,e,yA a1,?_⟩),rfl,q _ (I.aA.fresh (Jak _))⟩
 ·rw [At,GX]; simpa using hz
 ·simpa [seqObj] using he
def Jp:List V->Hp->VK->Prop:=fun xs H Q=>∃ p kvs,∃ ts:List Str,xs=[.ref p]/\H p=some (.dK kvs)/\kvs.map (·.1)=ts.map Sum.inr/\ts.length < 64/\∀ l,H l=none->Q (.ref l) (upd H l (.lst ((e9 ts).map V.str)))
def VN {x:Str} {v:Value} (h:nZ (.inr x) v=true):∃ t,v=Value.str x t:=Value.isStrOf_shape h
def U5 (hc:X.calm=true):cA X (.builtin "sorted") Jp:=by
 intro pins s σ H xs us Q I r h;obtain ⟨p,kvs,ts,rfl,hq,hk,D4,q⟩:=h;obtain ⟨u,rfl,rx⟩:=vals1 r;cases rx;obtain ⟨hz,hS,vs,rv,m⟩:kvs.length<=sizeLine/\(p == sysModules)=false/\∃ vs,KV kvs vs/\s.heap.DictOf (eI X.prog X.w) p vs:=I.aA p _ hq;obtain ⟨ep,uT⟩:=m.dictAt;have jH:kvs.length=ts.length:=by simpa using UF List.length hk
 have Nr:vs.length=ts.length:=by rw [<- jH]; simpa using (UF List.length rv.keys).symm
 refine _4 kind_sorted plain_sorted entry_sorted (args_sorted1 _) ?_;unfold Builtin.«sorted»;refine wT (m:=checkCount "sorted" 1 1 _) (Cl ?_);refine wT (Jav (A:=X.A.in1) (PySem.W.kdl_dict (knd:=eI X.prog X.w) (kvs:=vs) (ep:=ep) hS) (I.ok.hd hc) uT (by rw [Nr,<- jH]; exact hz) fun h' tk acc hk' fe=>?_);have hl:acc.toList.length=ts.length:=by rw [W1,<- Nr]; exact fe.1
 have hS':StrsAre acc.toList ts:=by
  have key:∀ (l:List Value) (us:List Str),l.length=us.length->(∀ (j:Nat) (v:Value) (x:Str),l[j]?=some v->us[j]?=some x->∃ t,v=Value.str x t)->StrsAre l us:=by
   intro l
   induction l with
   | nil=>intro us e _; cases us with | nil=>exact .nil | cons=>cases e
   | cons v l ih =>
    intro us e hh;cases us with
    | nil=>cases e
    | cons x us =>
     obtain ⟨t,rfl⟩:=hh 0 v x rfl rfl;exact .cons x t (ih us (by simpa using e) fun j v x h1 h2=>hh (j+1) v x h1 h2)
  refine key _ _ hl fun j v x h1 h2=>?_;obtain ⟨k,y,hx,hk1⟩:=fe.2 j v (by rw [<- ZB]; exact h1);have e1:(vs.map (·.1))[j]?=some k:=by rw [Op,hx]; rfl
  rw [<- rv.keys,hk,Op,h2] at e1;cases e1;exact VN hk1
 refine wT (JaH ?_ (by rw [hl,<- jH]; exact hz));have gS:(h'.push (seqObj "list" acc.toList.toArray 0)).get? h'.objs.size=some (seqObj "list" acc.toList.toArray 0):=FM _ rfl;refine wT (Rs (_2 slot_list_sort ⟨_,gS,rfl⟩ entry_list_sort (list_sort_treeK strKind_oneLt gS hS'.keysOf (fun v₁ v₂ rest e=>keyKind_strs (by rw [<- e]; exact hS')) (by rw [hl]; exact D4) fun st' a1 a2=>⟨_,rfl,?_⟩) (args_list_sort _)));refine Cl ⟨_,rfl,?_⟩;obtain ⟨ss',b1,b2,b3⟩:=sorted_out_str hS' a1 a2;have e1:ss'=e9 ts:=Ld b2 (HV _ b3);subst e1;obtain ⟨e,he⟩:=sortedHeap_at (out:=(arrOf st').map (·.2)) gS;have I1:Inv X pins σ H { s with heap:=h',toks:=tk }:=I.kept (t':=tk) hk';refine ⟨.ref h'.objs.size,_,I1.laid (t':=tk) (fun b o z=>?_) (Ev _) (show bI X.prog X.w _ _ _ (.lst ((e9 ts).map V.str)) from ⟨?_,_,e,yA b1,?_⟩),rfl,q _ (I1.aA.fresh (Ev _))⟩
 ·have hb:b < h'.objs.size:=Fk z;rw [sortedHeap_old (GE hb) (by have:=_p h' (seqObj "list" acc.toList.toArray 0); rw [this]; exact Ja8 hb)];exact xz _ z
 ·rw [At,GX,<- jH]; exact hz
 ·rw [Jam]; exact he
end
def lZ (P:Program) (w:World) (K:PySem.W.Frag) (mg:Str->Option Value) (base:Heap) (N:List Str) (qual:Str) (scope:Scope) (f:Addr) (cd:Value) (cl:List (Str×Addr)) (A:Around) (outer:List Env) (s:Shared) (H:Hp) (E:XK):Cx where
 prog:=P
 w:=w
 K:=K
 mg:=mg
 base:=base
 A:=A.deeper (PySem.W.envX qual scope s.heap.objs.size f cd cl)
 N:=N
 s₀:=s
 H₀:=H
 env:=PySem.W.envX qual scope s.heap.objs.size f cd cl
 outer:=outer
 stack:=PySem.W.envX qual scope s.heap.objs.size f cd cl::outer
 ex:=[]
 calm:=true
 fn:=fun _=>false
 pn:=[]
 xe:=fun e s'=>wpAny (model P w) (A.deeper (PySem.W.envX qual scope s.heap.objs.size f cd cl)) (leaving (PySem.W.envX qual scope s.heap.objs.size f cd cl) e) (fun _ s''=>bj P w outer H s E e s'') (fun e' s''=>bj P w outer H s E e' s'') s'
def n9 (c:Addr) (q:Str):HO:=.ext fun h=>h.CodeRec (.ref c) q
structure gp (N:List Str) (scope:Scope) (cl:List (Str×Addr)):Prop where
 kind:scope.kind=.function
 co:scope.isCoroutine=false
 gen:scope.isGenerator=false
 sO:∀ x∈scope.names,x.2≠.cell
 free:∀ x∈N,scope.names.lookup x=some .free
 has:∀ x,scope.names.lookup x=some .free->∃ c,cl.lookup x=some c
 inj:∀ x y c,cl.lookup x=some c->cl.lookup y=some c->x=y
def lX (P:Program) (w:World) (K:PySem.W.Frag) (mg:Str->Option Value) (base:Heap) (k:Nat) (s1:Shared) (B:Addr->Prop) (f:Addr) (cb:Hp->VK->XK->Prop):Prop :=
 ∀ (A:Around) (outer:List Env) (s:Shared) (H:Hp) (Q:VK) (E:XK),aZ k A->kP P w K mg base A outer s H ->
  (∀ b o,B b->s1.heap.get? b=some o->s.heap.get? b=some o/\H b=none)->cb H Q E ->
  codeAny (model P w) A (.call (.ref f) ⟨[],[]⟩) (CR (bj P w) outer P w H s Q E) s
def RP {P:Program} {w:World} {K:PySem.W.Frag} {mg:Str->Option Value} {base:Heap} {k:Nat} {s1:Shared} {B:Addr->Prop} {f:Addr} {cb:Hp->VK->XK->Prop} {N:List Str} {vs:List V}
  {name qual:Str} {params:Arguments} {body:Expr} {scope:Scope} {cl:List (Str×Addr)} {pm ag ct:Value} {o:Obj} (S:gp N scope cl)
  (ho:s1.heap.get? f=some o) (yu:o.data=.func (PySem.W.kla_fn name qual params body scope cl pm ag ct)) (bF:∀ H Q E,cb H Q E->∃ c,ag=.ref c/\H c=some (n9 c qual)) (gj:B f)
  (hB:∀ x c,cl.lookup x=some c->B c) (hlen:vs.length=N.length)
  (iZ:∀ x c,cl.lookup x=some c->∃ v,s1.heap.IsCell c v)
  (hcells:∀ (i:Nat) (x:Str) (v:V),N[i]?=some x->vs[i]?=some v->∃ c u,cl.lookup x=some c/\RelV v u/\s1.heap.IsCell c (some u))
  (oK:bindArgs (PySem.W.kla_fn name qual params body scope cl pm ag ct) ⟨[],[]⟩=pure [])
  (iW:∀ (A:Around) (outer:List Env) (s:Shared) (H:Hp) (Q:VK) (E:XK),aZ k (A.deeper (PySem.W.envX qual scope s.heap.objs.size f ag cl))->cb H Q E ->
   ∃ t,PE (lZ P w K mg base N qual scope f ag cl A outer s H E) body t/\t (vs.map some) H Q) :
  lX P w K mg base (k+1) s1 B f cb:=by
 intro A outer s H Q E hr e0 hk hw;obtain ⟨c,rfl,Ep⟩:=bF H Q E hw;have xW:s.heap.CodeRec (.ref c) qual:=(e0.aA c _ Ep).1;have lim:s.heap.NoLimit:=e0.mod.nolimit.keeps fun b o e=>(e0.bs b o e).1;refine PySem.W.kla_callFunE (fd:=PySem.W.kla_fn name qual params body scope cl pm (.ref c) ct) hr.depth (hk f o gj ho).1 yu S.co S.gen rfl xW ?_;rw [oK];refine Cl (wpAny_newFunctionEnv S.sO (fun _ z=>nomatch z) (fun h₁ eK ni=>⟨lim.fresh _ ni,?_⟩) S.kind);show codeAny _ _ (.expr body (PySem.W.envX qual scope s.heap.objs.size f (.ref c) cl)) _ _;have Eh:∀ b o,s.heap.get? b=some o->h₁.get? b=some o:=fun b o e=>ni.extBut b o (GE (Fk e)) (xz _ e);obtain ⟨t,ht,hq2⟩:=iW A outer s H Q E (hr.deeper _) hw;have lO:∀ b:Addr,b ∉ (lZ P w K mg base N qual scope f (.ref c) cl A outer s H E).ex:=fun b z=>absurd (show b∈([]:List Addr) from z) (by simp);have cellK:∀ x c',cl.lookup x=some c'->∀ v,s1.heap.IsCell c' v->h₁.IsCell c' v/\H c'=none:=fun x c' e v ⟨o',e1,e2⟩ =>
  ⟨⟨o',Eh _ _ (hk c' o' (hB x c' e) e1).1,e2⟩,(hk c' o' (hB x c' e) e1).2⟩
 have I:Inv (lZ P w K mg base N qual scope f (.ref c) cl A outer s H E) [] (vs.map some) H { s with heap:=h₁,toks:=s.toks+([]:List (Str×Value)).length }:=by
  refine ⟨⟨e0.mod,S.kind,rfl,rfl,Ev _,S.inj,fun y hy=>?_,fun y c' hf=>absurd hf (by simp [lZ]),fun _=>hr.hd,Around.frames_deeper e0.frames,.inr ⟨rfl,rfl⟩,fun b z=>absurd z (lO b),e0.bs,e0.gN,fun b _ _=>lO b,fun b z=>absurd z (lO b),e0.eX,e0.iM⟩,
   rfl,e0.bare,Un.kept Eh,⟨_,eK,fun i y v h1 h2 h3=>?_⟩,fun y c' h=>?_,e0.aA.fresh (Ev _),fun y c' h=>?_,fun p hp=>absurd (show p∈([]:List (Addr×Obj)) from hp) (by simp),e0.aA.kept Eh,?_⟩
  ·have hy:scope.names.lookup y=some .cell\/scope.names.lookup y=some .free:=hy;rcases hy with hy | hy
   ·exact absurd rfl (S.sO _ (Pi hy))
   ·exact S.has y hy
  ·have h1':N[i]?=some y:=h1;have ha:vs[i]?=some v:=by
    rw [Op] at h2;cases e:vs[i]? with
    | none=>rw [e] at h2; cases h2
    | some a=>rw [e] at h2; cases h2; rfl
   obtain ⟨c',u,e1,rv,e2⟩:=hcells i y v h1' ha;exact ⟨u,rv,.inr ⟨.inr (S.free y (UV h1')),c',e1,(cellK y c' e1 _ e2).1⟩⟩
  ·obtain ⟨v,e⟩:=iZ y c' h;exact ⟨v,(cellK y c' h v e).1⟩
  ·obtain ⟨v,e⟩:=iZ y c' h;exact (cellK y c' h v e).2
  ·show (vs.map some).length=N.length;rw [At,hlen]
 refine PySem.W.kla_codeExpr (Ty (ht [] _ (vs.map some) H _ I hq2) (fun u s' hs=>?_) fun e s' hs=>hs);obtain ⟨v,H',J,rv,q⟩:=hs;exact ⟨v,H',J.os,J.bare,J.base,J.aA,rv,q⟩
def kq {P:Program} {w:World} {K:PySem.W.Frag} {mg:Str->Option Value} {base:Heap} {N:List Str} {qual:Str} {scope:Scope} {f:Addr} {cd:Value} {cl:List (Str×Addr)} {A:Around} {outer:List Env} {s₀:Shared} {H₀:Hp} {E:XK} :
  gR (lZ P w K mg base N qual scope f cd cl A outer s₀ H₀ E) (fun _=>E) where
 pass:=fun pins σ H s e s' I hc=>by
  obtain ⟨ea,C,od,H',rfl,F,hE⟩:=hc;exact aC (I.Mb ⟨rfl,rfl,rfl⟩ I.ok.frames F) fun _ s'' z=>⟨ea,C,od,H',rfl,z,hE⟩
def wx (outer:List Env) (H:Hp) (s:Shared) (B:Addr->Prop):Prop:=∀ b,B b->(∃ o,s.heap.get? b=some o)/\H b=none/\b ∉ bJ outer
def Bz (s:Shared) (f:Addr):Prop:=∃ cls dict fd sl,s.heap.get? f=some ⟨cls,dict,.func fd,sl⟩
def zd (i:Nat) (f:Addr) (cb:Hp->VK->XK->Prop) (R:St->XK):TE:=fun σ H Q=>σ[i]?=some (some (.ref f))/\cb H Q (R σ)
def YV {X:Cx} {i k:Nat} {x:Str} {p pos:Pos} {B:Addr->Prop} {f:Addr} {cb:Hp->VK->XK->Prop} {R:St->XK} (hN:X.N[i]?=some x) (hv:mW X.env.scope x)
  (D:lX X.prog X.w X.K X.mg X.base k X.s₀ B f cb) (hB:wx X.outer X.H₀ X.s₀ B) (hf:Bz X.s₀ f) (gj:B f) (hex:X.ex=[]) (hr:aZ k X.A) (hx:gR X R)
  (hd:(x == ("__debug__" : Str))=false:=by decide) (bF:(x == ("__classdict__" : Str))=false:=by decide):PE X (.Call (.Name x p) [] [] pos) (zd i f cb R):=by
 intro pins s σ H Q I h;obtain ⟨hσ,hw⟩:=h;refine SC (aC (Bh hN hv hd bF pins s σ H (fun v H1=>v=.ref f/\cb H1 Q (R σ)) I ⟨_,hσ,rfl,hw⟩) fun u s1 ⟨v,H1,I1,r,e,xP⟩=>?_);subst e;cases (show u=Value.ref f from r);have kp:∀ b o,B b->X.s₀.heap.get? b=some o->s1.heap.get? b=some o/\H1 b=none:=fun b o hb e =>
  ⟨I1.base.keep b o e (hB b hb).2.1 (hB b hb).2.2 (by rw [hex]; simp),I1.base.free b o e (hB b hb).2.1 (by rw [hex]; simp)⟩
 obtain ⟨cls,dict,fd,sl,uW⟩:=hf;refine PySem.W.callWith_of (P:=fun h=>h.get? f=some ⟨cls,dict,.func fd,sl⟩) rfl (fun h e=>⟨.frame,.inl rfl,(_C (part:=none) e).andThen .now⟩) (PyProof.Rows.evalArgs_nil3 ⟨(kp f _ gj uW).1,?_⟩);refine _r (_I (D X.A X.stack s1 H1 Q (R σ) hr I1.oY kp xP) fun r s' hq=>?_);cases r with
 | error e=>exact hx.pass pins σ H1 s1 e s' I1 hq
 | ok fl =>
  cases fl with
  | ret u=>exact I1.after hq
  | next=>exact False.elim hq
  | brk=>exact False.elim hq
  | cont=>exact False.elim hq
abbrev wc:=List Env->Shared->Sp
structure sW (P:Program) (w:World) (K:PySem.W.Frag) (mg:Str->Option Value) (base:Heap) (CX:dH) (k:Nat) (f:Addr) (fd:FuncData) (ps:List Str) (sp:wc):Prop where
 len:∀ outer s vs H Q E,sp outer s vs H Q E->vs.length=ps.length
 run:∀ (A:Around) (outer:List Env) (s:Shared) (H:Hp) (args:Args) (us:List Value) (vs:List V) (Q:VK) (E:XK),aZ k A->kP P w K mg base A outer s H->BindsTo s fd args (ps.zip us)->Vals vs us->sp outer s vs H Q E ->
  codeAny (model P w) A (.call (.ref f) args) (CR CX outer P w H s Q E) s
def U6 {CX:dH} {P:Program} {w:World} {K:PySem.W.Frag} {mg:Str->Option Value} {base:Heap} {k:Nat} {f:Addr} {name qual:Str} {params:Arguments} {body:List Stmt} {scope:Scope} {dV kV doc pm ag ct oc:Value} {an od:Option Addr}
  {cZ:Array (Option Value)} {N ps:List Str} {sp:wc} (lk:K.lookup f=some ⟨oc,od,.func (PySem.W.fnOf name qual params body scope dV kV doc pm an ag ct),cZ⟩) (bF:PySem.W.codeIn K ag qual=true) (S:aE N ps scope)
  (len:∀ outer s vs H Q E,sp outer s vs H Q E->vs.length=ps.length)
  (iW:∀ (A:Around) (outer:List Env) (s:Shared) (H:Hp) (vs:List V) (Q:VK) (E:XK),aZ k (A.deeper (envOfC qual scope s.heap.objs.size f ag))->sp outer s vs H Q E ->
   ∃ t,cX (bT CX P w K mg base N qual scope f ag A outer s H E) body t/\t { nx:=fun _ H'=>Q .au H',rt:=Q } (start N vs) H) :
  sW P w K mg base CX (k+1) f (PySem.W.fnOf name qual params body scope dV kV doc pm an ag ct) ps sp:=by
 refine ⟨len,fun A outer s H args us vs Q E hr e0 hb r c8=>?_⟩;have hl:=len _ _ _ _ _ _ c8;have KX:K.In s.heap:=e0.mod.ie.keeps fun b o e=>(e0.bs b o e).1;have lim:s.heap.NoLimit:=e0.mod.nolimit.keeps fun b o e=>(e0.bs b o e).1;have EK:∀ y∈ps.zip us,scope.names.lookup y.1=some .local\/(scope.names.lookup y.1=some .cell/\((cellsFrom (s.heap.objs.size+1) scope.names []).lookup y.1).isSome=true):=fun ⟨n,v⟩ hy=>by
  rcases S.par n (Jao hy).1 with q | q
  ·exact .inl q
  ·exact .inr ⟨q,Ja4 _ _ _ (.inl q)⟩
 refine codeAny_call_function hr.depth (KX _ _ lk) rfl S.co S.gen rfl (PySem.W.codeRec_of KX bF) (hb _ _ _ _ ?_);refine wpAny_newFunctionEnv_cells S.kind EK fun env he s1 x=>?_;subst he;refine ⟨lim.keeps x.toInCall.keep,codeAny_func ?_⟩;obtain ⟨t,ht,hq⟩:=iW A outer s H vs Q E (hr.deeper _) c8;have I:Inv (bT CX P w K mg base N qual scope f ag A outer s H E) [] (start N vs) H s1:=Gr S hr.hd e0 hl r x;refine Ty (ht [] s1 (start N vs) H _ I hq) (fun fl s' hs=>?_) fun e s' hs=>hs;have fin:∀ {σ':St} {H':Hp} {v:V} {u:Value},Inv (bT CX P w K mg base N qual scope f ag A outer s H E) [] σ' H' s'->RelV v u->Q v H'->CE outer P w H s Q u s' :=
  fun {σ' H' v u} J rv q=>⟨v,H',J.os,J.bare,J.base,J.aA,rv,q⟩
 cases fl with
 | ret u =>
  obtain ⟨v,σ',H',J,rv,q⟩:=hs;exact fin J rv q
 | next =>
  obtain ⟨σ',H',J,q⟩:=hs;exact fin (v:=V.au) (u:=Value.none) J rfl q
 | brk =>
  obtain ⟨_,_,_,q⟩:=hs;exact False.elim q
 | cont =>
  obtain ⟨_,_,_,q⟩:=hs;exact False.elim q
abbrev Ent:=Int×Int×Addr
def dA:List Ent->List Value
 | []=>[]
 | e::r=>rawInt e.1::rawInt e.2.1::.ref e.2.2::dA r
def K9:∀ (a b:List Ent),dA (a++b)=dA a++dA b
 | [],b=>rfl
 | e::r,b=>by show _::_::_::dA (r++b)=_; rw [K9 r b]; rfl
def yL:∀ es:List Ent,TriplesOk (dA es)
 | []=>trivial
 | e::r=>yL r
def Hn (pos:Pos):∀ es:List Ent,codeAmong pos (dA es)=(es.find? fun e=>e.1 == (pos.line:Int) && e.2.1 == (pos.col:Int)).map fun e=>Value.ref e.2.2
 | []=>rfl
 | e::r=>by
  show (if e.1 == (pos.line:Int) && e.2.1 == (pos.col:Int) then some (Value.ref e.2.2) else codeAmong pos (dA r))=_;rw [_u];cases h:(e.1 == (pos.line:Int) && e.2.1 == (pos.col:Int)) with
  | true=>rfl
  | false=>exact Hn pos r
def gr (P:Addr) (es:List Ent):HO:=.ext fun h=>h.get? P=some (PySem.W.tabObj (dA es).toArray)
structure eW (H:Hp) (P:Addr) (q:Str) (es:List Ent):Prop where
 tab:H P=some (gr P es)
 code:∀ e∈es,H e.2.2=some (n9 e.2.2 q)
structure ic (X:Cx) (P:Addr) (params:Arguments) (scope:Scope) (cD:List (Str×Addr)) (q:Str):Prop where
 dflt:defaultsOf params X.env=([],[])
 hX:closureFor scope X.env=pure cD
 code:∃ c,X.env.code=.ref c/\PySem.W.CodeHd X.base c P
 blt:X.base.BuiltinsAt X.mg P
 qual:X.env.qual ++ "<lambda>" = q
structure lD (P:Addr) (q:Str) (c:Addr) (H H1:Hp):Prop where
 rest:∀ b,b≠P->b≠c->H1 b=H b
 code:H1 c=some (n9 c q)
 old:H c=none\/H1=H
 tab:∃ es,eW H1 P q es
def pQ {a b n:Nat} (h:a < n) (h':n<=b):b≠a:=by omega
def UD {X:Cx} {pins:List (Addr×Obj)} {σ:St} {H:Hp} {s:Shared} {P:Addr} {params:Arguments} {body:Expr} {scope:Scope} {cD:List (Str×Addr)} {q:Str} {fc:Pos} {es:List Ent} {Q:Value->Shared->Prop}
  (I:Inv X pins σ H s) (L:ic X P params scope cD q) (T:eW H P q es)
  (h:∀ f c ct pm s1 H1,Inv X pins σ H1 s1->lD P q c H H1->H1 f=none->X.s₀.heap.objs.size<=f->f≠X.env.locals->s1.heap.get? f=some (PySem.W.kla_obj "<lambda>" q params body scope cD pm c ct) ->
   (∀ b o,H b=none->s.heap.get? b=some o->s1.heap.get? b=some o)->Q (.ref f) s1) :
  wpAny (model X.prog X.w) X.A (eval (.Lambda params body scope fc) X.env) Q X.xe s:=by
 obtain ⟨hdef,iZ,⟨c,Nz,C⟩,hb,hq⟩:=L;subst hq;refine PySem.W.kla_eval hdef ?_;have hP:s.heap.get? P=some (PySem.W.tabObj (dA es).toArray):=(I.aA P _ T.tab).1;have hgP:mainGlobals≠P:=fun e=>by
  obtain ⟨o,_,_,g,_⟩:=I.mod.glob;have:=(I.bs _ _ g).2;rw [e,T.tab] at this; cases this
 have OH:s.heap.BuiltinsAt X.mg P:=by
  obtain ⟨bm,o,b1,b2,b3,b4,b5,b6⟩:=hb;exact ⟨bm,o,b1,b2,b3,b4,I.bk _ _ b5,b6⟩
 have ET:=I.lt;have cQ:∀ {b:Addr},H b=none->b≠P:=fun {b} n e=>by rw [e,T.tab] at n; cases n
 cases hf:codeAmong fc (dA es).toArray.toList with
 | none =>
  refine PySem.W.kla_makeFunction (mg:=X.mg) iZ I.ok.glob (I.mod.glob.keeps I.bk) Nz (C.keeps I.bk) hP (yL es) hf hgP OH fun c' ct h' tk hx gE bN xW lK=>?_;have htb':h'.get? P=some (PySem.W.tabObj (dA (es++[((fc.line:Int),(fc.col:Int),c')])).toArray):=by
   rw [lK,K9]; simp [dA]
  have hPs:P < s.heap.objs.size:=Fk hP;have NY:c'≠P:=pQ hPs gE;have I1:Inv X pins σ (upd H P (gr P (es++[((fc.line:Int),(fc.col:Int),c')]))) { s with heap:=h',toks:=tk } :=
   I.write (x:=P) (e:=P) (t':=tk) (by rw [T.tab]; trivial) (.inl rfl) (fun b u hb e=>hx b u hb e) ⟨_,htb'⟩ ⟨htb',⟨_,htb'⟩,fun h1 h2 z k=>k _ z⟩
  have jg:H c'=none:=I.aA.fresh gE;have hcn1:(upd H P (gr P (es++[((fc.line:Int),(fc.col:Int),c')]))) c'=none:=by rw [aj NY]; exact jg
  have I2:=I1.vD (a:=c') (o:=n9 c' (X.env.qual ++ "<lambda>")) hcn1 (_v (Gc I.sz gE)) (pQ ET gE) (fun x c₁ e z=>by
    obtain ⟨v,o,ho,_⟩:=I.cell x c₁ e;exact pQ (Fk ho) gE z.symm) (fun p hp z=>by
    exact pQ (Fk (I.pin p hp).1) gE z.symm) ⟨xW,(by obtain ⟨c₂,o,_,_,e,g,_⟩:=xW; cases e; exact ⟨o,g⟩),fun h1 h2 z k=>by
     obtain ⟨c₂,o,vs,t,e,g,r⟩:=z;cases e;exact ⟨c',o,vs,t,rfl,k o g,r⟩⟩
  have I3:=I2.kept (t':=tk) (h':=h'.push (PySem.W.kla_obj "<lambda>" (X.env.qual ++ "<lambda>") params body scope cD ((X.mg "__name__").getD .none) c' ct)) (fun b u e=>xz _ e);have oB:(upd (upd H P (gr P (es++[((fc.line:Int),(fc.col:Int),c')]))) c' (n9 c' (X.env.qual ++ "<lambda>"))) h'.objs.size=none:=I2.aA.fresh (Ev _);have hsz:s.heap.objs.size<=h'.objs.size:=Gc gE (Jax bN);refine h h'.objs.size c' ct _ _ _ I3 ⟨fun b n1 n2=>by rw [aj n2,aj n1],aw,.inl jg,es++[((fc.line:Int),(fc.col:Int),c')],⟨by rw [aj (Fa NY),aw],fun e he=>?_⟩⟩ oB (Gc I.sz hsz) (pQ ET hsz) (FM _ rfl) fun b o n e=>xz _ (hx b o (cQ n) e);rcases TW.mp he with he | he
  ·have:=T.code e he;by_cases hc:e.2.2=c'
   ·rw [hc,aw]
   ·have hp:e.2.2≠P:=fun z=>by
     have hr:s.heap.CodeRec (.ref P) (X.env.qual ++ "<lambda>"):=by
      have hh:=(I.aA _ _ this).1;rw [z] at hh; exact hh
     obtain ⟨c₂,o,vs,t,e1,g,d,r⟩:=hr;cases e1;rw [hP] at g; cases g;have d':(dA es).toArray=vs:=by injection d
     subst d';cases es with
     | nil=>cases he
     | cons e₁ r₁=>simp [dA,rawInt] at r
    rw [aj hc,aj hp]; exact this
  ·rw [KM.mp he]; exact aw
 | some cv =>
  have hf':=hf;rw [show (dA es).toArray.toList=dA es from rfl,Hn] at hf';obtain ⟨e,he,hev⟩:=Ja6.mp hf';subst hev;refine PySem.W.kla_makeFunctionHit (mg:=X.mg) iZ I.ok.glob (I.mod.glob.keeps I.bk) Nz (C.keeps I.bk) hP (yL es) hf OH fun ct h' tk hk hsz=>?_;have I1:=I.kept (t':=tk) hk;have I2:=I1.kept (t':=tk) (h':=h'.push (PySem.W.kla_obj "<lambda>" (X.env.qual ++ "<lambda>") params body scope cD ((X.mg "__name__").getD .none) e.2.2 ct)) (fun b u e=>xz _ e);exact h h'.objs.size e.2.2 ct _ _ _ I2 ⟨fun _ _ _=>rfl,T.code e (List.mem_of_find?_eq_some he),.inr rfl,es,T⟩ (I1.aA.fresh (Ev _)) (Gc I.sz hsz) (pQ ET hsz) (FM _ rfl) fun b o n e=>xz _ (hk b o e)
abbrev eF:=Hp->VK->XK->Prop
def B3 (P:Program) (w:World) (K:PySem.W.Frag) (mg:Str->Option Value) (base:Heap) (k:Nat) (lG:eF->eF):wc:=fun outer s vs H Q E =>
 ∃ f B cb,vs=[.ref f]/\lX P w K mg base k s B f cb/\wx outer H s B/\Bz s f/\B f/\lG cb H Q E
def vK (c:Addr) (q:Str) (W:eF):eF:=fun H Q E=>H c=some (n9 c q)/\W H Q E
def jj (ix:List Nat) (σ:St) (vs:List V):Prop:=vs.length=ix.length/\∀ (i j:Nat) (v:V),ix[i]?=some j->vs[i]?=some v->σ[j]?=some (some v)
def Dh (P:Addr) (q:Str) (ix:List Nat) (W:List V->eF) (lG:eF->eF) (R:St->XK):TE:=fun σ H Q =>
 ∃ es vs,eW H P q es/\jj ix σ vs/\∀ c H1,lD P q c H H1->lG (vK c q (W vs)) H1 Q (R σ)
structure gL (X:Cx) (N':List Str) (ix:List Nat) (cD:List (Str×Addr)):Prop where
 len:ix.length=N'.length
 at':∀ (i j:Nat),ix[i]?=some j->∃ x,N'[i]?=some x/\X.N[j]?=some x/\X.env.scope.names.lookup x=some .cell
 hX:∀ x c,cD.lookup x=some c->X.env.cells.lookup x=some c
 Gz:∀ x∈N',cD.lookup x=X.env.cells.lookup x
 own:∀ x c,cD.lookup x=some c->X.fn x=true
def WU {X:Cx} {P:Addr} {q:Str} {ix:List Nat} {W:List V->eF} {lG:eF->eF} {R:St->XK} {params:Arguments} {body:Expr} {scope:Scope} {cD:List (Str×Addr)} {N':List Str} {fc p pos:Pos} {x y:Str} {g:Addr} {fd:FuncData} {k k':Nat}
  (L:ic X P params scope cD q) (S:gp N' scope cD) (C:gL X N' ix cD)
  (F:sW X.prog X.w X.K X.mg X.base (bj X.prog X.w) k' g fd [y] (B3 X.prog X.w X.K X.mg X.base (k+1) lG)) (hr:aZ k' X.A) (hg:Gl X x) (hm:X.mg x=some (.ref g)) (hk:PySem.W.keepIn X.K (.ref g)=true) (hb:Binds X.K fd [y] []) (hx:gR X R)
  (oK:∀ pm cd ct,bindArgs (PySem.W.kla_fn "<lambda>" q params body scope cD pm cd ct) ⟨[],[]⟩=pure [])
  (iW:∀ (f:Addr) (ag:Value) (vs:List V) (A:Around) (outer:List Env) (s:Shared) (H:Hp) (Q:VK) (E:XK),aZ k (A.deeper (PySem.W.envX q scope s.heap.objs.size f ag cD))->W vs H Q E ->
   ∃ t,PE (lZ X.prog X.w X.K X.mg X.base N' q scope f ag cD A outer s H E) body t/\t (vs.map some) H Q)
  (bM:(x == ("__debug__" : Str))=false:=by decide):PE X (.Call (.Name x p) [.Lambda params body scope fc] [] pos) (Dh P q ix W lG R):=by
 intro pins s σ H Q I h;obtain ⟨es,vs,T,hc,c8⟩:=h;refine SC (kE I hg hm ?_ bM);refine _c (h₀:=X.base) I.ok.mod.ie hk ?_;show wpAny _ _ (spliced ((false,eval (.Lambda params body scope fc) X.env)::backTo pos (starEach [] X.env))) _ _ s;refine _q (UD I L T fun f c ct pm s1 H1 I1 St oB jO bf uW kp=>?_);refine _w ⟨I1.bR,?_⟩;have Ng:∀ b,X.s₀.heap.objs.size<=b->b≠X.env.locals->b ∉ bJ X.stack:=fun b hb hl z=>by
  rcases AT.mp (I1.tK b z) with e | z
  ·exact hl e
  ·obtain ⟨_,o,ho,_⟩:=I1.ok.eX.mem z;exact absurd (FB (Fk ho) hb) (SZ _)
 have D:lX X.prog X.w X.K X.mg X.base (k+1) s1 (fun b=>b=f\/∃ z,cD.lookup z=some b) f (vK c q (W vs)):=by
  refine RP (N:=N') (vs:=vs) S uW rfl (fun H Q E z=>⟨c,rfl,z.1⟩) (.inl rfl) (fun z c' e=>.inr ⟨z,e⟩) (by rw [hc.1,C.len]) (fun z c' e=>I1.cell z c' (C.hX z c' e)) (fun i z v h1 h2=>?_) (oK _ _ _) (fun A outer s' H' Q' E' r z=>iW f (.ref c) vs A outer s' H' Q' E' r z.2);have hi:i < ix.length:=by
   have:=(Do.mp h1).1;rw [C.len]; exact this
  obtain ⟨z',e1,e2,e3⟩:=C.at' i _ (Db hi);rw [h1] at e1; cases e1;have e4:=hc.2 i _ v (Db hi) h2;obtain ⟨m,hn,hl⟩:=I1.loc;obtain ⟨u,r,l⟩:=hl _ z v e2 e4 (.inr (.inl e3));rcases l with ⟨hk',_⟩ | ⟨_,c',e5,e6⟩
  ·have:X.env.scope.names.lookup z=some .local:=hk';rw [e3] at this; cases this
  ·exact ⟨c',u,by rw [C.Gz z (UV h1)]; exact e5,r,e6⟩
 have hH:wx X.stack H1 s1 (fun b=>b=f\/∃ z,cD.lookup z=some b):=fun b hb=>by
  rcases hb with rfl | ⟨z,e⟩
  ·exact ⟨⟨_,uW⟩,oB,Ng _ jO bf⟩
  ·have e':=C.hX z b e;obtain ⟨v,o,ho,_⟩:=I1.cell z b e';exact ⟨⟨o,ho⟩,I1.e8 z b e',Ng b (I1.ok.kK z b (C.own z b e) e') (I1.jq z b e')⟩
 have hl:([.ref f]:List Value).length=[y].length:=rfl;refine _r (_I (F.run X.A X.stack s1 H1 ⟨[.ref f],[]⟩ [.ref f] [.ref f] Q (R σ) hr I1.oY (hb s1 [.ref f] I1.bR hl) (.cons rfl .nil) ⟨f,_,_,rfl,D,hH,⟨_,_,_,_,uW⟩,.inl rfl,c8 c H1 St⟩) fun r s' hq=>?_);cases r with
 | error e=>exact hx.pass pins σ H1 s1 e s' I1 hq
 | ok fl =>
  cases fl with
  | ret u=>exact I1.after hq
  | next=>exact False.elim hq
  | brk=>exact False.elim hq
  | cont=>exact False.elim hq
abbrev oz:=List (Addr×Addr)
def vd (tabs:oz) (H:Hp):Prop:=∀ q∈tabs,∃ es,H q.2=some (gr q.2 es)
structure nt (tabs:oz) (H:Hp):Prop where
 all:∀ b,H b=none\/(∃ o xs,H b=some (.eC o (.lst xs)))\/∃ q∈tabs,b=q.2
 tab:∀ q∈tabs,H q.2=some (gr q.2 [])
def nt.ok {tabs:oz} {H:Hp} (h:nt tabs H) {c P:Addr} (q:Str) (hm:(c,P)∈tabs):eW H P q []:=⟨h.tab _ hm,fun _ z=>nomatch z⟩
def Q3 {P:Program} {w:World} {K:PySem.W.Frag} {mg mb:Str->Option Value} {CX:dH} {k:Nat} {fa a:Addr} {fd:FuncData} {x:Str} {sp:Sp} {s₁:Shared} {vs:List Value} {ns:List Int} {tabs:oz}
  (KX:K.In s₁.heap) (eK:s₁.heap.Ns mainGlobals mg) (hb:s₁.heap.Ns builtinsNs mb) (hbb:∀ x:Str,x ≠ "__name__" -> mb x=bootBuiltins x) (hlim:s₁.heap.NoLimit) (hg:s₁.gens=#[])
  (hT:PySem.W.TabsAt tabs s₁.heap) (oO:PySem.W.noTabs K=true) (hbm:∃ bm ob,mg "__builtins__" = some (.ref bm)/\bm≠builtinsNs/\s₁.heap.get? bm=some ob/\ob.cls=.type "module" /\ ob.dict=some builtinsNs/\ob.data=.plain)
  (ha:s₁.heap.get? a=some { cls:=.type "list",data:=.seq vs.toArray }) (hi:IntsAre vs ns) (hl:ns.length<=sizeLine) (hr:aZ k callerA)
  (F:∀ base:Heap,K.In base->base.Ns mainGlobals mg->(∀ q∈tabs,PySem.W.CodeHd base q.1 q.2/\base.BuiltinsAt mg q.2)->aB P w K mg base CX k fa fd [x] sp) (oK:∀ (s:Shared) (u:Value),BindsTo s fd ⟨[u],[]⟩ [(x,u)])
  (c8:∀ H:Hp,nt tabs H->aD K H a (ns.map V.int)->sp [.ref a] H (fun v H'=>v=.bl true/\vd tabs H') fun _ _ _=>False)
  (Eo:∀ H e s',CX [] H s₁ (fun _ _ _=>False) e s'->False) :
  codeAny (model P w) callerA (.call (.ref fa) ⟨[.ref a],[]⟩) (fun r s'=>r=.ok (.ret (.bool true))/\OldK s₁.heap s'.heap/\s'.os=s₁.os/\AllBare s'.gens) s₁:=by
 have rv:=Hx hi;have lenV:=hi.length;have tabAt:∀ b,(∃ q∈tabs,b=q.2)->s₁.heap.get? b=some (PySem.W.tabObj #[]):=fun b ⟨q,hq,e⟩=>e ▸ (hT q hq).2;have M7:¬ ∃ q∈tabs,a=q.2:=fun z=>by
  have:=tabAt a z;rw [ha] at this; cases this
 have core:∀ H:Hp,nt tabs H->aD K H a (ns.map V.int)->bU P w H s₁.heap->(∀ b,H b≠none->b=a\/∃ q∈tabs,b=q.2)->(H a≠none->K.lookup a=none) ->
   codeAny (model P w) callerA (.call (.ref fa) ⟨[.ref a],[]⟩) (fun r s'=>r=.ok (.ret (.bool true))/\OldK s₁.heap s'.heap/\s'.os=s₁.os/\AllBare s'.gens) s₁:=by
  intro H hO hS aA hA hK;have ym:∀ {b:Addr} {o:Obj},s₁.heap.get? b=some o->H b=none->(iP s₁.heap H).get? b=some o:=fun e n=>O8 e n;have El:∀ {b:Addr} {o:Obj},s₁.heap.get? b=some o->b≠a->(∀ ps,o.data≠.fields ps\/o.cls≠.none)->H b=none:=fun {b o} e na d=>by
   cases q:H b with
   | none=>rfl
   | some u =>
    rcases hA b (by rw [q]; simp) with e' | e'
    ·exact absurd e' na
    ·have e2:=tabAt b e';rw [e] at e2; cases e2;rcases d #[] with d | d
     ·exact absurd rfl d
     ·exact absurd rfl d
  have lO:∀ {b:Addr} {o:Obj} {es:Array DictEntry} {ep:Nat},s₁.heap.get? b=some o->o.data=.dict es ep->H b=none:=fun {b o es ep} e d=>by
   refine El e (fun z=>?_) fun ps=>.inl (by rw [d]; simp);subst z;rw [ha] at e; cases e;have d':Data.seq vs.toArray _=Data.dict es ep:=d;cases d'
  have xQ:∀ {b:Addr} {m:Str->Option Value},s₁.heap.Ns b m->(iP s₁.heap H).Ns b m:=fun {b m} ⟨o,es,ep,e,d,r⟩=>⟨o,es,ep,ym e (lO e d),d,r⟩;have M9:K.In (iP s₁.heap H):=fun b o e=>ym (KX b o e) (by
   cases q:H b with
   | none=>rfl
   | some u =>
    rcases hA b (by rw [q]; simp) with e' | e'
    ·subst e';rw [hK (by rw [q]; simp)] at e; cases e
    ·have e2:=tabAt b e';rw [KX b o e] at e2; cases e2;have h2:=GM.mp oO (b,_) (PySem.W.mem_of_lookupK e);exact absurd (show false=true from h2) FS)
  have hM:Mod K mg (iP s₁.heap H):=⟨M9,xQ eK,⟨mb,xQ hb,hbb⟩,let ⟨mc,h1,h2⟩:=hlim; ⟨mc,xQ h1,h2⟩⟩;have e0:kP P w K mg (iP s₁.heap H) callerA [] s₁ H:=⟨rfl,hM,fun b o e=>Ux e,Nat.le_of_eq (Rt _ _),trivial,fun b hb=>absurd (show b∈([]:List Addr) from hb) (by simp),aA,.of_eq hg⟩;have hcodes:∀ q∈tabs,PySem.W.CodeHd (iP s₁.heap H) q.1 q.2/\(iP s₁.heap H).BuiltinsAt mg q.2:=fun q hq=>by
   obtain ⟨o,vs',file,tf,flags,tg,inF,text,tt,e1,r1,r⟩:=(hT q hq).1;obtain ⟨bm,ob,b1,b2,b3,b4,b5,b6⟩:=hbm;refine ⟨⟨o,vs',file,tf,flags,tg,inF,text,tt,ym e1 (El e1 (fun z=>?_) fun ps=>.inr (by rw [r1]; simp)),r1,r⟩,bm,ob,b1,b2,fun z=>?_,fun z=>?_,ym b3 (El b3 (fun z=>?_) fun ps=>.inr (by rw [b4]; simp)),b4,b5,b6⟩
   ·subst z; rw [ha] at e1; cases e1; simp at r1
   ·obtain ⟨o',es,ep,e,d,_⟩:=eK;rw [z,e] at b3; cases b3; rw [d] at b6; cases b6
   ·rw [z,(hT q hq).2] at b3; cases b3; cases b6
   ·subst z; rw [ha] at b3; cases b3; cases b6
  refine _I ((F _ M9 (xQ eK) hcodes).run callerA [] s₁ H ⟨[.ref a],[]⟩ [.ref a] [.ref a] _ _ hr e0 (oK s₁ (.ref a)) (.cons rfl .nil) (c8 H hO hS)) fun r s' h=>?_;cases r with
  | error e=>exact (Eo H e s' h).elim
  | ok fl =>
   cases fl with
   | next=>exact False.elim h
   | brk=>exact False.elim h
   | cont=>exact False.elim h
   | ret u =>
    obtain ⟨v,H',os,bare,un,hok',r',q',qt⟩:=h;subst q';obtain rfl:u=Value.bool true:=r';refine ⟨rfl,⟨fun b o e=>?_,fun b o e=>un.there b o e (by simp)⟩,os,bare⟩;cases q:H b with
    | none=>exact .inl (un.keep b o e q (by intro z; exact absurd (show b∈([]:List Addr) from z) (by simp)) (by simp))
    | some u =>
     rcases hO.all b with z | ⟨ob,xs,z⟩ | ⟨qq,xT,z⟩
     ·rw [q] at z; cases z
     ·have z2:=un.fA b ob _ z;obtain ⟨e1,_⟩:=aA b _ z;obtain ⟨e2,_⟩:=hok' b _ z2;rw [e] at e1; cases e1;exact .inl e2
     ·subst z;obtain ⟨es,he⟩:=qt qq xT;have e3:s'.heap.get? qq.2=some (PySem.W.tabObj (dA es).toArray):=(hok' _ _ he).1;have e4:=(hT qq xT).2;rw [e] at e4; cases e4;exact .inr (.inl ⟨((hT qq xT).1.tab (hT qq xT).2).isCodeTable,rfl,#[],(dA es).toArray,rfl,by rw [e3]; simp⟩)
 have N8:∀ b,(∃ q∈tabs,b=q.2)->∀ H:Hp,bI P w H s₁.heap b (gr b []):=fun b z H=>⟨tabAt b z,⟨_,tabAt b z⟩,fun h1 h2 y k=>k _ y⟩
 classical
 cases hk:K.lookup a with
 | some o =>
  have e:=KX a o hk;rw [ha] at e;cases e;refine core (fun b=>if (∃ q∈tabs,b=q.2) then some (gr b []) else none) ⟨fun b=>?_,fun q hq=>IN ⟨q,hq,rfl⟩⟩ (.inr ⟨_,vs.toArray,_,hk,rfl,rfl,rfl,by rw [Fr,lenV]; exact hl,by simpa using rv⟩) (fun b u z=>?_) (fun b z=>?_) fun z=>absurd (Id M7) z
  ·by_cases h:∃ q∈tabs,b=q.2
   ·exact .inr (.inr h)
   ·exact .inl (Id h)
  ·by_cases h:∃ q∈tabs,b=q.2
   ·have z':=(IN h).symm.trans z;cases z';exact N8 b h _
   ·have z':=(Id h).symm.trans z;cases z'
  ·by_cases h:∃ q∈tabs,b=q.2
   ·exact .inr h
   ·exact absurd (Id h) z
 | none =>
  refine core (fun b=>if b=a then some (.eC { cls:=.type "list",data:=.seq vs.toArray } (.lst (ns.map V.int))) else if (∃ q∈tabs,b=q.2) then some (gr b []) else none) ⟨fun b=>?_,fun q hq=>?_⟩ (.inl (.inr ⟨{ cls:=.type "list",data:=.seq vs.toArray },IN rfl⟩)) (fun b u z=>?_) (fun b z=>?_) fun _=>hk
  ·by_cases hb:b=a
   ·exact .inr (.inl ⟨_,_,IN hb⟩)
   ·by_cases h:∃ q∈tabs,b=q.2
    ·exact .inr (.inr h)
    ·exact .inl ((Id hb).trans (Id h))
  ·have cQ:q.2≠a:=fun z=>M7 ⟨q,hq,z.symm⟩;exact (Id cQ).trans (IN ⟨q,hq,rfl⟩)
  ·by_cases hb:b=a
   ·have z':=(IN hb).symm.trans z;cases z';subst hb;exact ⟨ha,by rw [At]; exact hl,vs,_,rv,ha⟩
   ·have z':=(Id hb).symm.trans z;by_cases h:∃ q∈tabs,b=q.2
    ·have z2:=(IN h).symm.trans z';cases z2;exact N8 b h _
    ·have z2:=(Id h).symm.trans z';cases z2
  ·by_cases hb:b=a
   ·exact .inl hb
   ·by_cases h:∃ q∈tabs,b=q.2
    ·exact .inr h
    ·exact absurd ((Id hb).trans (Id h)) z
def XS {l:PySem.W.OpenLaw} {n k:Nat} {q:Program} {loose:List Str} {XP:(Str->Option Value)->Heap->Prop} {YP:World->Heap->Prop} {d:DefRec} {K:Params->PySem.W.Frag} {CX:World->dH} {sp:World->Sp} {x:Str} {tabs:oz}
  (hn:l.most=some n) (iF:n<=sizeLine) (uE:d.params.defaults=[]) (hr:aZ k callerA)
  (hY:∀ (w:World) (h:Heap),YP w h->(K w.params).In h)
  (oO:∀ w:World,PySem.W.noTabs (K w.params)=true) (lK:∀ (w:World),∀ t∈tabs,∃ y e,(recsOf q).find? (fun e=>e.name == y)=some e/\PySem.W.tabIn (K w.params) y=some t)
  (F:∀ (w:World) (mg:Str->Option Value) (fa:Addr) (h:Heap),(K w.params).In h->h.Ns mainGlobals mg->mg d.name=some (.ref fa) ->
   ∃ fd:FuncData,(∀ (s:Shared) (u:Value),BindsTo s fd ⟨[u],[]⟩ [(x,u)]) /\
    ∀ base:Heap,(K w.params).In base->base.Ns mainGlobals mg->(∀ t∈tabs,PySem.W.CodeHd base t.1 t.2/\base.BuiltinsAt mg t.2)->aB l.prog w (K w.params) mg base (CX w) k fa fd [x] (sp w))
  (c8:∀ (w:World) (H:Hp) (a:Addr) (ns:List Int),ns.length<=n->nt tabs H->aD (K w.params) H a (ns.map V.int)->sp w [.ref a] H (fun v H'=>v=.bl true/\vd tabs H') fun _ _ _=>False)
  (Eo:∀ (w:World) (H:Hp) (s:Shared) (e:Value) (s':Shared),CX w [] H s (fun _ _ _=>False) e s'->False) :
  PySem.W.WalkO q loose XP YP l.row.toRowW d [] (fun f vs=>PySem.call f vs):=by
 refine Att.RB hn uE fun w s₀ s₁ mg mb fa o pm cd doc a vs ns G Y ho hd bF hmg uY hints hlen hg=>?_;have KX:=hY w _ Y;obtain ⟨fd,hb,hF⟩:=F w mg fa _ KX G.T.g hmg;exact Q3 KX G.T.g G.T.b G.T.builtins G.T.nolimit hg (fun t ht=>by
  obtain ⟨y,e,h1,h2⟩:=lK w t ht;exact PySem.W.tab_of G.T KX h1 h2) (oO w) G.T.bmain uY hints (Gc hlen iF) hr hF hb (fun H hO hS=>c8 w H a ns hlen hO hS) fun H e s'=>Eo w H s₁ e s'
section
variable {prog:Program} {w:World} {A:Around} {R:Result->Shared->Prop} {I:Addr} {fp wr:List Addr} {P:Nat->Value->Prop} {St:Nat->Heap->Prop}
def Wo (a d:Value):argsOk "min" ⟨[a],[("default",d)]⟩:=by unfold argsOk; kernel_rfl
def O1 (W:Walks prog w A.in1 I fp wr 0 P St) {S:Addr} {s:Shared} {c:Nat} {d:Value} (aU:St 0 s.heap)
  (hS:s.heap.get? S=some { cls:=.type "list",dict:=none,data:=.seq #[] c,slots:=#[] })
  (hR:∀ h' tk,(∀ b o,b ∉ wr->s.heap.get? b=some o->h'.get? b=some o)->R (.ok (.ret d)) { s with heap:=h',toks:=tk }) :
  codeAny (model prog w) A (.builtin "min.loop" ⟨[.ref I,.none,.ref S],[("default",d)]⟩) R s:=by
 refine Jap F.entry_min_loop ?_;rw [Jan _3 _];show wpAny _ A.in1 (seqItems? (.ref S) >>= _) _ _ s;refine wT (JaF hS rfl ?_);show wpAny _ A.in1 (tryCatch (pyNext (.ref I)) _ >>= _) _ _ s;refine wT (wpAny_tryCatch (W.done s _ _ aU fun h' tk hk'=>?_));exact wT (wpAny_rule (Cl (hR h' tk hk')))
def Tu (W:Walks prog w A.in1 I fp wr 1 P St) {S:Addr} {s:Shared} {c:Nat} {d:Value} (qC:S ∉ fp) (aU:St 0 s.heap)
  (hS:s.heap.get? S=some { cls:=.type "list",dict:=none,data:=.seq #[] c,slots:=#[] })
  (hR:∀ v h' tk,P 0 v->(∀ b o,b ∉ wr->b≠S->s.heap.get? b=some o->h'.get? b=some o)->R (.ok (.ret v)) { s with heap:=h',toks:=tk }) :
  codeAny (model prog w) A (.builtin "min.loop" ⟨[.ref I,.none,.ref S],[("default",d)]⟩) R s:=by
 have NR:S ∉ wr:=fun h=>qC (W.sub _ h);have Eb:(toString "min" ++ toString ".loop" : String) = "min.loop" := by decide
 refine Jap F.entry_min_loop ?_;rw [Jan _3 _];show wpAny _ A.in1 (seqItems? (.ref S) >>= _) _ _ s;refine wT (JaF hS rfl ?_);show wpAny _ A.in1 (tryCatch (pyNext (.ref I)) _ >>= _) _ _ s;refine wT (wpAny_tryCatch (W.item 0 s _ _ (by decide) aU fun v h' tk hP hst' hk'=>?_));have hS':=hk' S _ NR hS;show wpAny _ A.in1 (updateSeq S (fun _=>#[v,v]) >>= _) _ _ _;refine wT ?_;refine wpAny_updateSeq hS' rfl ?_;rw [Eb];refine Cl ⟨plainId_quiet _3 _,?_⟩;have key:∀ (s2:Shared) (c2:Nat),St 1 s2.heap->s2.heap.get? S=some { cls:=.type "list",dict:=none,data:=.seq #[v,v] c2,slots:=#[] }->(∀ h'' tk'',(∀ b o,b ∉ wr->b≠S->s2.heap.get? b=some o->h''.get? b=some o)->R (.ok (.ret v)) { s2 with heap:=h'',toks:=tk'' }) ->
   codeAny (model prog w) A (.builtin "min.loop" ⟨[.ref I,.none,.ref S],[("default",d)]⟩) R s2:=fun s2 c2 jP hS2 hR2=>by
  refine Jap F.entry_min_loop ?_;rw [Jan _3 _];show wpAny _ A.in1 (seqItems? (.ref S) >>= _) _ _ s2;refine wT (JaF hS2 rfl ?_);show wpAny _ A.in1 (tryCatch (pyNext (.ref I)) _ >>= _) _ _ s2;refine wT (wpAny_tryCatch (W.done s2 _ _ jP fun h3 tk3 Om=>?_));have hS3:=Om S _ NR hS2;show wpAny _ A.in1 (updateSeq S (fun _=>#[]) >>= _) _ _ _;refine wT ?_;refine wpAny_updateSeq hS3 rfl (wT (wpAny_letGo (Cl ?_)));exact hR2 _ tk3 fun b o hbw hbS e=>(ST _ _ (Fa hbS)).trans (Om b o hbw e)
 refine key _ _ (W.frame _ _ _ hst' fun b gj o e=>(ST _ _ (fun h:S=b=>qC (by rw [h]; exact gj))).trans e) (_b _ hS' rfl) fun h'' tk'' hk''=>?_;exact hR v h'' tk'' hP fun b o hbw hbS e=>hk'' b o hbw hbS ((ST _ _ (Fa hbS)).trans (hk' b o hbw e))
def OY {E:Value->Shared->Prop} {s:Shared} {x d:Value} {Q:Value->Shared->Prop}
  (h:wpAny (model prog w) A.in1 (pyIter x) (fun it s₂=>∃ I fp wr n P St,it=.ref I/\Walks prog w A.in1 I fp wr n P St/\St 0 s₂.heap/\(∀ b∈fp,b < s₂.heap.objs.size)/\n<=1 /\
   ∀ v h' tk,(n=0/\v=d\/n=1/\P 0 v)->(∀ b o,b ∉ wr->s₂.heap.get? b=some o->h'.get? b=some o)->Q v { s₂ with heap:=h',toks:=tk }) E s) :
  wpAny (model prog w) A (call (.builtin "min") [x] [("default",d)]) Q E s:=by
 have Eb:(toString "min" ++ toString ".loop" : String) = "min.loop" := by decide
 refine _r (_x F.plain_min F.entry_min ?_);have MY:wpAny (model prog w) A.in1 (Builtin.«min» ⟨[x],[("default",d)]⟩) (fun fin s'=>match fin with
   | .done f=>(match (Except.ok f:Result) with | .ok (.ret v)=>Q v s' | .ok _=>False | .error e=>E e s')
   | .again c'=>c'.quiet=true/\codeAny (model prog w) A c' (fun r s'=>match r with | .ok (.ret v)=>Q v s' | .ok _=>False | .error e=>E e s') s') E s:=by
  show wpAny _ A.in1 (Builtin.Builtins.bindParams "min" ["key","default"] 0 ⟨[],[("default",d)]⟩ >>= _) _ _ s;refine wT (wpAny_of_eq (show Builtin.Builtins.bindParams "min" ["key","default"] 0 ⟨[],[("default",d)]⟩=pure [none,some d] from rfl) ?_);refine wT (Cl ?_);refine wT (Ty h (fun it s₂ h₂=>?_) fun _ _ e=>e);obtain ⟨I,fp,wr,n,P,St,rfl,W,aU,En,hn,hQ⟩:=h₂;refine wT (_S ?_);have qC:s₂.heap.objs.size ∉ fp:=fun hm=>SZ _ (En _ hm);rw [Eb];refine Cl ⟨plainId_quiet _3 _,?_⟩;have jP:=W.frame _ _ _ aU (fun b _ o e=>xz { cls:=.type "list",data:=.seq ([]:List Value).toArray } e)
  match n,hn,W,hQ with
  | 0,_,W,hQ =>
   refine O1 W jP (FM _ rfl) fun h' tk hk=>?_;exact hQ d h' tk (.inl ⟨rfl,rfl⟩) fun b o hbw e=>hk b o hbw (xz _ e)
  | 1,_,W,hQ =>
   refine Tu W qC jP (FM _ rfl) fun v h' tk hP hk=>?_;exact hQ v h' tk (.inr ⟨rfl,hP⟩) fun b o hbw e=>hk b o hbw (GE (Fk e)) (xz _ e)
 have ha:=Wo x d;simp only [checkBuiltinCall,F.kind_min];cases hsig:Manifest.signature? "min" with
 | none=>exact Cl MY
 | some sig =>
  have ha':Bind.checkArgs "min" sig ⟨[x],[("default",d)]⟩=pure ():=by simpa only [argsOk,hsig] using ha
  simp only [ha'];exact Cl MY
end
def iz (h:Heap) (d:Addr) (es:Array DictEntry) (ep:Nat):Prop:=∃ o,h.get? d=some o/\o.ExactDict/\o.data=.dict es ep
def iz.at' {h h':Heap} {d:Addr} {es:Array DictEntry} {ep:Nat} (x:iz h d es ep) (k:∀ o,h.get? d=some o->h'.get? d=some o):iz h' d es ep:=let ⟨o,e,r⟩:=x; ⟨o,k o e,r⟩
section
variable {prog:Program} {w:World} {A:Around} {E:Value->Shared->Prop} {s:Shared} {es:Array DictEntry}
def iz.typeIs {d:Addr} {ep:Nat} (x:iz s.heap d es ep):s.TypeIs (.ref d) "dict" := let ⟨o,e,c,_⟩:=x; ⟨o,e,c.1⟩
def B0 {d:Addr} {ep:Nat} {Q:Value->Shared->Prop} (hd:(d == sysModules)=false) (hm:iz s.heap d es ep)
  (hQ:Q (.ref s.heap.objs.size) { s with heap:=s.heap.push { cls:=.type "dict_keyiterator",data:=.fields #[.ref d,.int 0 0,.int es.size 0,.int ep 0] } }) :
  wpAny (model prog w) A (pyIter (.ref d)) Q E s:=by
 obtain ⟨o,ho,hc,fb⟩:=id hm;have hT:=hm.typeIs;refine wpAny_pyIter_slot hT F.slot_dict_iter (_2 F.slot_dict_iter hT F.entry_dict_iter ?_ (F.args_dict_iter_1 _));unfold Builtin.«dict.__iter__» Builtin.Dict.dictSlotNone;refine wT (wT (wpAny_notOrdered_dict hT ?_));show wpAny _ _ (pure (Value.ref d)) _ _ s;refine Cl ?_;show wpAny _ _ (Builtin.Dict.showsAll d >>= _) _ _ s;unfold Builtin.Dict.showsAll;rw [Id (by rw [hd]; exact FS)];refine wT (Cl (wT (wpAny_dictEntries ho fb (wT (wpAny_dictEpoch ho fb ?_)))));refine wT (_S (Cl ⟨_,rfl,"dict_keyiterator",_,⟨_,FM _ rfl,rfl⟩,_N.lookup,?_⟩))
 simpa [rawInt] using hQ
def Il {it d:Addr} {i ep:Nat} {Q:Option Value->Shared->Prop} (hit:s.heap.IsKeyIter it d i es.size ep) (hm:iz s.heap d es ep)
  (h1:∀ bN:i < es.size,∀ h',h'.IsKeyIter it d (i+1) es.size ep->Heap.SameBut it s.heap h'->Q (some es[i].key) { s with heap:=h' })
  (h2:es.size<=i->A.handled=none/\∀ h',Heap.ExtBut it s.heap h'->Q none { s with heap:=h' }) :
  wpAny (model prog w) A (pyNext (.ref it)) Q E s:=by
 obtain ⟨o,ho,hc,hd⟩:=id hit;obtain ⟨od,yu,bF,xG⟩:=id hm;unfold pyNext;refine wT (JaG (wpAny_callSpecial?_slot (name:=Str.ofString "__next__") hit.typeIs _N
  (_2 _N hit.typeIs F.entry_dict_keyiterator_next ?_ (F.args_dict_keyiterator_next_1 _))))
 refine wT (Cl (wT (wT ?_)));refine wT (_H hit.typeIs (Cl ?_));refine wT (wpAny_fieldsOf ho hd ?_);simp only [show Builtin.Dict_items.ownsTuple "dict_keyiterator" = false by decide,P3,_i];show wpAny _ _ (if (Value.ref d == Value.none)=true then _ else _) _ _ s;rw [Id (show ¬ ((Value.ref d == Value.none)=true) from FS)];refine wT (Cl (wT (wpAny_dictEntries yu xG ?_)));rw [Id (by simp)];refine wT (Cl (wT (wpAny_dictEpoch yu xG ?_)));rw [Id (by simp)];refine Cl ?_;rcases Nat.lt_or_ge i es.size with bN | gE
 ·simp only [show ¬ ((i:Int) < 0) from by omega,_i,Int.toNat_natCast,Array.getElem?_eq_getElem bN];refine wT (wT (_H hit.typeIs (Cl ?_)));refine wT (wpAny_isOneOf_keyiter hit.typeIs ?_);show wpAny _ _ (setField (.ref it) 1 (rawInt ((i:Int)+1)) >>= _) _ _ s;refine wT (wpAny_setField ho hd (by simp) ?_);have hit':(s.heap.update it (Obj.mapFields (·.setIfInBounds 1 (rawInt ((i:Int)+1))))).IsKeyIter it d (i+1) es.size ep :=
   ⟨_,_b _ ho (Obj.isFreed_of_fields (JaD hd _)),(Obj.cls_mapFields ..).trans hc,by rw [JaD hd]; simp [rawInt]⟩
  refine wT (Rs (wT (wpAny_isOneOf_keyiter (s:={ s with heap:=s.heap.update it (Obj.mapFields (·.setIfInBounds 1 (rawInt ((i:Int)+1)))) }) hit'.typeIs ?_)));show wpAny _ _ (pure es[i].key) _ _ _;exact Cl (Cl ⟨_,rfl,Cl (h1 bN _ hit' (Heap.SameBut.update ..))⟩)
 ·obtain ⟨hh,hQ⟩:=h2 gE;simp only [show ¬ ((i:Int) < 0) from by omega,_i,Int.toNat_natCast,Array.getElem?_eq_none gE];refine wT (wT (_H hit.typeIs (Cl ?_)));show wpAny _ _ (setField (.ref it) 0 .none >>= _) _ _ s;refine wT (wpAny_setField ho hd (by simp) ?_);show wpAny _ _ (newExc (.type "StopIteration") [] >>= _) _ _ _;refine wT ?_;simp only [newExc,newTuple];refine wT (_S ?_ (by size_fits));refine wT (m:=firstArgMember _ _) (wpAny_of_eq (a:=Value.none) (by first | rfl | (simp only [firstArgMember]; rfl)) ?_);refine _S ?_ (by size_fits);simp only [raiseNew];refine wT (wpAny_handled ?_);rw [show A.in1.handled=none from hh];refine wT (Cl (wpAny_throw ?_));refine wT (wpAny_isInstance (T := "StopIteration") (b:=true) ⟨_,FM _ rfl,rfl⟩ isSubtype_stop ?_);exact Cl (hQ _ (((Heap.SameBut.update ..).extBut.push _).push _))
def AZ (hh:A.handled=none) (I d:Addr) (cQ:d≠I) (es:Array DictEntry) (ep:Nat) :
  Walks prog w A I [I,d] [I] es.size (fun i v=>∃ e,es[i]?=some e/\v=e.key) (fun i h=>h.IsKeyIter I d i es.size ep/\iz h d es ep) where
 sub:=fun b hb=>by simp at hb; simp [hb]
 frame:=fun _ _ _ st hk=>⟨st.1.at fun o e=>hk I (by simp) o e,st.2.at' fun o e=>hk d (by simp) o e⟩
 item:=fun i s Q E hi st hQ=>Il st.1 st.2 (fun bN h' hit' hs'=>hQ _ h' s.toks ⟨es[i],by simp [bN],rfl⟩ ⟨hit',st.2.at' fun o e=>hs'.extBut d o cQ e⟩ fun b o hb e=>hs'.extBut b o (fun h=>hb (by simp [h])) e) fun gE=>absurd hi (Nat.not_lt.mpr gE)
 done:=fun s Q E st hQ=>Il st.1 st.2 (fun bN=>absurd bN (SZ _)) fun _=>⟨hh,fun h' he'=>hQ h' s.toks fun b o hb e=>he' b o (fun h=>hb (by simp [h])) e⟩
 self:=fun _ _ _ _ st hQ=>wpAny_pyIter_keyiter st.1 hQ
end
section
variable {X:Cx}
def Cw (te:TE):TE:=fun σ H Q=>te σ H fun x H1=>∃ a kvs,x=.ref a/\H1 a=some (.dT kvs)/\((kvs=[]/\Q .au H1)\/∃ k v,kvs=[(k,v)]/\∀ p,H1 p=some (.tup (k.map kV))->Q (.ref p) H1)
def Y5 {e:Expr} {te:TE} {p p2 p3 pos:Pos} {j:Nat} (hc:X.calm=true) (hg:Gl X "min") (hm:X.mg "min" = none) (he:PE X e te) (hs:starEach [e] X.env=[(false,eval e X.env)]:=by rfl) :
  PE X (.Call (.Name "min" p) [e] [⟨some "default",.Constant .none j p2,p3⟩] pos) (Cw te):=by
 intro pins s σ H Q I h;refine SC (oj (u:=.builtin "min") I hg hm (by kernel_rfl) ?_);refine callWith_kw ?_ (by rw [hs]; rfl) (by rw [hs]; rfl);rw [hs];show wpAny _ _ (spliced ((false,eval e X.env)::backTo pos [])) _ _ s;refine _q (aC (he pins s σ H _ I h) fun u s1 ⟨x,H1,I1,rx,a,kvs,ex,hd,q⟩=>_w ?_);subst ex;cases (show u=Value.ref a from rx);refine kws_cons (Constant_none (kws_nil ?_));show wpAny _ _ (call (.builtin "min") [.ref a] [("default",.none)]) _ _ s1;obtain ⟨hz,hS,xs,hp,o,es,ep,ho,hex,fb,jQ,ES⟩:=id (I1.aA a _ hd);refine OY (B0 hS ⟨o,ho,hex,fb⟩ ?_);have bN:a < s1.heap.objs.size:=Fk ho;have hW:=AZ (prog:=X.prog) (w:=X.w) (A:=X.A.in1) (I1.ok.hd hc) s1.heap.objs.size a (GE bN) es ep;have yl:(s1.heap.push { cls:=.type "dict_keyiterator",data:=.fields #[.ref a,.int 0 0,.int es.size 0,.int ep 0] }).IsKeyIter s1.heap.objs.size a 0 es.size ep/\iz (s1.heap.push { cls:=.type "dict_keyiterator",data:=.fields #[.ref a,.int 0 0,.int es.size 0,.int ep 0] }) a es ep :=
  ⟨⟨_,FM _ rfl,rfl,rfl⟩,⟨o,xz _ ho,hex,fb⟩⟩
 have En:∀ b∈[s1.heap.objs.size,a],b < (s1.heap.push { cls:=.type "dict_keyiterator",data:=.fields #[.ref a,.int 0 0,.int es.size 0,.int ep 0] }).objs.size:=fun b hb=>by
  rw [_p];rcases AT.mp hb with e | hb
  ·rw [e]; exact WF _
  ·rw [KM.mp hb]; exact Ja8 bN
 have kp:∀ h':Heap,(∀ b o,b ∉ [s1.heap.objs.size]->(s1.heap.push { cls:=.type "dict_keyiterator",data:=.fields #[.ref a,.int 0 0,.int es.size 0,.int ep 0] }).get? b=some o->h'.get? b=some o)->∀ b o,s1.heap.get? b=some o->h'.get? b=some o:=fun h' k b o e =>
  k b o (fun z=>by have z':=KM.mp z; have:=Fk e; rw [z'] at this; exact SZ _ this) (xz _ e)
 have hsz:es.size=xs.length:=by rw [<- W1,jQ,At]
 refine ⟨_,_,_,_,_,_,rfl,hW,yl,En,?_,fun v h' tk hv hk=>?_⟩
 ·rcases q with ⟨rfl,_⟩ | ⟨k,v,rfl,_⟩
  ·cases hp; rw [hsz]; exact GT _
  ·cases hp with | cons _ t=>cases t; rw [hsz]; exact Ev _
 ·have I2:Inv X pins σ H1 { s1 with heap:=h',toks:=tk }:=I1.kept (t':=tk) (kp h' hk);rcases q with ⟨rfl,q⟩ | ⟨k,v',rfl,q⟩
  ·cases hp;rcases hv with ⟨_,rfl⟩ | ⟨h1,_⟩
   ·exact ⟨.au,H1,I2,rfl,q⟩
   ·rw [hsz] at h1; cases h1
  ·cases hp with
   | @cons _ y _ _ hh t =>
    cases t;rcases hv with ⟨h1,_⟩ | ⟨_,e,he,rfl⟩
    ·rw [hsz] at h1; cases h1
    ·rw [<- ZB,jQ] at he;cases he;exact ⟨.ref y.2.1,H1,I2,rfl,q _ hh.2.1⟩
end
def bS {f:Str} {v:V} {fs:List (Str×V)} {m:Nat} (h:fs.length<=m):(ay f v fs).length<=m+1:=Gc (zh f v fs) (Jai h)
def c7 (fs gs:List (Str×V)):Prop:=∀ f,fs.lookup f=gs.lookup f
def c7.refl (fs:List (Str×V)):c7 fs fs:=fun _=>rfl
def c7.put {fs gs:List (Str×V)} (h:c7 fs gs) (f:Str) (v:V):c7 (ay f v fs) (ay f v gs):=fun g=>by rw [eD,eD,h g]
section
variable {X:Cx}
def Jh {pins:List (Addr×Obj)} {σ:St} {H:Hp} {s:Shared} {Q:VK} {p:Addr} (hc:X.calm=true) (I:Inv X pins σ H s) (hd:H p=some (.dT [])) (q:∀ l,H l=none->Q (.ref l) (upd H l (.lst []))) :
  wpAny (model X.prog X.w) X.A (call (.builtin "sorted") [.ref p]) (EP X pins σ Q) X.xe s:=by
 obtain ⟨hz,hS,xs,hp,o,es,ep,ho,hex,fb,jQ,ES⟩:=id (I.aA p _ hd);cases hp;have he:es=#[]:=by
  have:es.toList=[]:=jQ;exact Array.toList_eq_nil_iff.mp this
 subst he;have uT:s.heap.DictAt (eI X.prog X.w) p [] ep:=⟨o,#[],ho,hex,fb,fun e z=>absurd z (by simp),.nil,.nil⟩;refine _4 kind_sorted plain_sorted entry_sorted (args_sorted1 _) ?_;unfold Builtin.«sorted»;refine wT (m:=checkCount "sorted" 1 1 _) (Cl ?_);refine wT (Jav (A:=X.A.in1) (PySem.W.kdl_dict (knd:=eI X.prog X.w) (kvs:=[]) (ep:=ep) hS) (I.ok.hd hc) uT (GT _) fun h' tk acc hk' fe=>?_);have ha:acc=#[]:=Array.eq_empty_of_size_eq_zero fe.1;subst ha;refine wT (JaH ?_ (GT _));have gS:(h'.push (seqObj "list" ([]:List Value).toArray 0)).get? h'.objs.size=some (seqObj "list" ([]:List Value).toArray 0):=FM _ rfl;refine wT (Rs (_2 slot_list_sort ⟨_,gS,rfl⟩ entry_list_sort (list_sort_treeK strKind_oneLt (vs:=[]) gS (StrsAre.nil).keysOf (fun v₁ v₂ rest e=>nomatch e) (by decide) fun st' a1 a2=>⟨_,rfl,?_⟩) (args_list_sort _)));refine Cl ⟨_,rfl,?_⟩;obtain ⟨e,he⟩:=sortedHeap_at (out:=(arrOf st').map (·.2)) gS;have aU:arrOf st'=#[]:=Array.eq_empty_of_size_eq_zero (a1.size_eq.trans (pairsOf_size []));rw [aU,Array.map_empty] at he;have I1:Inv X pins σ H { s with heap:=h',toks:=tk }:=I.kept (t':=tk) hk';rw [aU,Array.map_empty];refine ⟨.ref h'.objs.size,_,I1.laid (t':=tk) (fun b o z=>?_) (Ev _) (show bI X.prog X.w _ _ _ (.lst []) from ⟨GT _,[],e,.nil,he⟩),rfl,q _ (I1.aA.fresh (Ev _))⟩;have hb:b < h'.objs.size:=Fk z;rw [sortedHeap_old (GE hb) (by have:=_p h' (seqObj "list" ([]:List Value).toArray 0); rw [this]; exact Ja8 hb)];exact xz _ z
def Td (K:PySem.W.Frag):List V->Hp->VK->Prop:=fun xs H Q=>JQ K xs H Q\/Jp xs H Q\/∃ p,xs=[.ref p]/\H p=some (.dT [])/\∀ l,H l=none->Q (.ref l) (upd H l (.lst []))
def Sd {K:PySem.W.Frag} (h:X.K=K) (hc:X.calm=true):cA X (.builtin "sorted") (Td K):=by
 subst h;intro pins s σ H xs us Q I r h;rcases h with h | h | ⟨p,rfl,hd,q⟩
 ·exact U7 pins s σ H xs us Q I r h
 ·exact U5 hc pins s σ H xs us Q I r h
 ·obtain ⟨u,rfl,rx⟩:=vals1 r;cases rx;exact Jh hc I hd q
def Ka:bootBuiltins "sorted" = some (.builtin "sorted"):=by kernel_rfl
def Dv.minD {e:Expr} {te:TE} {p p2 p3 pos:Pos} {j:Nat} (hc:X.calm=true) (hm:X.mg "min" = none) (he:QE X e te) (hg:Gl X "min" := by rfl) (hs:starEach [e] X.env=[(false,eval e X.env)]:=by rfl) :
  QE X (.Call (.Name "min" p) [e] [⟨some "default",.Constant .none j p2,p3⟩] pos) (Cw te):=⟨Y5 hc hg hm he.h hs⟩
end
structure kH (K:PySem.W.Frag) (x qual:Str) (st:Stmt) (f:Addr) (fd:FuncData) (ds:List Value):Prop where
 ex:∃ (oc:Value) (od:Option Addr) (dt:Addr) (kV doc pm:Value) (an:Option Addr) (ag ct:Value) (cZ:Array (Option Value)) (o:Obj) (n:Nat),
  fd=PySem.W.fnOf x qual (eN st) (aV st) (ax st) (.ref dt) kV doc pm an ag ct/\K.lookup f=some ⟨oc,od,.func fd,cZ⟩/\PySem.W.codeIn K ag qual=true/\K.lookup dt=some o/\o.data=.seq ds.toArray n
 kp:PySem.W.keepIn K (.ref f)=true
section
variable {P:Program} {w:World} {K:PySem.W.Frag} {mg:Str->Option Value} {base:Heap} {CX:dH} {x qual:Str} {st:Stmt} {f:Addr} {fd:FuncData} {N ps:List Str} {k:Nat} {ds:List Value}
def kH.eg {sp:Sp} (F:kH K x qual st f fd ds) (S:aE N ps (ax st)) (len:∀ vs H Q E,sp vs H Q E->vs.length=ps.length)
  (hb:∀ (ag:Value) (A:Around) (outer:List Env) (s:Shared) (H:Hp) (vs:List V) (Q:VK) (E:XK),aZ k (A.deeper (envOfC qual (ax st) s.heap.objs.size f ag))->sp vs H Q E ->
   ∃ t,cX (bT CX P w K mg base N qual (ax st) f ag A outer s H E) (aV st) t/\t { nx:=fun _ H'=>Q .au H',rt:=Q } (start N vs) H):aB P w K mg base CX (k+1) f fd ps sp:=by
 obtain ⟨oc,od,dt,kV,doc,pm,an,ag,ct,cZ,o,n,rfl,lk,bF,_⟩:=F.ex;exact wQ lk bF S len fun A outer s H vs Q E hr c8=>hb ag A outer s H vs Q E hr c8
def kH.ok {sp:Sp} (F:kH K x qual st f fd ds) (S:aE N ps (ax st)) (len:∀ vs H Q E,sp vs H Q E->vs.length=ps.length)
  (hb:∀ (ag:Value) (A:Around) (outer:List Env) (s:Shared) (H:Hp) (vs:List V) (Q:VK) (E:XK),aZ k (A.deeper (envOfC qual (ax st) s.heap.objs.size f ag))->sp vs H Q E ->
   ∃ t,cX (bT aI P w K mg base N qual (ax st) f ag A outer s H E).pS (aV st) t/\t { nx:=fun _ H'=>Q .au H',rt:=Q } (start N vs) H):aB P w K mg base aI (k+1) f fd ps sp :=
 F.eg S len fun ag A outer s H vs Q E hr c8=>by
  obtain ⟨t,h,q⟩:=hb ag A outer s H vs Q E hr c8;exact ⟨t,h.pS,q⟩
def WI {oc:Value} {od an:Option Addr} {cZ:Array (Option Value)} {kV doc pm ag ct:Value} {dt:Addr} {o:Obj} {n:Nat} (l:K.lookup f=some ⟨oc,od,.func (PySem.W.fnOf x qual (eN st) (aV st) (ax st) (.ref dt) kV doc pm an ag ct),cZ⟩)
  (c:PySem.W.codeIn K ag qual=true) (k:PySem.W.keepIn K (.ref f)=true) (ld:K.lookup dt=some o) (hd:o.data=.seq ds.toArray n):kH K x qual st f (PySem.W.fnOf x qual (eN st) (aV st) (ax st) (.ref dt) kV doc pm an ag ct) ds :=
 ⟨⟨oc,od,dt,kV,doc,pm,an,ag,ct,cZ,o,n,rfl,l,c,ld,hd⟩,k⟩
def fv.Sa {sp:wc} (F:fv K x qual st f fd) (S:aE N ps (ax st)) (len:∀ outer s vs H Q E,sp outer s vs H Q E->vs.length=ps.length)
  (hb:∀ (ag:Value) (A:Around) (outer:List Env) (s:Shared) (H:Hp) (vs:List V) (Q:VK) (E:XK),aZ k (A.deeper (envOfC qual (ax st) s.heap.objs.size f ag))->sp outer s vs H Q E ->
   ∃ t,cX (bT CX P w K mg base N qual (ax st) f ag A outer s H E) (aV st) t/\t { nx:=fun _ H'=>Q .au H',rt:=Q } (start N vs) H):sW P w K mg base CX (k+1) f fd ps sp:=by
 obtain ⟨oc,od,kV,doc,pm,an,ag,ct,cZ,rfl,lk,bF⟩:=F.ex;exact U6 lk bF S len fun A outer s H vs Q E hr c8=>hb ag A outer s H vs Q E hr c8
end
section
variable {X:Cx}
def Dv.cK (i:Nat) {k:Nat} {x:Str} {p pos:Pos} {B:Addr->Prop} {f:Addr} {cb:Hp->VK->XK->Prop} {R:St->XK} (D:lX X.prog X.w X.K X.mg X.base k X.s₀ B f cb) (hB:wx X.outer X.H₀ X.s₀ B) (hf:Bz X.s₀ f) (gj:B f) (hr:aZ k X.A) (hx:gR X R)
  (hex:X.ex=[]:=by rfl) (hN:X.N[i]?=some x:=by rfl) (hv:mW X.env.scope x:=by first | exact Or.inl rfl | exact Or.inr (Or.inl rfl) | exact Or.inr (Or.inr rfl))
  (hd:(x == ("__debug__" : Str))=false:=by decide) (bF:(x == ("__classdict__" : Str))=false:=by decide):QE X (.Call (.Name x p) [] [] pos) (zd i f cb R):=⟨YV hN hv D hB hf gj hex hr hx hd bF⟩
end
def dC {X:Cx}:gR X (fun _=>E0) where
 pass:=fun pins σ H s e s' I hc=>by
  obtain ⟨ea,C,od,H',rfl,F,hE⟩:=hc;exact hE.elim
section
variable {X:Cx}
def Dv.kL {P:Addr} {q:Str} {ix:List Nat} {W:List V->eF} {lG:eF->eF} {R:St->XK} {params:Arguments} {body:Expr} {scope:Scope} {cD:List (Str×Addr)} {N':List Str} {fc p pos:Pos} {x y:Str} {g:Addr} {fd:FuncData} {k k':Nat}
  (F:sW X.prog X.w X.K X.mg X.base (bj X.prog X.w) k' g fd [y] (B3 X.prog X.w X.K X.mg X.base (k+1) lG)) (hr:aZ k' X.A) (hm:X.mg x=some (.ref g)) (hk:PySem.W.keepIn X.K (.ref g)=true) (hb:Binds X.K fd [y] []) (hx:gR X R)
  (iW:∀ (f:Addr) (ag:Value) (vs:List V) (A:Around) (outer:List Env) (s:Shared) (H:Hp) (Q:VK) (E:XK),aZ k (A.deeper (PySem.W.envX q scope s.heap.objs.size f ag cD))->W vs H Q E ->
   ∃ t,PE (lZ X.prog X.w X.K X.mg X.base N' q scope f ag cD A outer s H E) body t/\t (vs.map some) H Q)
  (L:ic X P params scope cD q) (S:gp N' scope cD) (C:gL X N' ix cD)
  (oK:∀ pm cd ct,bindArgs (PySem.W.kla_fn "<lambda>" q params body scope cD pm cd ct) ⟨[],[]⟩=pure []:=by exact fun _ _ _=>rfl) (hg:Gl X x:=by rfl)
  (bM:(x == ("__debug__" : Str))=false:=by decide):QE X (.Call (.Name x p) [.Lambda params body scope fc] [] pos) (Dh P q ix W lG R):=⟨WU L S C F hr hg hm hk hb hx oK iW bM⟩
end
def eS {α:Type} (p:α->Prop):List α->Prop
 | []=>True
 | a::r=>p a/\eS p r
def eS.mem {α:Type} {p:α->Prop}:∀ {l:List α},eS p l->∀ a∈l,p a
 | _::_,h,a,ha=>by
  rcases AT.mp ha with rfl | ha
  ·exact h.1
  ·exact eS.mem h.2 a ha
def V5:∀ {cl:List (Str×Addr)},(cl.map (·.2)).Nodup->∀ x y c,cl.lookup x=some c->cl.lookup y=some c->x=y:=by
 intro cl nd x y c h1 h2;have m1:=Pi h1;have m2:=Pi h2
 induction cl with
 | nil=>cases m1
 | cons e r ih =>
  have nd':=KK.mp (show (e.2::r.map (·.2)).Nodup from nd);rcases AT.mp m1 with e1 | e1 <;> rcases AT.mp m2 with e2 | e2
  ·rw [<- e1] at e2; exact (UF Prod.fst e2).symm
  ·exact absurd (LE.mpr ⟨_,e2,by rw [<- e1]⟩) nd'.1
  ·exact absurd (LE.mpr ⟨_,e1,by rw [<- e2]⟩) nd'.1
  ·have go:∀ {l:List (Str×Addr)},(l.map (·.2)).Nodup->(x,c)∈l->(y,c)∈l->x=y:=by
    intro l
    induction l with
    | nil=>intro _ a; cases a
    | cons e r ih =>
     intro nd a b;have nd':=KK.mp (show (e.2::r.map (·.2)).Nodup from nd);rcases AT.mp a with e1 | e1 <;> rcases AT.mp b with e2 | e2
     ·rw [<- e1] at e2; exact (UF Prod.fst e2).symm
     ·exact absurd (LE.mpr ⟨_,e2,by rw [<- e1]⟩) nd'.1
     ·exact absurd (LE.mpr ⟨_,e1,by rw [<- e2]⟩) nd'.1
     ·exact ih nd'.2 e1 e2
   exact go nd'.2 e1 e2
def gp.of {N:List Str} {scope:Scope} {cl:List (Str×Addr)} (kind:scope.kind=.function) (co:scope.isCoroutine=false) (gen:scope.isGenerator=false) (sO:scope.names.all (fun x=>x.2 != .cell)=true)
  (free:N.all (fun x=>scope.names.lookup x == some .free)=true) (has:eS (fun e:Str×NameKind=>e.2=.free->∃ c,cl.lookup e.1=some c) scope.names) (nd:(cl.map (·.2)).Nodup):gp N scope cl where
 kind:=kind
 co:=co
 gen:=gen
 sO:=fun x hx=>by simpa using GM.mp sO x hx
 free:=fun x hx=>by simpa using GM.mp free x hx
 has:=fun x hx=>eS.mem has _ (Pi hx) rfl
 inj:=V5 nd
def gL.of {X:Cx} {N':List Str} {ix:List Nat} {cD:List (Str×Addr)} (len:ix.length=N'.length) (own:X.fn=fun _=>true)
  (at':eS (fun e:Nat×Str=>X.N[e.1]?=some e.2/\X.env.scope.names.lookup e.2=some .cell/\cD.lookup e.2=X.env.cells.lookup e.2) (ix.zip N'))
  (hX:eS (fun e:Str×Addr=>X.env.cells.lookup e.1=some e.2) cD):gL X N' ix cD where
 len:=len
 at':=fun i j h=>by
  have hi:=(Do.mp h).1;have hi':i < N'.length:=len ▸ hi;have hm:(j,N'[i])∈ix.zip N':=by
   refine Jaf.mpr ⟨i,?_⟩;rw [_5];exact ⟨h,Db hi'⟩
  have z:=eS.mem at' _ hm;exact ⟨N'[i],Db hi',z.1,z.2.1⟩
 hX:=fun x c h=>eS.mem hX _ (Pi h)
 Gz:=fun x hx=>by
  obtain ⟨i,hi,rfl⟩:=_z hx;have hi':i < ix.length:=len ▸ hi;have hm:(ix[i],N'[i])∈ix.zip N':=by
   refine Jaf.mpr ⟨i,?_⟩;rw [_5];exact ⟨Db hi',Db hi⟩
  exact (eS.mem at' _ hm).2.2
 own:=fun _ _ _=>by rw [own]
def fv.BL {P:Program} {w:World} {K:PySem.W.Frag} {mg:Str->Option Value} {base:Heap} {CX:dH} {x qual:Str} {st:Stmt} {f:Addr} {fd:FuncData} {N ps:List Str} {k:Nat} {sp:Sp} (F:fv K x qual st f fd) (S:aE N ps (ax st)) (len:∀ vs H Q E,sp vs H Q E->vs.length=ps.length)
  (hb:∀ (ag:Value) (A:Around) (outer:List Env) (s:Shared) (H:Hp) (vs:List V) (Q:VK) (E:XK),fd.code=ag->aZ k (A.deeper (envOfC qual (ax st) s.heap.objs.size f ag))->sp vs H Q E ->
   ∃ t,cX (bT CX P w K mg base N qual (ax st) f ag A outer s H E) (aV st) t/\t { nx:=fun _ H'=>Q .au H',rt:=Q } (start N vs) H):aB P w K mg base CX (k+1) f fd ps sp:=by
 obtain ⟨oc,od,kV,doc,pm,an,ag,ct,cZ,rfl,lk,bF⟩:=F.ex;exact wQ lk bF S len fun A outer s H vs Q E hr c8=>hb ag A outer s H vs Q E rfl hr c8
section
variable {X:Cx}
def vm {pins:List (Addr×Obj)} {σ:St} {H:Hp} {s:Shared} {A:Around} {a b:Addr} {xs ys:List V} (I:Inv X pins σ H s) (ha:aD X.K H a xs) (hb:aD X.K H b ys) (h0:xs=[]\/ys=[]) (hu:A.units < cLine) :
  SeqAt.RcAt A s (.ref a) (.ref b) (decide (xs=ys))/\SeqAt.RcNeAt A s (.ref a) (.ref b) (!decide (xs=ys)):=by
 obtain ⟨i1,r1,p1,_⟩:=I.list ha;obtain ⟨i2,r2,p2,_⟩:=I.list hb;have n1:i1.toArray.size=xs.length:=by rw [Fr,<- r1.length]
 have n2:i2.toArray.size=ys.length:=by rw [Fr,<- r2.length]
 by_cases h:xs.length=ys.length
 ·have e1:xs=[]:=by
   rcases h0 with e | e
   ·exact e
   ·rw [e] at h; exact _E.mp h
  have e2:ys=[]:=by rw [e1] at h; exact _E.mp h.symm
  subst e1 e2;have hsz:i1.toArray.size=i2.toArray.size:=by rw [n1,n2]
  have hz:i1.toArray.size=0:=n1;have k1:=SeqAt.RcAt.lists (A:=A) (s:=s) (e:=fun _=>true) p1.isList p2.isList hsz hu (fun j g1 g2=>absurd g1 (by rw [hz]; exact Nat.not_lt_zero _));have k2:=SeqAt.RcNeAt.lists (A:=A) (s:=s) (e:=fun _=>true) p1.isList p2.isList hsz hu (fun j g1 g2=>absurd g1 (by rw [hz]; exact Nat.not_lt_zero _));rw [hz] at k1 k2;exact ⟨k1,k2⟩
 ·have hsz:(i1.toArray.size != i2.toArray.size)=true:=by rw [n1,n2]; simpa using h
  have e:decide (xs=ys)=false:=Ch fun z=>h (by rw [z]);rw [e];exact ⟨SeqAt.RcAt.lists_lengths p1.isList p2.isList hsz hu,SeqAt.RcNeAt.lists_lengths p1.isList p2.isList hsz hu⟩
def qf (K:PySem.W.Frag) (neg:Bool):R2:=fun x y H Q=>match x,y with
 | .ref a,.ref b=>∃ xs ys:List V,aD K H a xs/\aD K H b ys/\((ys=[]/\Q (.bl (neg ^^ xs.isEmpty)) H)\/(xs=[]/\Q (.bl (neg ^^ ys.isEmpty)) H))
 | _,_=>False
def J8 {xs ys:List V} (h:ys=[]):decide (xs=ys)=xs.isEmpty:=by subst h; cases xs <;> simp
def GC {xs ys:List V} (h:xs=[]):decide (xs=ys)=ys.isEmpty:=by subst h; cases ys <;> simp
def aaD {K:PySem.W.Frag} (hK:X.K=K) (hu:X.A.units < cLine):aY X (compareOp .Eq) (qf K false):=by
 subst hK;intro pins s σ H x y v u Q I rx ry h;unfold qf at h;split at h
 ·obtain ⟨xs,ys,ha,hb,q⟩:=h;cases rx; cases ry;simp only [Bool.false_bne] at q;rcases q with ⟨e,q⟩ | ⟨e,q⟩
  ·exact (vm I ha hb (.inr e) hu).1 _ _ _ _ ⟨.bl _,H,I,rfl,by rw [J8 e]; exact q⟩
  ·exact (vm I ha hb (.inl e) hu).1 _ _ _ _ ⟨.bl _,H,I,rfl,by rw [GC e]; exact q⟩
 ·exact h.elim
def Zi {K:PySem.W.Frag} (hK:X.K=K) (hu:X.A.units < cLine):aY X (compareOp .NotEq) (qf K true):=by
 subst hK;intro pins s σ H x y v u Q I rx ry h;unfold qf at h;split at h
 ·obtain ⟨xs,ys,ha,hb,q⟩:=h;cases rx; cases ry;simp only [Bool.true_bne] at q;rcases q with ⟨e,q⟩ | ⟨e,q⟩
  ·exact (vm I ha hb (.inr e) hu).2 _ _ _ _ ⟨.bl _,H,I,rfl,by rw [J8 e]; exact q⟩
  ·exact (vm I ha hb (.inl e) hu).2 _ _ _ _ ⟨.bl _,H,I,rfl,by rw [GC e]; exact q⟩
 ·exact h.elim
def Av:V->List V->Hp->VK->Prop:=fun x vs H Q=>match x,vs with
 | .ref l,[]=>∃ xs y,H l=some (.lst (xs++[y]))/\Q y (upd H l (.lst xs))
 | _,_=>False
def GI:dg X "list.pop" Av:=dg.imp (r:=JM) Uc fun x vs H Q h=>by
 unfold Av at h;split at h
 ·obtain ⟨xs,y,hl,q⟩:=h;refine ⟨_,xs++[y],y,rfl,rfl,hl,?_,?_⟩
  ·simp
  ·rw [List.dropLast_concat]; exact q
 ·exact h.elim
def yJ:V->List V->Hp->VK->Prop:=fun x vs H Q=>match x,vs with
 | .ref l,[]=>∃ xs,H l=some (.lst xs)/\Q .au (upd H l (.lst []))
 | _,_=>False
def YD:dg X "list.clear" yJ:=dg.imp (r:=Ic) XW fun x vs H Q h=>by
 unfold yJ at h;split at h
 ·obtain ⟨xs,hl,q⟩:=h;exact ⟨_,xs,rfl,rfl,hl,q⟩
 ·exact h.elim
def RA:List V->Hp->VK->Prop:=fun xs H Q=>∃ p kvs,xs=[.ref p]/\H p=some (.dT kvs)/\∀ l (ks:List Addr),ks.length=kvs.length->(∀ (i:Nat) (a:Addr) (k:List Key) (v:V),ks[i]?=some a->kvs[i]?=some (k,v)->H a=some (.tup (k.map kV)))->H l=none ->
 Q (.ref l) (upd H l (.lst (ks.map V.ref)))
end
def Zx {prog:Program} {w:World} {d:Addr} {es:Array DictEntry} {ep:Nat} (lo:(d == sysModules)=false):PySem.W.KdlSrc prog w "dict" d d es.size (fun i v=>∃ e,es[i]?=some e/\v=e.key) (fun h=>iz h d es ep) where
 type:=fun _ hm=>hm.typeIs
 there:=fun _ hm=>let ⟨_,e,_⟩:=hm; ⟨Fk e,Fk e⟩
 keep:=fun _ _ hm hk=>hm.at' fun o e=>hk d (.inl rfl) o e
 notList:=by decide
 notTuple:=by decide
 hint:=fun _ _ _ _ hm hq=>PySem.W.kdl_hint_dict hm.typeIs hq
 iter:=fun _ _ hh hm=>⟨_,_,(fun _ _ hq=>B0 lo hm hq),AZ hh _ d (let ⟨_,e,_⟩:=hm; GE (Fk e)) es ep,⟨⟨_,FM _ rfl,rfl,rfl⟩,hm.at' fun o e=>xz _ e⟩⟩
def Jq {α β:Type} {F:α->β->Prop}:∀ {l₁:List α} {l₂:List β},Paired F l₁ l₂->∀ {i:Nat} {a:α} {b:β},l₁[i]?=some a->l₂[i]?=some b->F a b
 | _,_,.cons h _,0,_,_,e1,e2=>by cases e1; cases e2; exact h
 | _,_,.cons _ t,i+1,_,_,e1,e2=>Jq t e1 e2
section
variable {X:Cx}
def yY:∀ {vs:List V} {us:List Value},vs.length=us.length->(∀ (i:Nat) (v:V) (u:Value),vs[i]?=some v->us[i]?=some u->RelV v u)->Vals vs us
 | [],[],_,_=>.nil
 | v::vs,u::us,e,h=>.cons (h 0 v u rfl rfl) (yY (by simpa using e) fun i v u h1 h2=>h (i+1) v u h1 h2)
def XZ (hc:X.calm=true):cA X (.type "list") RA:=by
 intro pins s σ H xs us Q I r h;obtain ⟨p,kvs,rfl,hd,q⟩:=h;obtain ⟨u,rfl,rx⟩:=vals1 r;cases rx;obtain ⟨hz,hS,ys,hp,o,es,ep,ho,hex,fb,jQ,ES⟩:=id (I.aA p _ hd);have hsz:es.size=ys.length:=by rw [<- W1,jQ,At]
 have lU:kvs.length=ys.length:=hp.length;refine PySem.W.kdl_call (Zx (prog:=X.prog) (w:=X.w) (ep:=ep) (es:=es) hS) (I.ok.hd hc) ⟨o,ho,hex,fb⟩ (by rw [hsz,<- lU]; exact hz) fun h' tk acc c hk hD fe=>?_;have hal:acc.toList.length=ys.length:=by rw [W1,fe.1,hsz]
 have hv:Vals ((ys.map (·.2.1)).map V.ref) acc.toList:=by
  refine yY (by simp [hal]) fun i v u h1 h2=>?_;obtain ⟨e,he,rfl⟩:=fe.2 i u (by rw [<- ZB]; exact h2);rw [<- ZB,jQ,Op] at he;rw [_m,Op] at h1;cases hy:ys[i]? with
  | none=>rw [hy] at h1; cases h1
  | some y =>
   rw [hy] at h1 he;cases h1; cases he;exact rfl
 refine ⟨.ref s.heap.objs.size,_,I.laid (t':=tk) hk (Ev _) (show bI X.prog X.w _ _ _ (.lst ((ys.map (·.2.1)).map V.ref)) from ⟨?_,_,c,hv,?_⟩),rfl,q _ (ys.map (·.2.1)) ?_ (fun i a k v h1 h2=>?_) (I.aA.fresh (Ev _))⟩
 ·simp only [At]; rw [<- lU]; exact hz
 ·rw [Jam]; exact hD
 ·rw [At,lU]
 ·rw [Op] at h1;cases hy:ys[i]? with
  | none=>rw [hy] at h1; cases h1
  | some y =>
   rw [hy] at h1;cases h1;have z:=Jq hp h2 hy;exact z.2.1
end
def Z2:typeLookup (.type "list_reverseiterator") "__len__" = pure none:=by rw [typeLookup_type,builtinLookup_eq_fast]; kernel_rfl
def aaK:typeLookup (.type "list_reverseiterator") "__length_hint__" = pure (some (.builtin "list_reverseiterator.__length_hint__")):=by rw [typeLookup_type,builtinLookup_eq_fast]; kernel_rfl
section
variable {prog:Program} {w:World} {A:Around} {E:Value->Shared->Prop} {s:Shared} {I:Addr}
def Uw {Q:Bool->Shared->Prop} (hT:s.TypeIs (.ref I) "list_reverseiterator") (h:Q false s):wpAny (model prog w) A (Builtin.List.listLengthHint (.ref I)) Q E s:=by
 unfold Builtin.List.listLengthHint;refine wT (wpAny_specialOf hT Z2 ?_);show wpAny _ A (specialOf (Value.ref I) (Str.ofString "__length_hint__") >>= _) _ _ _;refine wT (wpAny_specialOf hT aaK ?_);generalize hid:("list_reverseiterator.__length_hint__" : String)=id0
 wp_delta
 rw [show splitId id0=some ("list_reverseiterator","__length_hint__") from by subst hid; decide +kernel];subst hid;refine wT (wpAny_isInstance (T := "list_reverseiterator") (b:=true) hT (by rw [isSubtype_type]; kernel_rfl) ?_);refine Jaq (fun ff=>absurd ff (by decide)) (fun _=>?_);refine Jaq (fun _=>?_) (fun ff=>absurd (by decide +kernel) ff);refine Jaq (fun ff=>absurd ff (by decide +kernel)) (fun _=>?_);exact Cl h
def Wr {R:Result->Shared->Prop} {l S:Addr} {items:Array Value} {res:Value} {c₀:Nat} (hh:A.handled=none) (hit:s.heap.IsRevIter I l ((items.size:Int) - 1)) (hl:s.heap.IsList l items) (cQ:l≠I) (Nw:S≠I) (hSl:S≠l) (hn:items.size<=sizeLine)
  (hS:s.heap.get? S=some { cls:=.type "list",data:=.seq #[] c₀ })
  (hR:∀ h' tk acc' c',(∀ b o,b≠S->b≠I->s.heap.get? b=some o->h'.get? b=some o)->h'.get? S=some { cls:=.type "list",dict:=none,data:=.seq acc' c',slots:=#[] }->ItemsOf (fun i v=>items[items.size - 1 - i]?=some v) acc' items.size->R (.ok (.ret res)) { s with heap:=h',toks:=tk }) :
  wpAny (model prog w) A.in1 (Builtin.List.listExtendWith (.ref S) (.ref I) res)
   (fun fin s'=>match fin with | .done f=>R (.ok f) s' | .again c'=>c'.quiet=true/\codeAny (model prog w) A c' R s') (fun e s'=>R (.error e) s') s:=by
 have W:=Walks.listRev (prog:=prog) (w:=w) (A:=A.in1) hh I l cQ items;have qC:S ∉ [I,l]:=by simp only [AT,EQ,KB,_P]; exact ⟨Nw,hSl⟩
 have yl:0<=items.size/\s.heap.IsRevIter I l ((items.size:Int) - 1 - ((0:Nat):Int))/\s.heap.IsList l items:=⟨GT _,by simpa using hit,hl⟩;unfold Builtin.List.listExtendWith;refine wT (wpAny_typeOf hit.typeIs ?_);have h1:Builtin.List.listSameRef (.ref S) (.ref I)=false:=by simp [Builtin.List.listSameRef,Nw]
 simp only [h1,show (Value.type "list_reverseiterator" == Value.type "list")=false by decide,show (Value.type "list_reverseiterator" == Value.type "tuple")=false by decide,_6,P3,_i];refine wT (W.self 0 _ _ _ yl ?_);refine wT (Rs (Uw hit.typeIs ?_));refine Jaq (fun h=>absurd h (by decide)) (fun _=>Cl ⟨plainId_quiet PySem.F.plain_extend_loop _,?_⟩);refine codeAny_extend_loopS W.toS hn S qC res items.size 0 _ #[] c₀ rfl (GT _) yl hS (ItemsOf.nil _) fun s' acc' c' hm hS' fe=>?_;rw [Moved.eq_with hm];refine hR s'.heap s'.toks acc' c' (fun b o hb hb' e=>hm.heap b o (fun hmem=>?_) e) hS' fe;rcases AT.mp hmem with e' | hmem
 ·exact hb e'
 ·exact hb' (KM.mp hmem)
def Sv {Q:Value->Shared->Prop} {l:Addr} {items:Array Value} (hh:A.handled=none) (hit:s.heap.IsRevIter I l ((items.size:Int) - 1)) (hl:s.heap.IsList l items) (cQ:l≠I) (hn:items.size<=sizeLine)
  (hQ:∀ h' tk acc' c',(∀ b o,b≠I->s.heap.get? b=some o->h'.get? b=some o)->h'.get? s.heap.objs.size=some { cls:=.type "list",dict:=none,data:=.seq acc' c',slots:=#[] }->ItemsOf (fun i v=>items[items.size - 1 - i]?=some v) acc' items.size ->
   Q (.ref s.heap.objs.size) { s with heap:=h',toks:=tk }):wpAny (model prog w) A (call (.type "list") [.ref I]) Q E s:=by
 have hIlt:I < s.heap.objs.size:=let ⟨_,e,_⟩:=hit; Fk e
 have hllt:l < s.heap.objs.size:=let ⟨_,e,_⟩:=hl; Fk e
 refine callType_codes (Q₁:=fun obj s₁=>obj=.ref s.heap.objs.size/\s₁={ s with heap:=s.heap.push { cls:=.type "list",data:=.seq #[] } }) PySem.F.called_list (PySem.F.typeCall_list_1 _) PySem.F.entry_list_init
  (code_list_new _ ⟨rfl,rfl⟩) fun obj s₁ h₁=>?_
 obtain ⟨rfl,rfl⟩:=h₁;have hS:(s.heap.push { cls:=.type "list",data:=.seq #[] }).get? s.heap.objs.size=some { cls:=.type "list",data:=.seq #[] }:=FM _ rfl;refine ⟨⟨_,hS,rfl⟩,PySem.F.args_list_init_2 _ _,?_⟩;show wpAny _ _ (do let old <- Builtin.List.listItems (.ref s.heap.objs.size); Builtin.List.listUpdate (.ref s.heap.objs.size) (fun _=>#[]); letGo old.toList.reverse; Builtin.List.listExtendWith (.ref s.heap.objs.size) (.ref I) .none) _ _ _;refine wT ?_;unfold Builtin.List.listItems;refine wT (JaF hS rfl (Cl ?_));show wpAny _ _ (updateSeq s.heap.objs.size (fun _=>#[]) >>= fun _=>letGo (#[]:Array Value).toList.reverse >>= fun _=>Builtin.List.listExtendWith (.ref s.heap.objs.size) (.ref I) .none) _ _ _;refine wT (wpAny_updateSeq hS rfl ?_);have hS₂:=_b (Obj.mapSeq (fun _=>(#[]:Array Value))) hS rfl;have Ff:∀ b o,s.heap.get? b=some o->((s.heap.push { cls:=.type "list",data:=.seq #[] }).update s.heap.objs.size (Obj.mapSeq (fun _=>(#[]:Array Value)))).get? b=some o :=
  fun b o e=>(ST _ _ (Jay (Fk e))).trans (xz _ e)
 refine wT (wpAny_letGo ?_);refine Wr (A:=A.in1) hh (hit.at fun o e=>Ff _ o e) (hl.at fun o e=>Ff _ o e) cQ (Jay hIlt) (Jay hllt) hn hS₂ fun h' tk acc' c' hk hS' fe=>?_;exact ⟨rfl,hQ h' tk acc' c' (fun b o hb e=>hk b o (GE (Fk e)) hb (Ff b o e)) hS' fe⟩
end
section
variable {X:Cx}
def Al (K:PySem.W.Frag) (te:TE):TE:=fun σ H Q=>te σ H fun x H1=>∃ p ys,x=.ref p/\aD K H1 p ys/\∀ l,H1 l=none->Q (.ref l) (upd H1 l (.lst ys.reverse))
def Xw {e:Expr} {te:TE} {p q pos qos:Pos} (hc:X.calm=true) (hg:Gl X "list") (hm:X.mg "list" = none) (Fi:Gl X "reversed") (qE:X.mg "reversed" = none) (he:PE X e te) (hs:starEach [e] X.env=[(false,eval e X.env)]:=by rfl) :
  PE X (.Call (.Name "list" p) [.Call (.Name "reversed" q) [e] [] qos] [] pos) (Al X.K te):=by
 intro pins s σ H Q I h;refine SC (oj (u:=.type "list") I hg hm (by kernel_rfl) ?_);refine _k ?_;show wpAny _ _ (spliced ((false,eval (.Call (.Name "reversed" q) [e] [] qos) X.env)::backTo pos (starEach [] X.env))) _ _ s;refine _q ?_;refine SC (oj (u:=.type "reversed") I Fi qE (by kernel_rfl) ?_);refine _k ?_ (by rw [hs]; rfl) (by rfl);rw [hs];show wpAny _ _ (spliced ((false,eval e X.env)::backTo qos [])) _ _ s;refine _q (aC (he pins s σ H _ I h) fun u s1 ⟨x,H1,I1,rx,a,ys,ex,hl,q⟩=>_w ?_);subst ex;cases (show u=Value.ref a from rx);obtain ⟨ao,r',pl,hz⟩:=I1.list hl;have hlen:=r'.length;obtain ⟨oa,hoa,_⟩:=pl.isList;have halt:a < s1.heap.objs.size:=Fk hoa;refine call_reversed_list pl.isList ?_;refine _w ?_;refine Sv (I1.ok.hd hc) (l:=a) (items:=ao.toArray) ⟨_,FM _ rfl,rfl,rfl⟩ (pl.isList.at fun o e=>xz _ e) (GE halt) (by rw [Fr,<- hlen]; exact hz) fun h' tk acc c hk hD fe=>?_;have kp:∀ b o,s1.heap.get? b=some o->h'.get? b=some o:=fun b o e=>hk b o (GE (Fk e)) (xz _ e);have hsz:s1.heap.objs.size<=(s1.heap.push (revObj a ((ao.toArray.size:Int) - 1))).objs.size:=by rw [_p]; exact Jak _
 have hv:Vals ys.reverse acc.toList:=by
  have ha:acc.size=ao.length:=by rw [fe.1,Fr]
  refine yY (by rw [Jaw,hlen,<- ha]; exact W1.symm) fun i v u h1 h2=>?_;have hu:=fe.2 i u (by rw [<- ZB]; exact h2);have hi:i < ys.length:=by have:=(Do.mp h1).1; rwa [Jaw] at this
  rw [List.getElem?_reverse hi] at h1;obtain ⟨w,hw,rw'⟩:=r'.get h1;rw [List.getElem?_toArray,Fr,<- hlen,hw] at hu;cases hu;exact rw'
 refine ⟨.ref _,_,I1.laid (t':=tk) kp hsz (show bI X.prog X.w _ _ _ (.lst ys.reverse) from ⟨by rw [Jaw]; exact hz,_,c,hv,by rw [Jam]; exact hD⟩),rfl,q _ (I1.aA.fresh hsz)⟩
def Dv.listRev {e:Expr} {te:TE} {p q pos qos:Pos} {K:PySem.W.Frag} (hK:X.K=K) (hc:X.calm=true) (hm:X.mg "list" = none) (qE:X.mg "reversed" = none) (he:QE X e te) (hg:Gl X "list" := by rfl) (Fi:Gl X "reversed" := by rfl) (hs:starEach [e] X.env=[(false,eval e X.env)]:=by rfl) :
  QE X (.Call (.Name "list" p) [.Call (.Name "reversed" q) [e] [] qos] [] pos) (Al K te):=hK ▸ ⟨Xw hc hg hm Fi qE he.h hs⟩
end
def JX {K:PySem.W.Frag} {x:Str} {f c P:Addr} {oc occ:Value} {od odc:Option Addr} {fd:FuncData} {sl slc:Array (Option Value)} {vs:Array Value} (n:PySem.W.nsIn K mainGlobals x=some (some (.ref f))) (l:K.lookup f=some ⟨oc,od,.func fd,sl⟩) (hc:fd.code=.ref c)
  (lc:K.lookup c=some ⟨occ,odc,.fields vs,slc⟩) (hv:vs[11]?=some (.ref P)):PySem.W.tabIn K x=some (c,P):=by
 unfold PySem.W.tabIn;simp only [n,l,hc,lc,hv]
def cx (X:Cx) (scope:Scope) (cl:List (Str×Addr)) (N:List Str) (s:Shared) (H:Hp) (ex:List Addr) (C:Addr):Cx :=
 { X with N:=N,s₀:=s,H₀:=H,env:=compEnvC scope cl C X.env,outer:=X.stack,stack:=X.stack,ex:=ex,fn:=fun _=>false,pn:=[],xe:=fun _ _=>False }
structure jn (X:Cx) (scope:Scope) (cl:List (Str×Addr)) (caps:List Str) (ix:List Nat):Prop where
 hX:closureFor scope X.env=pure cl
 sub:∀ x c,cl.lookup x=some c->X.env.cells.lookup x=some c
 has:∀ y,((relabel scope X.env).names.lookup y=some .cell\/(relabel scope X.env).names.lookup y=some .free)->∃ c,cl.lookup y=some c
 len:ix.length=caps.length
 at':∀ (i j:Nat),ix[i]?=some j->∃ x,caps[i]?=some x/\X.N[j]?=some x/\X.env.scope.names.lookup x=some .cell/\(relabel scope X.env).names.lookup x=some .cell/\cl.lookup x=X.env.cells.lookup x
def jn.of {X:Cx} {scope:Scope} {cl:List (Str×Addr)} {caps:List Str} {ix:List Nat} (hX:closureFor scope X.env=pure cl) (sub:eS (fun e:Str×Addr=>X.env.cells.lookup e.1=some e.2) cl)
  (has:eS (fun e:Str×NameKind=>(e.2=.cell\/e.2=.free)->∃ c,cl.lookup e.1=some c) (relabel scope X.env).names) (len:ix.length=caps.length)
  (at':eS (fun e:Nat×Str=>X.N[e.1]?=some e.2/\X.env.scope.names.lookup e.2=some .cell/\(relabel scope X.env).names.lookup e.2=some .cell/\cl.lookup e.2=X.env.cells.lookup e.2) (ix.zip caps)):jn X scope cl caps ix where
 hX:=hX
 sub:=fun x c h=>eS.mem sub _ (Pi h)
 has:=fun y hy=>by
  rcases hy with h | h
  ·exact eS.mem has _ (Pi h) (.inl rfl)
  ·exact eS.mem has _ (Pi h) (.inr rfl)
 len:=len
 at':=fun i j h=>by
  have hi:=(Do.mp h).1;have hi':i < caps.length:=len ▸ hi;have hm:(j,caps[i])∈ix.zip caps:=by
   refine Jaf.mpr ⟨i,?_⟩;rw [_5];exact ⟨h,Db hi'⟩
  have z:=eS.mem at' _ hm;exact ⟨caps[i],Db hi',z⟩
def og (n:Nat) (ix:List Nat) (wi:TI) (g:TG) (tt:TT) (te:TE):TE:=fun σ H Q=>∃ vs,jj ix σ vs/\wi σ H fun J H1=>∃ W:Nat->List V->Nat->Hp->Prop,(∃ m,W 0 [] m H1)/\∀ i ys m H,W i ys m H ->
 ys.length<=sizeLine/\((J.stop i H/\∀ l,H l=none->Q (.ref l) (upd H l (.lst ys))) \/
  (J.go i H/\ys.length < sizeLine/\∀ y H',J.jX i H y H'->∀ σ0:St,σ0.length=n->g y (σ0++vs.map some) H' fun σ1 H1=>(∃ σ2:St,σ1=σ2++vs.map some/\σ2.length=n) /\
   tt σ1 H1 fun c H2=>if c=true then te σ1 H2 fun z H3=>∃ m',m' < m/\W (i+1) (ys++[z]) m' H3 else ∃ m',m' < m/\W (i+1) ys m' H2))
section
variable {X:Cx}
def W3 {pins:List (Addr×Obj)} {σ:St} {H:Hp} {s s4:Shared} {scope:Scope} {cl:List (Str×Addr)} {TN caps:List Str} {ix:List Nat} {vs:List V} {fp:List Addr} {C:Addr} {m:Str->Option Value} (I:Inv X pins σ H s) (CC:jn X scope cl caps ix) (hv:jj ix σ vs) (hf:∀ b∈fp,jT X pins H b) (bN:∀ b∈fp,b < s.heap.objs.size)
  (hk:scope.kind=.function) (hC:s.heap.objs.size<=C)
  (hos:s4.os=s.os) (hgen:s4.gens=s.gens) (old:∀ b o,s.heap.get? b=some o->s4.heap.get? b=some o) (eK:s4.heap.Ns C m):Inv (cx X scope cl (TN++caps) s H fp C) [] ((TN.map fun _=>none)++vs.map some) H s4:=by
 refine ⟨⟨I.ok.mod,hk,I.ok.glob,I.ok.blt,hC,fun x y c e1 e2=>I.ok.inj x y c (CC.sub x c e1) (CC.sub y c e2),fun y hy=>CC.has y hy,fun _ _ e=>(by cases e),I.ok.hd,I.ok.frames,.inl rfl,fun b hb=>⟨GE (FB (bN b hb) hC),fun x c e=>(hf b hb).2.2.2.2.1 x c (CC.sub x c e)⟩,
  fun b o e=>I.bs b o e,Gc I.ok.gN I.sz,fun b o e hb=>?_,fun b hb hm=>?_,I.stack,I.xu⟩,
  hos,by rw [hgen]; exact I.bare,Un.kept old,⟨m,eK,fun i y v e1 e2 _=>?_⟩,fun x c e=>?_,I.aA.fresh hC,fun x c e=>I.e8 x c (CC.sub x c e),fun p hp=>absurd (show p∈([]:List (Addr×Obj)) from hp) (by simp),I.aA.kept old,?_⟩
 ·rcases (hf b hb).2.2.2.1 with z | z
  ·exact I.ok.mL b o e z
  ·exact absurd (FB (FB (Fk e) I.ok.gN) z) (SZ _)
 ·rcases AT.mp (I.tK b hm) with z | z
  ·exact (hf b hb).2.1 z
  ·exact (hf b hb).2.2.1 z
 ·have e1':(TN++caps)[i]?=some y:=e1;have e2':((TN.map fun _=>(none:Option V))++vs.map some)[i]?=some (some v):=e2;by_cases hi:i < TN.length
  ·rw [Re (by simpa using hi),Op] at e2';cases h:TN[i]? <;> rw [h] at e2' <;> simp at e2'
  ·rw [Ps (by omega)] at e1';rw [Ps (by simpa using Nat.not_lt.mp hi),At,Op] at e2';have ev:vs[i - TN.length]?=some v:=by
    cases h:vs[i - TN.length]? with
    | none=>rw [h] at e2'; cases e2'
    | some a=>rw [h] at e2'; cases e2'; rfl
   have hlt':i - TN.length < ix.length:=by
    rw [<- hv.1]; exact (Do.mp ev).1
   obtain ⟨x,c1,c2,c3,c4,c5⟩:=CC.at' _ _ (Db hlt');rw [e1'] at c1; cases c1;have hσ:=hv.2 _ _ v (Db hlt') ev;obtain ⟨m0,_,hl⟩:=I.loc;obtain ⟨u,ru,lk⟩:=hl _ y v c2 hσ (.inr (.inl c3));rcases lk with ⟨k1,_⟩ | ⟨_,c,k2,o,k3,k4⟩
   ·have:X.env.scope.names.lookup y=some .local:=k1;rw [c3] at this; cases this
   ·exact ⟨u,ru,.inr ⟨.inl c4,c,by show cl.lookup y=some c; rw [c5]; exact k2,o,old _ _ k3,k4⟩⟩
 ·obtain ⟨v,o,e1,e2⟩:=I.cell x c (CC.sub x c e);exact ⟨v,o,old _ _ e1,e2⟩
 ·show ((TN.map fun _=>(none:Option V))++vs.map some).length=(TN++caps).length;rw [Da,Da,At,At,hv.1,CC.len]
def GW {elt iter:Expr} {ifs:List Expr} {tg:Expr} {g:TG} {TN caps:List Str} {ix:List Nat} {cl:List (Str×Addr)} {pos:Pos} {scope:Scope} {wi:TI} {tt:TT} {te:TE} (hc:X.calm=true) (hi:PI X tg iter wi)
  (ht:∀ s H ex C,pW (cx X scope cl (TN++caps) s H ex C) ifs tt) (gU:∀ s H ex C,PG (cx X scope cl (TN++caps) s H ex C) tg g) (he:∀ s H ex C,PE (cx X scope cl (TN++caps) s H ex C) elt te) (CC:jn X scope cl caps ix)
  (hk:scope.kind=.function) (cG:∀ y∈scope.names,y.2≠.cell)
  {pins:List (Addr×Obj)} {s:Shared} {σ:St} {H:Hp} {Q:VK} {RR:Value->Addr->Result->Shared->Prop} (I:Inv X pins σ H s) (h:og TN.length ix wi g tt te σ H Q)
  (Fq:∀ (a C:Addr) (s6:Shared) (H6:Hp),Inv X pins σ H6 s6->(∃ m,s6.heap.Ns C m)->DP X pins H6 C->Q (.ref a) H6->RR (.ref a) C (.ok .next) s6) :
  wpAny (model X.prog X.w) X.A (eval iter X.env) (fun v s1=>wpAny (model X.prog X.w) X.A (pyIter v) (fun it s2=>wpAny (model X.prog X.w) X.A (newList []) (fun acc s3 =>
   wpAny (model X.prog X.w) X.A (newFunctionEnv scope X.env.globals cl [] X.env.qual none .none (some X.env)) (fun N6 s4 =>
    codeAny (model X.prog X.w) X.A (.compStart (.ListComp elt [⟨tg,iter,ifs,0⟩] scope pos) 0 it acc { N6 with scope:=relabel scope X.env }) (RR acc N6.locals) s4) X.xe s3) X.xe s2) X.xe s1) X.xe s:=by
 obtain ⟨vs,hvs,h⟩:=h;refine aC (hi pins s σ H _ I h) fun v s1 h1=>aC h1 fun Ez s2 h2=>?_;obtain ⟨it,fp,tn,J,H2,rfl,I2,T,jP,f2,W,⟨m0,w0⟩,turn⟩:=h2;have bN:∀ b∈fp,b < s2.heap.objs.size:=fun b hb=>let ⟨o,e,_⟩:=T.obj _ _ jP b hb; Fk e
 refine _S (wpAny_newFunctionEnv cG (by intro y hy; simp at hy) (fun h1 hns1 hsb1=>?_) hk);dsimp only at hns1 hsb1 ⊢;generalize Ec:s2.heap.push { cls:=.type "list",dict:=none,data:=.seq ([]:List Value).toArray }=G at hns1 hsb1 ⊢;have hG:G.objs.size=s2.heap.objs.size+1:=by rw [<- Ec,_p]
 have xU:s2.heap.objs.size≠G.objs.size:=by rw [hG]; exact GE (WF _)
 have oC:s2.heap.objs.size<=G.objs.size:=by rw [hG]; exact Jak _
 have old:∀ b o,s2.heap.get? b=some o->h1.get? b=some o:=fun b o e=>by
  exact hsb1.extBut b o (GE (FB (Fk e) oC)) (xz _ (Ec ▸ xz _ e))
 have accO:h1.get? s2.heap.objs.size=some { cls:=.type "list",dict:=none,data:=.seq ([]:List Value).toArray } :=
  hsb1.extBut _ _ xU (xz _ (Ec ▸ FM _ rfl))
 -- jM state at jM block's entry
 have main:∀ s4:Shared,s4={ s2 with heap:=h1,toks:=s2.toks+([]:List (Str×Value)).length } ->
   codeAny (model X.prog X.w) X.A (.compLoop (.ListComp elt [⟨tg,iter,ifs,0⟩] scope pos) 0 (.ref it) (.ref s2.heap.objs.size) (compEnvC scope cl G.objs.size X.env))
    (RR (.ref s2.heap.objs.size) G.objs.size) s4:=by
  rintro s4 rfl;have I4:Inv (cx X scope cl (TN++caps) s2 H2 fp G.objs.size) [] ((TN.map fun _=>none)++vs.map some) H2 { s2 with heap:=h1,toks:=s2.toks+([]:List (Str×Value)).length } :=
   W3 I2 CC hvs f2 bN hk oC rfl rfl old hns1
  have EX:∀ {H':Hp} {pl:List (Addr×Obj)},(∀ b∈fp,H' b=none)->(∀ p∈pl,p.1 ∉ fp)->∀ b∈fp,jT (cx X scope cl (TN++caps) s2 H2 fp G.objs.size) pl H' b:=fun hn hp b hb =>
   ⟨hn b hb,GE (FB (bN b hb) oC),I4.ok.mz b hb,.inl hb,fun x c e=>(f2 b hb).2.2.2.2.1 x c (CC.sub x c e),fun p hp' e=>hp p (by simpa [cx] using hp') (e ▸ hb)⟩
  have OE:s2.heap.objs.size ∉ fp:=fun z=>SZ _ (bN _ z);refine TQ (fun n s'=>∃ (i:Nat) (ys:List V) (ao:List Value) (k:Nat) (σ':St) (H':Hp),(∃ σ0:St,σ'=σ0++vs.map some/\σ0.length=TN.length)/\Inv (cx X scope cl (TN++caps) s2 H2 fp G.objs.size) [] σ' H' s'/\tn i s'.heap/\(∀ b∈fp,H' b=none)/\H' s2.heap.objs.size=none/\Vals ys ao /\
   s'.heap.get? s2.heap.objs.size=some { cls:=.type "list",dict:=none,data:=.seq ao.toArray k }/\W i ys n H') (fun _ _ _=>trivial) ?_ m0
   ⟨0,[],[],0,_,H2,⟨_,rfl,by simp⟩,I4,T.keep _ _ _ jP (fun b _ o e=>old b o e),fun b hb=>(f2 b hb).1,I2.aA.fresh (Ev _),.nil,accO,w0⟩
  rintro n s5 ⟨i,ys,ao,k,σ5,H5,⟨σ0,hq5,hσ⟩,I5,qM,ye,xK,rv,ea,w5⟩;subst hq5;have Ip:Inv (cx X scope cl (TN++caps) s2 H2 fp G.objs.size) [(s2.heap.objs.size,{ cls:=.type "list",dict:=none,data:=.seq ao.toArray k })] (σ0++vs.map some) H5 s5:=I5.uu fun p hp=>by
   have e:p=(s2.heap.objs.size,{ cls:=.type "list",dict:=none,data:=.seq ao.toArray k }):=by simpa using hp
   subst e;refine ⟨ea,xK,xU,fun z=>?_,fun v z=>by cases z⟩;exact I2.J1 (Ev _) (by
    have hz:s2.heap.objs.size∈bJ X.stack:=z;rcases AT.mp (I2.tK _ hz) with q | q
    ·exact absurd I2.lt (by rw [<- q]; exact SZ _)
    ·exact q)
  have Fw:∀ p∈[((s2.heap.objs.size,{ cls:=.type "list",dict:=none,data:=.seq ao.toArray k }):Addr×Obj)],p.1 ∉ fp:=fun p hp=>by
   have e:p=(s2.heap.objs.size,{ cls:=.type "list",dict:=none,data:=.seq ao.toArray k }):=by simpa using hp
   subst e; exact OE
  obtain ⟨hyl,alt⟩:=turn i ys n H5 w5;rcases alt with ⟨stop,qn⟩ | ⟨go,hys,step⟩
  ·refine aC (T.done (cx X scope cl (TN++caps) s2 H2 fp G.objs.size) rfl rfl rfl hc i _ s5 (σ0++vs.map some) H5 (fun _ _=>False) Ip (EX ye Fw) qM stop) fun r s6 ⟨hr,I6⟩=>?_;subst hr;have ea6:=(I6.pin (s2.heap.objs.size,{ cls:=.type "list",dict:=none,data:=.seq ao.toArray k }) (IO _ (KM.mpr rfl))).1;obtain ⟨m,OC,_⟩:=I6.loc;have hC6:H5 G.objs.size=none:=I6.free;have lt2:∀ b o,s2.heap.get? b=some o->b≠s2.heap.objs.size:=fun b o e=>GE (Fk e);have Iout:Inv X pins σ (upd H5 s2.heap.objs.size (.lst ys)) s6:=by
    refine I2.Lj (s':=s6) (ch:=fp) I6.os ⟨fun b o e n hb hx=>?_,fun b o e n hb hx=>?_,fun b o e n hx=>?_,fun b o e hx=>?_,fun b xs e=>?_,fun b o u e=>?_,fun b ps e=>?_⟩ ?_ I6.bare fun b hb=>?_
    ·exact I6.base.keep b o e n hb hx
    ·exact I6.base.slot b o e n hb hx
    ·rw [aj (lt2 b o e)]; exact I6.base.free b o e n hx
    ·exact I6.base.there b o e hx
    ·rw [aj (fV e (I2.aA.fresh (Ev _)))]; exact I6.base.fY b xs e
    ·rw [aj (fV e (I2.aA.fresh (Ev _)))]; exact I6.base.fA b o u e
    ·obtain ⟨more,e1⟩:=I6.base.fQ b ps e;exact ⟨more,by rw [aj (fV e (I2.aA.fresh (Ev _)))]; exact e1⟩
    ·intro b u e;by_cases hb:b=s2.heap.objs.size
     ·subst hb;rw [aw] at e;cases e;exact ⟨hyl,ao,k,rv,ea6⟩
     ·rw [aj hb] at e;exact (I6.aA b u e).gJ (fun c v _ q=>q) (fun c q=>by rw [aj (fV q xK)]; exact q) fun c xs q=>by rw [aj (fV q xK)]; exact q
    ·obtain ⟨g1,g2,g3,g4,g5,g6⟩:=f2 b hb;exact ⟨g4,g2,g5,g6⟩
   refine Fq _ _ s6 _ Iout ⟨m,OC⟩ ⟨by rw [aj (Fa xU)]; exact hC6,?_,?_,fun y c e z=>?_,fun p hp z=>?_⟩ (qn _ xK)
   ·exact Jay (FB I2.lt oC)
   ·exact Gc I2.sz oC
   ·obtain ⟨v',q⟩:=I2.cell y c e;exact absurd (FB q.lt oC) (by rw [z]; exact SZ _)
   ·exact absurd (FB (Fk (I2.pin p hp).1) oC) (by rw [z]; exact SZ _)
  ·refine aC (T.item (cx X scope cl (TN++caps) s2 H2 fp G.objs.size) rfl rfl rfl hc i _ s5 (σ0++vs.map some) H5 (fun _ _=>False) Ip (EX ye Fw) qM go) fun r s6 ⟨u,hr,h6⟩=>?_;subst hr;refine aC h6 fun _ s7 ⟨y,H7,I7,ry,y7,E1,fr7⟩=>?_;have I7':=I7.pinned (EX fr7 Fw) (T.obj _ _ E1);refine aC (gU _ _ _ _ _ s7 (σ0++vs.map some) H7 y u _ I7' ry (step y H7 y7 σ0 hσ)) fun _ s8 ⟨σ8,H8,I8,Nh,q8⟩=>?_;refine aC (ht _ _ _ _ _ s8 σ8 H8 _ I8 q8) fun ok s9 ⟨H9,I9,q9⟩=>?_
   -- what is pinned stays
   have Ot:∀ {s':Shared} {H':Hp},Inv (cx X scope cl (TN++caps) s2 H2 fp G.objs.size) ([(s2.heap.objs.size,{ cls:=.type "list",dict:=none,data:=.seq ao.toArray k })]++uh fp s7.heap) σ8 H' s' ->
     tn (i+1) s'.heap/\(∀ b∈fp,H' b=none)/\H' s2.heap.objs.size=none/\s'.heap.get? s2.heap.objs.size=some { cls:=.type "list",dict:=none,data:=.seq ao.toArray k }:=fun {s' H'} J'=>by
    refine ⟨T.keep _ _ _ E1 fun b hb o e=>(J'.pin (b,o) (IO _ (IO _ (va hb e)))).1,fun b hb=>?_,(J'.pin (s2.heap.objs.size,{ cls:=.type "list",dict:=none,data:=.seq ao.toArray k }) (IO _ (_a _ (KM.mpr rfl)))).2.1,(J'.pin (s2.heap.objs.size,{ cls:=.type "list",dict:=none,data:=.seq ao.toArray k }) (IO _ (_a _ (KM.mpr rfl)))).1⟩;obtain ⟨o,e,_⟩:=T.obj _ _ E1 b hb;exact (J'.pin (b,o) (IO _ (IO _ (va hb e)))).2.1
   cases ok with
   | false =>
    obtain ⟨m',hm,w'⟩:=q9;obtain ⟨k1,k2,k3,k4⟩:=Ot I9;exact ⟨m',hm,i+1,ys,ao,k,σ8,H9,Nh,I9.uu (pins':=[]) (fun _ hp=>nomatch hp),k1,k2,k3,rv,k4,w'⟩
   | true =>
    refine aC (he _ _ _ _ _ s9 σ8 H9 _ I9 q9) fun zv i6 ⟨z,jb,Ow,rz,pX⟩=>?_;obtain ⟨m',hm,w'⟩:=pX;obtain ⟨k1,k2,k3,k4⟩:=Ot Ow;have hl:=rv.length;refine _d F.slot_list_append ⟨_,k4,rfl⟩ F.entry_list_append (F.args_list_append_2 _ _) (PySem.list_append s2.heap.objs.size ao.toArray k zv (by rw [Fr]; omega)) ⟨k4,?_⟩;have q:=PySem.IsL.update k4 (·.push zv);have ip:ao.toArray.push zv=(ao++[zv]).toArray:=by simp
    rw [ip] at q;have I11:Inv (cx X scope cl (TN++caps) s2 H2 fp G.objs.size) [] σ8 jb i6:=Ow.uu (pins':=[]) (fun _ hp=>nomatch hp);refine ⟨m',hm,i+1,ys++[z],ao++[zv],_,σ8,jb,Nh,I11.turned (t':=i6.toks) (it:=s2.heap.objs.size) (fun b o hb e=>(ST i6.heap _ (Fa hb)).trans e) k3 xU (.inr (Ev _)) (fun x c e z=>by obtain ⟨v',q⟩:=I2.cell x c (CC.sub x c e); exact absurd q.lt (by rw [z]; exact SZ _)) (fun p hp=>absurd (show p∈([]:List (Addr×Obj)) from hp) (by simp)),
     T.keep _ _ _ k1 fun b hb o e=>(ST i6.heap _ (fun z=>OE (by rw [z]; exact hb))).trans e,k2,k3,rv.append (.cons rz .nil),q,w'⟩
 exact codeAny_compStart_list (main _ rfl) (T.self _ 0 _ _ _ (T.keep _ _ _ jP fun b _ o e=>old b o e) (main _ rfl))
def PU {elt iter:Expr} {ifs:List Expr} {tg:Expr} {g:TG} {TN caps:List Str} {ix:List Nat} {cl:List (Str×Addr)} {pos:Pos} {scope:Scope} {wi:TI} {tt:TT} {te:TE} (hc:X.calm=true) (hi:PI X tg iter wi)
  (ht:∀ s H ex C,pW (cx X scope cl (TN++caps) s H ex C) ifs tt) (gU:∀ s H ex C,PG (cx X scope cl (TN++caps) s H ex C) tg g) (he:∀ s H ex C,PE (cx X scope cl (TN++caps) s H ex C) elt te) (CC:jn X scope cl caps ix)
  (hk:scope.kind=.function:=by rfl) (bX:∀ y∈scope.names,y.2=.local->scope.names.lookup y.1=some .local:=by decide +kernel) (cG:∀ y∈scope.names,y.2≠.cell:=by decide +kernel)
  (hs:∀ x,foldedSetIterable iter X.env x=pure x:=by intro _; rfl):PE X (.ListComp elt [⟨tg,iter,ifs,0⟩] scope pos) (og TN.length ix wi g tt te):=by
 intro pins s σ H Q I h;rw [eval_ListComp];refine wpAny_comprehension_free (use:=none) (cl:=cl) rfl hs CC.hX hk bX ?_;refine GW (RR:=fun acc C=>compPost (model X.prog X.w) X.A X.xe none (EP X pins σ Q) acc C) hc hi ht gU he CC hk cG I h ?_;intro a C s6 H6 I6 hm o q;obtain ⟨m,hn⟩:=hm;exact ⟨m,hn,fun h' ni=>⟨.ref a,H6,o.go I6 ni,rfl,q⟩⟩
def VW {elt iter:Expr} {ifs:List Expr} {tg:Expr} {g:TG} {TN caps:List Str} {ix:List Nat} {cl:List (Str×Addr)} {y:Str} {i:Nat} {py pos spos:Pos} {scope:Scope} {wi:TI} {tt:TT} {te:TE} (hc:X.calm=true) (hN:X.N.Nodup) (uL:X.N[i]?=some y) (qV:X.env.scope.names.lookup y=some .local) (hi:PI X tg iter wi)
  (ht:∀ s H ex C,pW (cx X scope cl (TN++caps) s H ex C) ifs tt) (gU:∀ s H ex C,PG (cx X scope cl (TN++caps) s H ex C) tg g) (he:∀ s H ex C,PE (cx X scope cl (TN++caps) s H ex C) elt te) (CC:jn X scope cl caps ix)
  (uM:swapsWith (.ListComp elt [⟨tg,iter,ifs,0⟩] scope pos) (some (.Name y py)) spos.line X.env=pure true:=by rfl)
  (hk:scope.kind=.function:=by rfl) (bX:∀ y∈scope.names,y.2=.local->scope.names.lookup y.1=some .local:=by decide +kernel) (cG:∀ y∈scope.names,y.2≠.cell:=by decide +kernel)
  (hs:∀ x,foldedSetIterable iter X.env x=pure x:=by intro _; rfl):PS X (.Assign [.Name y py] (.ListComp elt [⟨tg,iter,ifs,0⟩] scope pos) spos) (lW (og TN.length ix wi g tt te) (gd i)):=by
 intro pins s σ H D I h;rw [exec_Assign_Name_used _ _ _ _ uM];refine wT (Jaj (wT ?_));refine wT (Ty (wpAny_comprehension_free (e:=.ListComp elt [⟨tg,iter,ifs,0⟩] scope pos) (use:=some (assign (.Name y py) X.env)) (cl:=cl) (Q:=fun _ s'=>SP X pins D .next s') rfl hs CC.hX hk bX
  (GW (RR:=fun acc C=>compPost (model X.prog X.w) X.A X.xe (some (assign (.Name y py) X.env)) (fun _ s'=>SP X pins D .next s') acc C) hc hi ht gU he CC hk cG I h ?_)) (fun _ s' hq=>Cl (Cl hq)) fun _ _ e=>e)
 intro a C s6 H6 I6 hm o q;obtain ⟨m,hn⟩:=hm;refine (show wpAny (model X.prog X.w) X.A (assign (.Name y py) X.env (.ref a)) _ X.xe s6 from ?_);refine wpAny_assign_Name (G1 I6 hN uL (.inl qV) (v:=.ref a) rfl (fun s' I' ni=>?_) (.inr qV));obtain ⟨b,ni,hb⟩:=ni;have nb:C≠b:=by
  rcases hb with z | z
  ·rw [z]; exact o.nl
  ·exact fun e=>o.nc y b z e.symm
 exact ⟨m,hn.sameBut ni nb,fun h' hs'=>⟨_,H6,o.go I' hs',q⟩⟩
end
namespace Dv
section
variable {X:Cx}
def Dm {elt iter tg:Expr} {g:TG} {ifs:List Expr} {TN caps:List Str} {ix:List Nat} {cl:List (Str×Addr)} {pos:Pos} {scope:Scope} {wi:TI} {tt:TT} {te:TE} (hc:X.calm=true) (hi:QI X tg iter wi)
  (ht:∀ s H ex C,pd (cx X scope cl (TN++caps) s H ex C) ifs tt) (gU:∀ s H ex C,QG (cx X scope cl (TN++caps) s H ex C) tg g) (he:∀ s H ex C,QE (cx X scope cl (TN++caps) s H ex C) elt te) (CC:jn X scope cl caps ix)
  (hk:scope.kind=.function:=by rfl) (bX:∀ y∈scope.names,y.2=.local->scope.names.lookup y.1=some .local:=by decide +kernel) (cG:∀ y∈scope.names,y.2≠.cell:=by decide +kernel)
  (hs:∀ x,foldedSetIterable iter X.env x=pure x:=by intro _; rfl):QE X (.ListComp elt [⟨tg,iter,ifs,0⟩] scope pos) (og TN.length ix wi g tt te):=⟨PU hc hi.h (fun s H ex C=>(ht s H ex C).h) (fun s H ex C=>(gU s H ex C).h) (fun s H ex C=>(he s H ex C).h) CC hk bX cG hs⟩
def Lw (i:Nat) {elt iter tg:Expr} {g:TG} {ifs:List Expr} {TN caps:List Str} {ix:List Nat} {cl:List (Str×Addr)} {y:Str} {py pos spos:Pos} {scope:Scope} {wi:TI} {tt:TT} {te:TE} (hc:X.calm=true) (hN:X.N.Nodup) (hi:QI X tg iter wi)
  (ht:∀ s H ex C,pd (cx X scope cl (TN++caps) s H ex C) ifs tt) (gU:∀ s H ex C,QG (cx X scope cl (TN++caps) s H ex C) tg g) (he:∀ s H ex C,QE (cx X scope cl (TN++caps) s H ex C) elt te) (CC:jn X scope cl caps ix) (uL:X.N[i]?=some y:=by rfl) (qV:X.env.scope.names.lookup y=some .local:=by rfl)
  (uM:swapsWith (.ListComp elt [⟨tg,iter,ifs,0⟩] scope pos) (some (.Name y py)) spos.line X.env=pure true:=by rfl)
  (hk:scope.kind=.function:=by rfl) (bX:∀ y∈scope.names,y.2=.local->scope.names.lookup y.1=some .local:=by decide +kernel) (cG:∀ y∈scope.names,y.2≠.cell:=by decide +kernel)
  (hs:∀ x,foldedSetIterable iter X.env x=pure x:=by intro _; rfl):QS X (.Assign [.Name y py] (.ListComp elt [⟨tg,iter,ifs,0⟩] scope pos) spos) (lW (og TN.length ix wi g tt te) (gd i)):=⟨VW hc hN uL qV hi.h (fun s H ex C=>(ht s H ex C).h) (fun s H ex C=>(gU s H ex C).h) (fun s H ex C=>(he s H ex C).h) CC uM hk bX cG hs⟩
end
end Dv
section
variable {X:Cx}
end
def zx {σ:St} (h:σ.length=1):∃ a,σ=[a]:=by
 match σ,h with
 | [a],_=>exact ⟨a,rfl⟩
def jw {f:Str} {v u:V}:∀ {fs:List (Str×V)},fs.lookup f=some u->(ay f v fs).length=fs.length
 | (g,x)::r,h=>by
  rw [show ay f v ((g,x)::r)=(if g=f then (g,v)::r else (g,x)::ay f v r) from rfl];by_cases e:g=f
  ·rw [IN e]; rfl
  ·rw [Id e];have hb:(f == g)=false:=On.mpr (Fa e);have h':r.lookup f=some u:=by simpa [List.lookup,hb] using h
   rw [Os,jw h']; rfl
def CJ (r:V->List V->Hp->VK->Prop) (to:TE):TE:=fun σ H Q=>to σ H fun x H1=>match x with
 | .ref l=>(match H1 l with
  | some (.lst _)=>r (.ref l) [] H1 Q
  | _=>False)
 | _=>False
section
variable {X:Cx} {name:Str} {id:String} {r:V->List V->Hp->VK->Prop} {o:Expr} {to:TE} {apos bA:Pos}
def Rx (slot:Slot "list" name id) (cE:typeOf (.builtin id)=pure (.type "method_descriptor")) (hm:dg X id r) (ho:PE X o to)
  (iU:attributeBase o name X.env (eval o X.env)=eval o X.env:=by rfl) (ja:(apos.endLine == bA.line)=true:=by rfl):PE X (.Call (.Attribute o name apos) [] [] bA) (CJ r to):=by
 intro pins s σ H Q I h;refine wpAny_Call_method0_late iU ja (aC (ho pins s σ H _ I h) fun v s1 ⟨x,H1,I1,r1,q1⟩=>?_);dsimp only at q1;split at q1
 ·rename_i l;split at q1
  ·rename_i zs el;obtain ⟨h1,h2⟩:=z9 (T := "list") I1 r1 (.inl ⟨rfl,zs,aD.of el⟩);exact ⟨"list",id,PySem.F.plainAttrs_list,slot,cE,h1,h2,_K rfl (PySem.evalArgs_none (hm pins s1 σ H1 (.ref l) [] v [] Q I1 r1 .nil q1))⟩
  ·exact q1.elim
 ·exact q1.elim
def Dv.yB (slot:Slot "list" name id) (cE:typeOf (.builtin id)=pure (.type "method_descriptor")) (hm:dg X id r) (ho:QE X o to)
  (iU:attributeBase o name X.env (eval o X.env)=eval o X.env:=by rfl) (ja:(apos.endLine == bA.line)=true:=by rfl):QE X (.Call (.Attribute o name apos) [] [] bA) (CJ r to):=⟨Rx slot cE hm ho.h iU ja⟩
end
def ai.fR {H H1:Hp} {l:Addr} {o:HO} (s:ai H H1) (hl:H l=none):ai H (L2.upd H1 l o):=fun b u e=>by
 rw [aj (fun z=>by rw [z,hl] at e; cases e)]; exact s b u e
def lX.m {P:Program} {w:World} {K:PySem.W.Frag} {mg:Str->Option Value} {base:Heap} {k:Nat} {s1:Shared} {B:Addr->Prop} {f:Addr} {cb:eF} (D:lX P w K mg base k s1 B f cb) :
  lX P w K mg base k s1 B f (fun H Q E=>∃ (Q0:VK) (E0:XK),cb H Q0 E0/\(∀ v H',Q0 v H'->Q v H')/\∀ C od H',E0 C od H'->E C od H') :=
 fun A outer s H Q E hr e0 hk ⟨Q0,E0,hw,hq,he⟩=>_I (D A outer s H Q0 E0 hr e0 hk hw) fun r s' z=>by
  cases r with
  | error e =>
   obtain ⟨ea,C,od,H',e1,F,z⟩:=z;exact ⟨ea,C,od,H',e1,F,he _ _ _ z⟩
  | ok fl =>
   cases fl with
   | ret u =>
    obtain ⟨v,H',z1,z2,z3,z4,z5,z6⟩:=z;exact ⟨v,H',z1,z2,z3,z4,z5,hq _ _ z6⟩
   | next=>exact z
   | brk=>exact z
   | cont=>exact z
def lD.BP {P:Addr} {q:Str} {c:Addr} {H H1:Hp} (L:lD P q c H H1):∀ b o,b≠P->H b=some o->H1 b=some o:=fun b o hb e=>by
 by_cases hc:b=c
 ·rcases L.old with h | h
  ·rw [hc,h] at e; cases e
  ·rw [h]; exact e
 ·rw [L.rest b hb hc]; exact e
section
variable {X:Cx}
def BC:List V->Hp->VK->Prop:=fun xs H Q=>match xs with
 | [.bl b]=>Q (.int (if b then 1 else 0)) H
 | _=>False
def Mh:cA X (.type "int") BC:=by
 intro pins s σ H xs us Q I r h;unfold BC at h;split at h
 ·rename_i b;obtain ⟨u,rfl,rx⟩:=vals1 r;cases rx;exact call_int_bool ⟨.int (if b then 1 else 0),H,I.tok _,⟨_,rfl⟩,h⟩
 ·exact h.elim
def abc:aY X (binaryOp .Pow) (qo L7 fun i j=>i ^ j.toNat):=aaw.imp fun _ _ _ _ h=>zy h
end
def Ds (K:PySem.W.Frag):R2:=fun x y H Q=>match y with
 | .ref p=>∃ xs,(aD K H p xs\/bo K H p xs)/\cI x=true/\xs.all cI=true/\Q (.bl (!f7 x xs)) H
 | _=>False
def DM {X:Cx} {K:PySem.W.Frag} (h:X.K=K):aY X (compareOp .NotIn) (Ds K):=h ▸ YA.imp fun x y H Q z=>by
 unfold Ds at z;split at z
 ·obtain ⟨xs,z1,z2,z3,z4⟩:=z;exact ⟨_,xs,rfl,z1,z2,z3,z4⟩
 ·exact z.elim
structure FT (K:PySem.W.Frag) (mg:Str->Option Value) (x y:Str) (st:Stmt) (ps:List Str) where
 f:Addr
 d:FuncData
 F:fv K x y st f d
 m:mg x=some (.ref f)
 b:Binds K d ps []
structure MT (K:PySem.W.Frag) (C:Addr) (x y:Str) (st:Stmt) (ps:List Str) where
 f:Addr
 d:FuncData
 F:fv K x y st f d
 h:Meth K C x f
 b:Binds K d ps []
def FA (K:PySem.W.Frag) (x y:Str) (st:Stmt):Prop:=∃ (f:Addr) (oc:Value) (od:Option Addr) (kV dc pm:Value) (an:Option Addr) (cd ct:Value) (sl:Array (Option Value)),
 PySem.W.nsIn K mainGlobals x=some (some (.ref f))/\K.lookup f=some ⟨oc,od,.func (PySem.W.fnOf x y (eN st) (aV st) (ax st) .none kV dc pm an cd ct),sl⟩/\PySem.W.codeIn K cd y=true/\PySem.W.keepIn K (.ref f)=true
def MA (K:PySem.W.Frag) (C:Addr) (x y:Str) (st:Stmt):Prop:=∃ (f:Addr) (oc:Value) (od:Option Addr) (kV dc pm:Value) (an:Option Addr) (cd ct:Value) (sl:Array (Option Value)),
 PySem.W.findIn K (.ref C) x=some (some (.ref f))/\K.lookup f=some ⟨oc,od,.func (PySem.W.fnOf x y (eN st) (aV st) (ax st) .none kV dc pm an cd ct),sl⟩/\PySem.W.codeIn K cd y=true/\PySem.W.keepIn K (.ref f)=true/\PySem.W.isFn K (.ref f)=true
section
variable {K:PySem.W.Frag} {mg:Str->Option Value} {h:Heap} {C:Addr} {x y:Str} {st:Stmt} {ps:List Str}
def FA.ft (X:K.In h) (G:h.Ns mainGlobals mg) (ps:List Str) (hb:∀ (kV dc pm:Value) (an:Option Addr) (cd ct:Value) (us:List Value),us.length=ps.length->bindArgs (PySem.W.fnOf x y (eN st) (aV st) (ax st) .none kV dc pm an cd ct) ⟨us,[]⟩=pure (ps.zip us)) (a:FA K x y st):Nonempty (FT K mg x y st ps):=by
 obtain ⟨f,oc,od,kV,dc,pm,an,cd,ct,sl,n,l,c,k⟩:=a;have F:=C0 (st:=st) l c k;exact ⟨⟨f,_,F,PySem.W.mg_of X G n,F.binds hb⟩⟩
def MA.ft (ps:List Str) (hb:∀ (kV dc pm:Value) (an:Option Addr) (cd ct:Value) (us:List Value),us.length=ps.length->bindArgs (PySem.W.fnOf x y (eN st) (aV st) (ax st) .none kV dc pm an cd ct) ⟨us,[]⟩=pure (ps.zip us)) (a:MA K C x y st):Nonempty (MT K C x y st ps):=by
 obtain ⟨f,oc,od,kV,dc,pm,an,cd,ct,sl,n,l,c,k,t⟩:=a;have F:=C0 (st:=st) l c k;exact ⟨⟨f,_,F,⟨n,t,k⟩,F.binds hb⟩⟩
end
section
variable {K:PySem.W.Frag} {mg:Str->Option Value} {h:Heap} {C:Addr} {x y:Str} {st:Stmt} {ps:List Str}
def FA.mk {f:Addr} {oc:Value} {od:Option Addr} {kV dc pm:Value} {an:Option Addr} {cd ct:Value} {sl:Array (Option Value)} (n:PySem.W.nsIn K mainGlobals x=some (some (.ref f))) (l:K.lookup f=some ⟨oc,od,.func (PySem.W.fnOf x y (eN st) (aV st) (ax st) .none kV dc pm an cd ct),sl⟩) (c:PySem.W.codeIn K cd y=true) (k:PySem.W.keepIn K (.ref f)=true):FA K x y st:=⟨_,_,_,_,_,_,_,_,_,_,n,l,c,k⟩
def MA.mk {f:Addr} {oc:Value} {od:Option Addr} {kV dc pm:Value} {an:Option Addr} {cd ct:Value} {sl:Array (Option Value)} (n:PySem.W.findIn K (.ref C) x=some (some (.ref f))) (l:K.lookup f=some ⟨oc,od,.func (PySem.W.fnOf x y (eN st) (aV st) (ax st) .none kV dc pm an cd ct),sl⟩) (c:PySem.W.codeIn K cd y=true) (k:PySem.W.keepIn K (.ref f)=true) (t:PySem.W.isFn K (.ref f)=true):MA K C x y st:=⟨_,_,_,_,_,_,_,_,_,_,n,l,c,k,t⟩
def FA.gt (X:K.In h) (G:h.Ns mainGlobals mg) (hb:∀ (kV dc pm:Value) (an:Option Addr) (cd ct:Value) (us:List Value),us.length=ps.length->bindArgs (PySem.W.fnOf x y (eN st) (aV st) (ax st) .none kV dc pm an cd ct) ⟨us,[]⟩=pure (ps.zip us)) (a:FA K x y st):Nonempty (FT K mg x y st ps):=FA.ft X G ps hb a
def MA.gt (hb:∀ (kV dc pm:Value) (an:Option Addr) (cd ct:Value) (us:List Value),us.length=ps.length->bindArgs (PySem.W.fnOf x y (eN st) (aV st) (ax st) .none kV dc pm an cd ct) ⟨us,[]⟩=pure (ps.zip us)) (a:MA K C x y st):Nonempty (MT K C x y st ps):=MA.ft ps hb a
def aac {M:MT K C "__init__" y st ps} (a:PySem.W.makesIn K C=true) (b:PySem.W.keepIn K (.ref C)=true):Mk K C M.f:=⟨a,M.h.at_,M.h.fn,b⟩
def ji {dt:Addr} {kV doc pm ag ct:Value} {an:Option Addr} {o:Obj} {n:Nat} {ds:List Value} (j:Nat) (ld:K.lookup dt=some o) (hd:o.data=.seq ds.toArray n)
  (h:∀ (dt:Addr) (kV doc pm:Value) (an:Option Addr) (ag ct:Value) (us:List Value),(us++ds.drop j).length=ps.length ->
   ∃ k,bindArgs (PySem.W.fnOf x y (eN st) (aV st) (ax st) (.ref dt) kV doc pm an ag ct) ⟨us,[]⟩=seqItems? (.ref dt) >>= k/\k (some ds.toArray)=pure (ps.zip (us++ds.drop j))) :
  Binds K (PySem.W.fnOf x y (eN st) (aV st) (ax st) (.ref dt) kV doc pm an ag ct) ps (ds.drop j):=by
 intro s us X hl;obtain ⟨k,h1,h2⟩:=h dt kV doc pm an ag ct us hl;exact BindsTo.of_defaults rfl (X _ _ ld) hd h1 h2
end
section
variable {X:Cx} {tg:Expr}
end
section
variable {X:Cx}
def Wl:List V->Hp->VK->Prop:=fun xs H Q=>match xs with
 | [.int a]=>a.natAbs.log2 < 1920/\Q (.str (Str.ofString (toString a))) H
 | _=>False
end
section
variable {X:Cx}
def RM:V->List V->Hp->VK->Prop:=fun x vs H Q=>match x,vs with
 | .ref l,[.int 0]=>∃ y xs,H l=some (.lst (y::xs))/\Q y (upd H l (.lst xs))
 | _,_=>False
end
section
variable {X:Cx}
def all_true (n:Nat):(List.range n).all (fun _=>true)=true:=by rw [GM]; exact fun _ _=>rfl
def Pu (K:PySem.W.Frag) (neg:Bool):R2:=fun x y H Q=>match x,y with
 | .ref a,.ref b=>∃ xs ys:List V,(aD K H a xs/\aD K H b ys\/bo K H a xs/\bo K H b ys)/\xs.length=ys.length/\xs.all cI=true/\ys.all cI=true/\(∀ i (h1:i < xs.length) (h2:i < ys.length),eY xs[i] ys[i]=true)/\Q (.bl (!neg)) H
 | _,_=>False
def KW {v:V} (h:cI v=true):eY v v=true:=by
 cases v <;> first | rfl | (cases h; done) | simp [eY]
end
def Pp {α:Type} (us ws:List α):List α:=if ws.length=1 then us++ws else []
section
variable {K:PySem.W.Frag} {x qual nm:Str} {st:Stmt} {f:Addr} {fd:FuncData} {ps:List Str} {ds:List Value}
def ZJ {α:Type} {a b c d:α}:Pp [a,b,c] [d]=[a,b,c,d]:=rfl
end
section
variable {X:Cx}
end
def rM (J:It) (n:Nat) (vs:List V) (g:TG) (tt:TT) (te:TE) (Q:VK) (H1:Hp):Prop:=∃ W:Nat->List V->Nat->Hp->Prop,(∃ m,W 0 [] m H1)/\∀ i ys m H,W i ys m H ->
 ys.length<=sizeLine/\((J.stop i H/\∀ l,H l=none->Q (.ref l) (upd H l (.lst ys))) \/
  (J.go i H/\ys.length < sizeLine/\∀ y H',J.jX i H y H'->∀ σ0:St,σ0.length=n->g y (σ0++vs.map some) H' fun σ1 H1=>(∃ σ2:St,σ1=σ2++vs.map some/\σ2.length=n) /\
   tt σ1 H1 fun c H2=>if c=true then te σ1 H2 fun z H3=>∃ m',m' < m/\W (i+1) (ys++[z]) m' H3 else ∃ m',m' < m/\W (i+1) ys m' H2))
def Ju {n:Nat} {ix:List Nat} {wi:TI} {g:TG} {tt:TT} {te:TE} {σ:St} {H:Hp} {Q:VK}:og n ix wi g tt te σ H Q=∃ vs,jj ix σ vs/\wi σ H fun J H1=>rM J n vs g tt te Q H1:=rfl
def Rh {K:PySem.W.Frag} {C:Addr} {y:Str} {st:Stmt} {ps:List Str} {fld:Str} {M:MT K C "__init__" y st ps} (q:v8 K C=true) (sa:PySem.W.findIn K (.ref C) "__setattr__" = some (some (.builtin "object.__setattr__"))) (na:PySem.W.findIn K (.ref C) fld=some none) (ob:PySem.W.mroIn K C (.type "object")=some true)
  (be:PySem.W.mroIn K C (.type "BaseException")=some true) (self:PySem.W.mroIn K C (.ref C)=some true) (kp:PySem.W.keepIn K (.ref C)=true):gy K C M.f fld:=⟨q,M.h.at_,eq_of_beq M.h.fn,sa,na,ob,be,self,kp⟩
end L2
open PySem PySem.Spec PyProof.Rows
namespace L2
section
variable {X:Cx}
def xr (n b:Bool):Bool:=match n with | false=>b | true=>!b
def yy (n b:Bool):(n ^^ b)=xr n b:=by cases n <;> cases b <;> rfl
def tT (neg:Bool):R2:=fun x y H Q=>match x,y with
 | .int i,.int j=>Q (.bl (xr neg (decide (i=j)))) H
 | .str i,.str j=>Q (.bl (xr neg (decide (i=j)))) H
 | .bl i,.bl j=>Q (.bl (xr neg (decide (i=j)))) H
 | _,_=>wo x y=true/\Q (.bl (xr neg (decide (x=y)))) H
def Mf (neg:Bool):pk neg=tT neg:=by
 funext x y H Q; unfold pk tT; simp only [yy] <;> rfl
def mj:aY X (compareOp .Eq) (tT false):=Mf false ▸ Yz
def ki:aY X (compareOp .NotEq) (tT true):=Mf true ▸ Tf
def uA (neg:Bool):R2:=fun x y H Q=>match x,y with
 | .ref a,.ref b=>∃ ts us:List Str,H a=some (.lst (ts.map V.str))/\H b=some (.lst (us.map V.str))/\Q (.bl (xr neg (decide (ts=us)))) H
 | _,_=>False
def Jw (neg:Bool):o6 neg=uA neg:=by
 funext x y H Q; unfold o6 uA; simp only [yy] <;> rfl
def Io (hu:X.A.units < cLine):aY X (compareOp .Eq) (uA false):=Jw false ▸ To hu
def YR (hu:X.A.units < cLine):aY X (compareOp .NotEq) (uA true):=Jw true ▸ QC hu
def tG (K:PySem.W.Frag) (neg:Bool):R2:=fun x y H Q=>match x,y with
 | .ref a,.ref b=>∃ xs ys:List V,aD K H a xs/\aD K H b ys/\((ys=[]/\Q (.bl (xr neg xs.isEmpty)) H)\/(xs=[]/\Q (.bl (xr neg ys.isEmpty)) H))
 | _,_=>False
def JN {K:PySem.W.Frag} (neg:Bool):qf K neg=tG K neg:=by
 funext x y H Q; unfold qf tG; simp only [yy] <;> rfl
def P4 {K:PySem.W.Frag} (hK:X.K=K) (hu:X.A.units < cLine):aY X (compareOp .Eq) (tG K false):=JN (K:=K) false ▸ aaD hK hu
def GZ {K:PySem.W.Frag} (hK:X.K=K) (hu:X.A.units < cLine):aY X (compareOp .NotEq) (tG K true):=JN (K:=K) true ▸ Zi hK hu
end
end L2
namespace L2
open PySem PySem.Spec PyProof.Rows
def O2 {J:It} {tt:TT} {te:TE} {Q:VK} {H:Hp}:su J tt te Q H ↔ rM J 1 [] (gd 0) tt te Q H:=by
 constructor
 ·rintro ⟨W,w0,h⟩;refine ⟨W,w0,fun i ys m H hw=>⟨(h i ys m H hw).1,(h i ys m H hw).2.imp_right fun z=>⟨z.1,z.2.1,fun y H' hy σ0 hσ=>?_⟩⟩⟩;obtain ⟨a,rfl⟩:=zx hσ;exact ⟨⟨[some y],rfl,rfl⟩,z.2.2 y H' hy⟩
 ·rintro ⟨W,w0,h⟩;exact ⟨W,w0,fun i ys m H hw=>⟨(h i ys m H hw).1,(h i ys m H hw).2.imp_right fun z=>⟨z.1,z.2.1,fun y H' hy=>(z.2.2 y H' hy [none] rfl).2⟩⟩⟩
def Mp {wi:TI} {tt:TT} {te:TE} {σ:St} {H:Hp} {Q:VK} (h:vb wi tt te σ H Q):og 1 [] wi (gd 0) tt te σ H Q:=by
 rw [MB] at h;rw [Ju];have e:(fun (J:It) H1=>su J tt te Q H1)=fun J H1=>rM J 1 [] (gd 0) tt te Q H1:=by funext J H1; exact propext O2
 rw [e] at h;exact ⟨[],⟨rfl,by simp⟩,h⟩
section
variable {X:Cx}
def Dv.Gu {elt iter tg:Expr} {ifs:List Expr} {x:Str} {cl:List (Str×Addr)} {pos:Pos} {scope:Scope} {wi:TI} {tt:TT} {te:TE} (hc:X.calm=true) (hi:QI X tg iter wi)
  (ht:∀ s H ex C,pd (cx X scope cl ([x]++[]) s H ex C) ifs tt) (gU:∀ s H ex C,QG (cx X scope cl ([x]++[]) s H ex C) tg (gd 0)) (he:∀ s H ex C,QE (cx X scope cl ([x]++[]) s H ex C) elt te) (CC:jn X scope cl [] [])
  (hk:scope.kind=.function:=by rfl) (bX:∀ y∈scope.names,y.2=.local->scope.names.lookup y.1=some .local:=by decide +kernel) (cG:∀ y∈scope.names,y.2≠.cell:=by decide +kernel)
  (hs:∀ x,foldedSetIterable iter X.env x=pure x:=by intro _; rfl):QE X (.ListComp elt [⟨tg,iter,ifs,0⟩] scope pos) (vb wi tt te) :=
 ⟨fun pins s σ H Q I h=>(Dv.Dm hc hi ht gU he CC hk bX cG hs).h pins s σ H Q I (Mp h)⟩
def Dv.Jk (i:Nat) {elt iter tg:Expr} {ifs:List Expr} {x:Str} {cl:List (Str×Addr)} {y:Str} {py pos spos:Pos} {scope:Scope} {wi:TI} {tt:TT} {te:TE} (hc:X.calm=true) (hN:X.N.Nodup) (hi:QI X tg iter wi)
  (ht:∀ s H ex C,pd (cx X scope cl ([x]++[]) s H ex C) ifs tt) (gU:∀ s H ex C,QG (cx X scope cl ([x]++[]) s H ex C) tg (gd 0)) (he:∀ s H ex C,QE (cx X scope cl ([x]++[]) s H ex C) elt te) (CC:jn X scope cl [] []) (uL:X.N[i]?=some y:=by rfl) (qV:X.env.scope.names.lookup y=some .local:=by rfl)
  (uM:swapsWith (.ListComp elt [⟨tg,iter,ifs,0⟩] scope pos) (some (.Name y py)) spos.line X.env=pure true:=by rfl)
  (hk:scope.kind=.function:=by rfl) (bX:∀ y∈scope.names,y.2=.local->scope.names.lookup y.1=some .local:=by decide +kernel) (cG:∀ y∈scope.names,y.2≠.cell:=by decide +kernel)
  (hs:∀ x,foldedSetIterable iter X.env x=pure x:=by intro _; rfl):QS X (.Assign [.Name y py] (.ListComp elt [⟨tg,iter,ifs,0⟩] scope pos) spos) (lW (vb wi tt te) (gd i)) :=
 ⟨fun pins s σ H D I h=>(Dv.Lw i hc hN hi ht gU he CC uL qV uM hk bX cG hs).h pins s σ H D I (Mp h)⟩
end
end L2
namespace L2
def Kl {α:Type} {C:List α->Prop} (h:C []):∀ us:List α,us.length=0->C us
 | [],_=>h
def nJ {α:Type} {C:List α->Prop} {n:Nat} (h:∀ a us,us.length=n->C (a::us)):∀ us:List α,us.length=n+1->C us
 | a::us,e=>h a us (Nat.succ.inj e)
def FY {α:Type} {C:List α->Prop} (h:∀ a,C [a]):∀ us:List α,us.length=1->C us:=nJ fun a=>Kl (C:=fun us=>C (a::us)) (h a)
def HZ {α:Type} {C:List α->Prop} (h:∀ a b,C [a,b]):∀ us:List α,us.length=2->C us:=nJ fun a=>FY (C:=fun us=>C (a::us)) (h a)
def si {α:Type} {C:List α->Prop} (h:∀ a b c,C [a,b,c]):∀ us:List α,us.length=3->C us:=nJ fun a=>HZ (C:=fun us=>C (a::us)) (h a)
def pb {α:Type} {C:List α->Prop} (h:∀ a b c d,C [a,b,c,d]):∀ us:List α,us.length=4->C us:=nJ fun a=>si (C:=fun us=>C (a::us)) (h a)
def xl {α:Type} {C:List α->Prop} (h:∀ a b c d e,C [a,b,c,d,e]):∀ us:List α,us.length=5->C us:=nJ fun a=>pb (C:=fun us=>C (a::us)) (h a)
def y6 {α:Type} {C:List α->Prop} (h:∀ a b c d e f,C [a,b,c,d,e,f]):∀ us:List α,us.length=6->C us:=nJ fun a=>xl (C:=fun us=>C (a::us)) (h a)
def Pn {α:Type} {C:List α->Prop} (h:∀ a b c d e f g,C [a,b,c,d,e,f,g]):∀ us:List α,us.length=7->C us:=nJ fun a=>y6 (C:=fun us=>C (a::us)) (h a)
end L2
namespace L2
open PySem PySem.Spec PyProof.Rows
section
open PySem.AutoSeq1 (wpAny_loadPart')
open PySem.MeetsSeq PySem.SeqAt
def Af:∀ {ns:List Int} {us:List Value},Vals (ns.map V.int) us->IntsAre us ns
 | [],_,.nil=>.nil
 | _::_,_,.cons r t=>by
  obtain ⟨k,rfl⟩:=r;exact .cons _ _ (Af t)
def Kk:∀ {ns:List Int} {us:List Value},IntsAre us ns->∃ xs:List (Int×Tok),us=xs.map (fun p=>Value.int p.1 p.2)/\ns=xs.map (·.1)
 | _,_,.nil=>⟨[],rfl,rfl⟩
 | _,_,.cons n t h=>by
  obtain ⟨xs,e1,e2⟩:=Kk h;exact ⟨(n,t)::xs,by rw [e1]; rfl,by rw [e2]; rfl⟩
end
section
variable {X:Cx}
def Az (K:PySem.W.Frag):V->List V->Hp->VK->Prop:=fun x vs H Q=>match x,vs with
 | .ref l,[.int k]=>∃ ns:List Int,aD K H l (ns.map V.int)/\k∈ns/\Q (.int (ns.idxOf k:Nat)) H
 | _,_=>False
def VR (K:PySem.W.Frag):V->List V->Hp->VK->Prop:=fun x vs H Q=>match x,vs with
 | .ref l,[.int k]=>∃ ns:List Int,bo K H l (ns.map V.int)/\k∈ns/\Q (.int (ns.idxOf k:Nat)) H
 | _,_=>False
def LI {K:PySem.W.Frag} (hK:X.K=K):dg X "list.index" (Az K):=by
 subst hK;intro pins s σ H x vs v us Q I rx rv h;unfold Az at h;split at h
 ·rename_i l k;obtain ⟨ns,hl,hk,q⟩:=h;cases rx;obtain ⟨u,rfl,ru⟩:=vals1 rv;obtain ⟨t,rfl⟩:=ru;obtain ⟨ao,r',⟨⟨cls,dd,data,sl⟩,n,ho,hc,hd,hs⟩,hz⟩:=I.list hl;simp only at hc hd hs;subst hc hd hs;have hi:=Af r';have hlen:=hi.length;have hj:ns.idxOf k < ns.length:=List.idxOf_lt_length_iff.mpr hk;rw [At] at hz;have gY:sizeLine < 2 ^ 62:=by decide
  refine _d Ja3 ⟨_,ho,rfl⟩ PySem.F.entry_list_index (PySem.F.args_list_index_2 _ _)
   (PySem.SeqAt.list_indexAt l ao.toArray n none sl (.int k t) (isInt k) (ns.idxOf k) (by simpa [hlen] using hj) (by omega) ?_ ?_) ⟨ho,fun y hy=>(eq_isInt k t hi y (by simpa using hy)).at _ _,⟨.int _,H,I.kept (t':=s.toks+1) fun _ _ e=>e,⟨_,rfl⟩,q⟩⟩
  ·show isInt k ao[ns.idxOf k]=true;rw [isInt_at k hi _ (by omega) hj]
   simpa using List.getElem_idxOf hj
  ·intro j hjs bN;show isInt k ao[j]=false;rw [isInt_at k hi j (by simpa using hjs) (by omega)];exact ne_of_lt_idxOf bN _
 ·exact h.elim
def Cg (K:PySem.W.Frag):List V->Hp->VK->Prop:=fun xs H Q=>match xs with
 | [.ref p]=>∃ (ns:List Int) (m:Int),aD K H p (ns.map V.int)/\m∈ns/\(∀ k∈ns,m<=k)/\Q (.int m) H
 | _=>False
def Uk {K:PySem.W.Frag} (hK:X.K=K) (hc:X.calm=true):cA X (.builtin "min") (Cg K):=by
 subst hK;intro pins s σ H xs us Q I r h;unfold Cg at h;split at h
 ·obtain ⟨ns,m,hl,hm,hle,q⟩:=h;obtain ⟨u,rfl,rx⟩:=vals1 r;cases rx;obtain ⟨ao,r',pl,hz⟩:=I.list hl;obtain ⟨xs,e1,e2⟩:=Kk (Af r');have he:ao.toArray=intItems xs.toArray:=by rw [e1]; simp [intItems]
  rw [he] at pl;have hx:0 < xs.length:=by
   rw [e2] at hm;cases xs with
   | nil=>cases hm
   | cons _ _=>exact Nat.succ_pos _
  refine min_intList (I.ok.hd hc) pl.isList (by simpa using hx) fun v h' tk hv hk=>?_;obtain ⟨t,rfl⟩:=intItems_at hv;obtain ⟨qP,xO⟩:=PySem.argBest_lt (numAt xs.toArray) (xs.toArray.size - 1);refine ⟨.int m,H,I.kept (t':=tk) hk,⟨t,?_⟩,q⟩;have hn:∀ i (h:i < xs.length),numAt xs.toArray i=xs[i].1:=fun i h=>by simp [numAt,h]
  have hsz:xs.toArray.size=xs.length:=by simp
  rw [hsz] at qP xO ⊢;generalize argBest _ (xs.length - 1)=a at qP xO ⊢;have ha:a < xs.length:=by omega
  have h1:m<=numAt xs.toArray a:=hle _ (by rw [e2,hn a ha]; exact List.mem_map_of_mem (_1 ha));rw [e2] at hm;obtain ⟨p,hp,hpm⟩:=LE.mp hm;obtain ⟨i,hi,rfl⟩:=_z hp;have h2:=xO i (by omega);rw [hn i hi,hpm] at h2;rw [show numAt xs.toArray a=m by omega]
 ·exact h.elim
end
end L2
namespace HT
open PySem PySem.Spec PyProof.Rows
section
variable {prog:Program} {w:World} {A:Around} {E:Value->Shared->Prop} {s:Shared}
end
end HT
namespace L2
open PySem PySem.Spec PyProof.Rows
section
variable {X:Cx}
def Sh (K:PySem.W.Frag):R2:=fun x y H Q=>match x,y with
 | .ref a,.ref b=>∃ xs ys,bo K H a xs/\bo K H b ys/\xs.length+ys.length<=sizeLine/\((xs=[]/\Q (.ref b) H)\/(xs≠[]/\ys≠[]/\∀ p,H p=none->Q (.ref p) (upd H p (.tup (xs++ys)))))
 | _,_=>False
def QK (K:PySem.W.Frag):R2:=fun x y H Q=>match x,y with
 | .ref a,.ref b=>∃ xs,bo K H a xs/\bo K H b []/\Q (.bl xs.isEmpty) H
 | _,_=>False
def Wg (K:PySem.W.Frag):V->Option Int->Option Int->Hp->VK->Prop:=fun x lo hi H Q=>match x with
 | .ref a=>∃ xs,bo K H a xs/\(HT.cT xs.length 0 lo=0/\HT.cT xs.length xs.length hi=xs.length->Q (.ref a) H)/\(∀ p,H p=none->Q (.ref p) (upd H p (.tup (fi xs lo hi))))
 | _=>False
def Q4 (r:V->List V->Hp->VK->Prop) (to:TE) (t:TA):TE:=fun σ H Q=>to σ H fun x H1=>match x with
 | .ref l=>(match H1 l with
  | some (.tup _)=>t σ H1 fun xs H2=>r (.ref l) xs H2 Q
  | _=>False)
 | _=>False
section
variable {o e:Expr} {es:List Expr} {name:Str} {id:String} {r:V->List V->Hp->VK->Prop} {to:TE} {t:TA} {apos bA:Pos}
end
def Up:bootBuiltins "min" = some (.builtin "min"):=by kernel_rfl
end
def aZ.m {j k:Nat} {A:Around} (r:aZ k A) (h:j<=k:=by decide):aZ j A:=r.mono h
def fI {C d x:Addr} {f:Str} {fs gs:List (Str×V)} {v:V} {H:Hp} {Q:V->Prop} (h:H x=some (.ins C d fs)) (s:c7 fs gs) (e:List.lookup f gs=some v) (q:Q v):FI C f (.ref x) H Q:=⟨x,_,_,_,rfl,h,(s f).trans e,q⟩
def mI {C d x:Addr} {f:Str} {fs gs:List (Str×V)} {H:Hp} {q:Prop} (h:H x=some (.ins C d fs)) (s:c7 fs gs) (r:q) (e:List.lookup f gs=none:=by rfl):MI C f (.ref x) H q:=⟨x,_,_,rfl,h,(s f).trans e,r⟩
@[elab_as_elim] theorem fX {H:Hp} {p:Addr} {o:HO} {C:Hp->Prop} (h:H p=none) (k:∀ H1,ai H H1->H1 p=some o->C H1):C (upd H p o):=k _ (ai.upd h) aw
section
variable {prog:Program} {w:World} {A:Around} {E:Value->Shared->Prop} {s:Shared}
def Pj {d:Addr} {es:Array DictEntry} {ep:Nat} (lo:(d == sysModules)=false):PySem.W.KdlSrc prog w "dict" d d es.size (fun i v=>∃ e,es[i]?=some e/\v=e.key) (fun h=>iz h d es ep) where
 type:=fun _ x=>x.typeIs
 there:=fun _ x=>let ⟨_,e,_⟩:=x; ⟨Fk e,Fk e⟩
 keep:=fun _ _ x k=>x.at' (k d (.inl rfl))
 notList:=by decide
 notTuple:=by decide
 hint:=fun _ _ _ _ x q=>PySem.W.kdl_hint_dict x.typeIs q
 iter:=fun _ _ hh x=>⟨_,_,fun _ _ q=>B0 lo x q,AZ hh _ d (GE (let ⟨_,e,_⟩:=x; Fk e)) es ep,⟨⟨_,FM _ rfl,rfl,rfl⟩,x.at' fun _ e=>xz _ e⟩⟩
def sort_1 {a:Addr} {v:Value} {n:Nat} {P:Fin->Shared->Prop} (ho:s.heap.get? a=some (seqObj "list" [v].toArray n)) (h:P (.done (.ret .none)) { s with heap:=sortedHeap s.heap a [v] #[v] }) :
  wpAny (model prog w) A (Builtin.«list.sort» ⟨[.ref a],[]⟩) P E s:=by
 rw [list_sort_plain];have ha:=Fk ho;refine wT (listItems_at ho rfl (wT (listUpdate_at ho rfl ?_)));obtain ⟨e1,h1⟩:∃ e1,(s.heap.update a (Obj.mapSeq fun _=>#[])).get? a=some (seqObj "list" #[] e1):=⟨_,get?_update_seq ho _⟩;refine wT (seqEpoch_at h1 rfl (wT (wpAny_newTuple (wT (JaH (Rs ?_))))));have h6:(((s.heap.update a (Obj.mapSeq fun _=>#[])).push (seqObj "tuple" [v].toArray 0)).push (seqObj "list" #[] 0)).get? a=some (seqObj "list" #[] e1) :=
  xz _ (xz _ h1)
 show wpAny (model prog w) A _ P E { s with heap:=((s.heap.update a (Obj.mapSeq fun _=>#[])).push (seqObj "tuple" [v].toArray 0)).push (seqObj "list" #[] 0) };dsimp only;have h2:([v]:List Value).toArray.size < 2:=by simp
 rw [IN h2,IN h2];refine wT (Cl ?_);rw [StateT.run_pure];refine wT (Cl ?_);dsimp only;refine wT (seqEpoch_at h6 rfl (wT (listUpdate_at h6 rfl ?_ (hsz2:=by rw [Array.size_map]; show (pairsOf [v]).size<=_; rw [pairsOf_size,_V]; exact Jai (GT _)))));simp only [bne_self_eq_false,P3,_i];have hx:(arrOf (SortSt.mk' general' (#[v].zip #[v]) #[] 7 none)).map (·.2)=#[v]:=by
  show (#[v].zip #[v]).map (·.2)=#[v];simp
 rw [hx];exact Cl h
end
section
variable {X:Cx}
def OS {pins:List (Addr×Obj)} {σ:St} {H:Hp} {s:Shared} {Q:VK} {p:Addr} {k:List Key} {v:V} (hc:X.calm=true) (I:Inv X pins σ H s) (hd:H p=some (.dT [(k,v)])) (q:∀ y l,H y=some (.tup (k.map kV))->H l=none->Q (.ref l) (upd H l (.lst [.ref y]))) :
  wpAny (model X.prog X.w) X.A (call (.builtin "sorted") [.ref p]) (EP X pins σ Q) X.xe s:=by
 obtain ⟨hz,hS,xs,hp,o,es,ep,ho,hex,fb,jQ,ES⟩:=id (I.aA p _ hd);cases hp with
 | @cons _ y _ _ hh t =>
 cases t;have hsz:es.size=1:=by rw [<- W1,jQ]; rfl
 have uT:iz s.heap p es ep:=⟨o,ho,hex,fb⟩;refine _4 kind_sorted plain_sorted entry_sorted (args_sorted1 _) ?_;unfold Builtin.«sorted»;refine wT (m:=checkCount "sorted" 1 1 _) (Cl ?_);refine wT (Jav (A:=X.A.in1) (Pj hS) (I.ok.hd hc) uT (by rw [hsz,_V]; decide) fun h' tk acc hk' fe=>?_);obtain ⟨u,hu⟩:∃ u,acc=#[u]:=by
  have e:=fe.1;rw [hsz] at e;obtain ⟨l⟩:=acc
  match l,e with
  | [u],_=>exact ⟨u,rfl⟩
 subst hu;obtain ⟨e,he,rfl⟩:=fe.2 0 u rfl;rw [<- ZB,jQ] at he;cases he;refine wT (JaH ?_ (by rw [_V]; exact Jai (GT _)));have gS:(h'.push (seqObj "list" ([Value.ref y.2.1]:List Value).toArray 0)).get? h'.objs.size=some (seqObj "list" ([Value.ref y.2.1]:List Value).toArray 0):=FM _ rfl;refine wT (Rs (_2 slot_list_sort ⟨_,gS,rfl⟩ entry_list_sort (sort_1 gS ⟨_,rfl,?_⟩) (args_list_sort _)));refine Cl ⟨_,rfl,?_⟩;obtain ⟨e,he⟩:=sortedHeap_at (out:=#[Value.ref y.2.1]) gS;have I1:Inv X pins σ H { s with heap:=h',toks:=tk }:=I.kept (t':=tk) hk';refine ⟨.ref h'.objs.size,_,I1.laid (t':=tk) (fun b o z=>?_) (Ev _) (show bI X.prog X.w _ _ _ (.lst [.ref y.2.1]) from ⟨by rw [_V]; exact Jai (GT _),[Value.ref y.2.1],e,.cons rfl .nil,he⟩),rfl,q _ _ hh.2.1 (I1.aA.fresh (Ev _))⟩;have hb:b < h'.objs.size:=Fk z;exact (sortedHeap_old (GE hb) (show b < (h'.push _).objs.size by rw [_p]; exact Ja8 hb)).trans (xz _ z)
def Xo:List V->Hp->VK->Prop:=fun xs H Q=>∃ p kvs,xs=[.ref p]/\H p=some (.dT kvs)/\((kvs=[]/\∀ l,H l=none->Q (.ref l) (upd H l (.lst [])))\/∃ k v,kvs=[(k,v)]/\∀ y l,H y=some (.tup (k.map kV))->H l=none->Q (.ref l) (upd H l (.lst [.ref y])))
def P9 (hc:X.calm=true):cA X (.builtin "sorted") Xo:=by
 intro pins s σ H xs us Q I r h;obtain ⟨p,kvs,rfl,hd,h⟩:=h;obtain ⟨u,rfl,rx⟩:=vals1 r;cases rx;rcases h with ⟨rfl,q⟩ | ⟨k,v,rfl,q⟩
 ·exact Jh hc I hd q
 ·exact OS hc I hd q
def HP {te:TE} {H:Hp} {Q:VK} {vs:List V} (m:Nat) (W:Nat->List V->Hp->Prop) (hm:m<=1000) (w0:W 0 [] H) (wl:∀ i ys H1,W i ys H1->ys.length=i)
  (he:∀ k ys H1,k < m->W k ys H1->∀ R:VK,(∀ z H2,W (k+1) (ys++[z]) H2->R z H2)->te (some (.int (k:Int))::vs.map some) H1 R)
  (q:∀ ys H1 l,W m ys H1->H1 l=none->Q (.ref l) (upd H1 l (.lst ys))) :
  rM (jZ 0 ((m:Int)).toNat) 1 vs (gd 0) nN te Q H:=by
 have hsz:m<=sizeLine:=fits hm;refine ⟨fun i zs k H1=>W i zs H1/\i<=m/\k=m - i,⟨_,w0,GT _,rfl⟩,?_⟩;rintro i zs k H1 ⟨hw,hi,rfl⟩;have hlen:=wl _ _ _ hw;refine ⟨by omega,?_⟩;by_cases h:i < m
 ·refine .inr ⟨show i < ((m:Int)).toNat by omega,by omega,?_⟩;rintro v H' ⟨rfl,rfl⟩ σ0 hσ0;obtain ⟨a,rfl⟩:=zx hσ0;refine ⟨⟨[some (.int (0+(i:Int)))],rfl,rfl⟩,?_⟩;have e0:(0+(i:Int))=(i:Int):=by omega
  show nN _ _ _;unfold nN;dsimp only;rw [IN rfl];have st:=he i zs _ h hw (fun z H3=>∃ m',m' < m - i/\W (i+1) (zs++[z]) H3/\i+1<=m/\m'=m - (i+1)) (fun v H2 x=>⟨m - (i+1),by omega,x,h,rfl⟩);rw [<- e0] at st;exact st
 ·have e:i=m:=by omega
  subst e;exact .inl ⟨show ((i:Int)).toNat<=i by omega,fun l hl=>q _ _ _ hw hl⟩
end
def DE (K:PySem.W.Frag) (H:Hp):Nat->V->V->Prop
 | 0,x,y=>cI x=true/\cI y=true/\eY x y=true
 | n+1,x,y=>(cI x=true/\cI y=true/\eY x y=true)\/∃ a b xs ys,x=.ref a/\y=.ref b/\(aD K H a xs/\aD K H b ys\/bo K H a xs/\bo K H b ys)/\xs.length=ys.length/\∀ i (h1:i < xs.length) (h2:i < ys.length),DE K H n xs[i] ys[i]
section
variable {X:Cx}
def wI {xs:List V} {i1:List Value} (r1:Vals xs i1) (j:Nat) (g1:j < i1.toArray.size):∃ (j1:j < xs.length),RelV xs[j] i1.toArray[j]:=by
 have j1:j < xs.length:=by rw [r1.length]; simpa using g1
 obtain ⟨u1,e1,ru1⟩:=r1.get (Db j1);have w1:i1.toArray[j]=u1:=by
  have:=(Do.mp e1).2
  simpa using this
 exact ⟨j1,by rw [w1]; exact ru1⟩
def Mn {pins:List (Addr×Obj)} {σ:St} {H:Hp} {s:Shared} (I:Inv X pins σ H s) {n:Nat} (ih:∀ {A:Around} {x y:V} {v u:Value},DE X.K H n x y->RelV x v->RelV y u->A.units+n < cLine->SeqAt.EqAt A s v u true)
  {A:Around} {a b:Addr} {xs ys:List V} (ff:aD X.K H a xs/\aD X.K H b ys\/bo X.K H a xs/\bo X.K H b ys) (hl:xs.length=ys.length) (he:∀ i (h1:i < xs.length) (h2:i < ys.length),DE X.K H n xs[i] ys[i]) (hu:A.units+(n+1) < cLine):SeqAt.RcAt A s (.ref a) (.ref b) true:=by
 have el:∀ {i1 i2:List Value},Vals xs i1->Vals ys i2->∀ (j:Nat) (g1:j < i1.toArray.size) (g2:j < i2.toArray.size),SeqAt.EqAt A.in1 s i1.toArray[j] i2.toArray[j] true:=fun r1 r2 j g1 g2=>by
  obtain ⟨j1,u1⟩:=wI r1 j g1;obtain ⟨j2,u2⟩:=wI r2 j g2;exact ih (he j j1 j2) u1 u2 (show A.units+1+n < cLine by omega)
 rcases ff with ⟨ha,hb⟩ | ⟨ha,hb⟩
 ·obtain ⟨i1,r1,p1,_⟩:=I.list ha;obtain ⟨i2,r2,p2,_⟩:=I.list hb;have hsz:i1.toArray.size=i2.toArray.size:=by rw [Fr,Fr,<- r1.length,<- r2.length,hl]
  have k:=SeqAt.RcAt.lists (A:=A) (s:=s) (e:=fun _=>true) p1.isList p2.isList hsz (by omega) (el r1 r2);rw [all_true] at k;exact k
 ·obtain ⟨i1,r1,p1,_⟩:=I.tuple ha;obtain ⟨i2,r2,p2,_⟩:=I.tuple hb;have hsz:i1.toArray.size=i2.toArray.size:=by rw [Fr,Fr,<- r1.length,<- r2.length,hl]
  have k:=SeqAt.RcAt.tuples (A:=A) (s:=s) (e:=fun _=>true) p1 p2 (by omega) (el r1 r2);rw [all_true,hsz,beq_self_eq_true,Bool.and_self] at k;exact k
def Di {pins:List (Addr×Obj)} {σ:St} {H:Hp} {s:Shared} (I:Inv X pins σ H s):∀ (n:Nat) {A:Around} {x y:V} {v u:Value},DE X.K H n x y->RelV x v->RelV y u->A.units+n < cLine->SeqAt.EqAt A s v u true
 | 0,A,x,y,v,u,h,rx,ry,hu=>by
  have:=zY (A:=A) (s:=s) rx ry h.1 h.2.1;rw [h.2.2] at this;exact this
 | n+1,A,x,y,v,u,h,rx,ry,hu=>by
  rcases h with h | ⟨a,b,xs,ys,rfl,rfl,ff,hl,he⟩
  ·have:=zY (A:=A) (s:=s) rx ry h.1 h.2.1;rw [h.2.2] at this;exact this
  ·cases rx; cases ry;by_cases e:a=b
   ·subst e; exact SeqAt.EqAt.same _
   ·exact SeqAt.EqAt.of_refs e (Mn I (Di I n) ff hl he hu)
def wy (K:PySem.W.Frag) (n:Nat):R2:=fun x y H Q=>match x,y with
 | .ref a,.ref b=>∃ xs ys:List V,(aD K H a xs/\aD K H b ys\/bo K H a xs/\bo K H b ys)/\xs.length=ys.length/\(∀ i (h1:i < xs.length) (h2:i < ys.length),DE K H n xs[i] ys[i])/\Q (.bl true) H
 | _,_=>False
def DR {K:PySem.W.Frag} (n:Nat) (hK:X.K=K) (hu:X.A.units+(n+1) < cLine):aY X (compareOp .Eq) (wy K n):=by
 subst hK;intro pins s σ H x y v u Q I rx ry h;unfold wy at h;split at h
 ·obtain ⟨xs,ys,ff,hl,he,q⟩:=h;cases rx; cases ry;exact Mn I (Di I n) ff hl he hu _ _ _ _ ⟨.bl _,H,I,rfl,q⟩
 ·exact h.elim
end
def aZ.u9 {k:Nat} {A:Around} (r:aZ k A):A.units+(4+1) < cLine:=by have:=r.un; omega
def Yd:List V->Hp->VK->Prop:=fun xs H Q=>match xs with
 | [.int a,.int b]=>Q (.int (if b < a then b else a)) H
 | _=>False
def CO (K:PySem.W.Frag) (n:Nat):R2:=fun x y H Q=>match x,y with
 | .ref a,.ref b=>∃ xs ys:List V,bo K H a xs/\bo K H b ys/\xs.length=ys.length/\(∀ i (h1:i < xs.length) (h2:i < ys.length),DE K H n xs[i] ys[i])/\Q (.bl false) H
 | _,_=>False
def OM {X:Cx} {K:PySem.W.Frag} (n:Nat) (hK:X.K=K) (hu:X.A.units+(n+1) < cLine):aY X (compareOp .NotEq) (CO K n):=by
 subst hK;intro pins s σ H x y v u Q I rx ry h;unfold CO at h;split at h
 ·obtain ⟨xs,ys,ha,hb,hl,he,q⟩:=h;cases rx; cases ry;obtain ⟨i1,r1,p1,_⟩:=I.tuple ha;obtain ⟨i2,r2,p2,_⟩:=I.tuple hb;have hsz:i1.toArray.size=i2.toArray.size:=by rw [Fr,Fr,<- r1.length,<- r2.length,hl]
  have k:=SeqAt.RcNeAt.tuples (A:=X.A) (s:=s) (e:=fun _=>true) p1 p2 (by omega) (fun j g1 g2=>by
   obtain ⟨j1,u1⟩:=wI r1 j g1;obtain ⟨j2,u2⟩:=wI r2 j g2;exact Di I n (he j j1 j2) u1 u2 (show X.A.units+1+n < cLine by omega))
  rw [all_true,hsz,beq_self_eq_true,Bool.and_self] at k;exact k _ _ _ _ ⟨.bl _,H,I,rfl,q⟩
 ·exact h.elim
def G0:∀ es:List Ent,(dA es).length=3 * es.length
 | []=>rfl
 | e::r=>by show (dA r).length+1+1+1=3 * (r.length+1); rw [G0 r]; omega
def Z3 {P:Addr} {es:List Ent} {q:Str}:gr P es≠n9 P q:=fun e=>by
 have e:=HO.ext.inj e
 let o:Obj:={ cls:=.none,data:=.fields #[.none,.str q 0] }
 let h:Heap:=Heap.push ⟨Array.replicate P o,{}⟩ o
 have hg:h.get? P=some o:=by
  have:=FM (⟨Array.replicate P o,{}⟩:Heap) (o:=o) rfl;rw [show (⟨Array.replicate P o,{}⟩:Heap).objs.size=P from Array.size_replicate] at this;exact this
 have h1:h.CodeRec (.ref P) q:=⟨P,o,_,0,rfl,hg,rfl,rfl⟩;have h2:h.get? P=some (PySem.W.tabObj (dA es).toArray):=(congrFun e h).mpr h1;rw [hg] at h2;have h3:=UF Obj.data (PP h2);have h4:#[Value.none,.str q 0]=(dA es).toArray:=by injection h3
 have h5:=UF Array.size h4;rw [Fr,Fr,G0] at h5;have h6:(2:Nat)=3 * es.length:=h5;omega
end L2
set_option maxHeartbeats 0
namespace L2.bG
open PySem PySem.Spec PyProof.Rows
local macro_rules | `(tactic| walk_at "s")=>`(tactic| exact ⟨rfl,rfl,rfl,by decide +kernel,rfl,by decide +kernel,by decide +kernel⟩)
abbrev e_ (N:List Str) (s:Stmt):Prop:=aE N N (ax s)
abbrev _root_.L2.FT.k {K:PySem.W.Frag} {mg:Str->Option Value} {a b:Str} {st:Stmt} {ps:List Str} (t:FT K mg a b st ps) (P:Program) (w:World) (base:Heap) (n:Nat) (q:Sp):Prop:=aB P w K mg base aI n t.f t.d ps q
abbrev _root_.L2.MT.k {K:PySem.W.Frag} {C:Addr} {a b:Str} {st:Stmt} {ps:List Str} (t:MT K C a b st ps) (P:Program) (w:World) (mg:Str->Option Value) (base:Heap) (n:Nat) (q:Sp):Prop:=aB P w K mg base aI n t.f t.d ps q
def top (i:Nat):Stmt:=PySem.Challenge.pw_leadnames_k42_seats.main.body.getD i (.Pass ⟨0,0,0,0⟩)
abbrev JG:=top 13
abbrev IK:=top 14
abbrev Gg:=top 15
abbrev Be:=top 16
abbrev K8:=top 27
abbrev JP:=top 28
abbrev Ln:=top 29
abbrev FV:=top 30
abbrev Kv:=top 31
abbrev HN:=top 32
abbrev LJ:=top 33
abbrev LO:=top 34
abbrev Jx:=top 35
abbrev F8:=top 36
abbrev CM:=top 37
abbrev zl:=top 51
abbrev AH:=top 52
abbrev yF:=top 53
abbrev AQ:=top 54
abbrev sQ:=top 55
abbrev se:=top 56
abbrev zj:=top 59
abbrev AX:=top 60
abbrev zt:=top 61
abbrev yW:=top 62
abbrev zi:=top 63
abbrev B1:=top 65
abbrev CK:=top 66
abbrev AY:=top 67
abbrev zu:=top 68
abbrev Aq:=top 71
abbrev yN:=top 72
abbrev pM:=top 73
abbrev qc:=top 74
abbrev zI:=top 75
abbrev CL:=top 76
abbrev AO:=top 77
abbrev Kj:=top 82
abbrev Md:=top 83
abbrev FZ:=top 84
abbrev Hr:=top 85
abbrev zT:=top 86
abbrev By:=top 87
abbrev ze:=top 88
abbrev BM:=top 89
abbrev jv:=top 90
abbrev DD:=top 91
abbrev Ct:=top 92
abbrev zS:=top 93
abbrev fB:=top 94
abbrev tS:=top 95
def Xu:e_ ["house","folder"] JG:=by walk_at "s"
def AE:aE ["house","folder","base"] ["house","folder"] (ax IK):=by walk_at "s"
def IZ:aE ["house","folder","stack"] ["house","folder"] (ax Gg):=by walk_at "s"
def nX:aE ["house","asker","folder","root","here","stack","place"] ["house","asker","folder"] (ax Be):=by walk_at "s"
def Yl:e_ ["number"] K8:=by walk_at "s"
def ZZ:e_ ["text"] JP:=by walk_at "s"
def XD:e_ ["text"] Ln:=by walk_at "s"
def aaM:e_ ["text"] FV:=by walk_at "s"
def WY:e_ ["text"] Kv:=by walk_at "s"
def HL:aE ["path","parts"] ["path"] (ax HN):=by walk_at "s"
def ZM:e_ ["text"] LJ:=by walk_at "s"
def Qx:e_ ["text"] LO:=by walk_at "s"
def WQ:e_ ["text"] Jx:=by walk_at "s"
def QF:e_ ["text"] F8:=by walk_at "s"
def RJ:e_ ["path"] CM:=by walk_at "s"
def px:aE ["house","asker","folder","root","names","stack","place"] ["house","asker","folder"] (ax zl):=by walk_at "s"
def Ge:aE ["leads","first"] ["leads"] (ax AH):=by walk_at "s"
def GA:aE ["house","asker","from_root","parts","last","ended"] ["house","asker","from_root","parts","last"] (ax yF):=by walk_at "s"
def FX:aE ["house","asker","path","last","read"] ["house","asker","path","last"] (ax AQ):=by walk_at "s"
def QL:e_ ["house","asker","path","last"] sQ:=by walk_at "s"
def YH:e_ ["house","asker","path","last"] se:=by walk_at "s"
def Tj:e_ ["house","asker","path","other"] zj:=by walk_at "s"
def F4:aE ["path","parts"] ["path"] (ax AX):=by walk_at "s"
def Dn:aE ["house","asker","path","asked","ended"] ["house","asker","path"] (ax zt):=by walk_at "s"
def Sf:e_ ["house","seat"] yW:=by walk_at "s"
def SK:e_ ["told"] zi:=by walk_at "s"
def Ss:e_ ["house","asker","path"] B1:=by walk_at "s"
def YQ:e_ ["house","asker","number","right","reason"] CK:=by walk_at "s"
def We:e_ ["house","asker","folder"] AY:=by walk_at "s"
def XE:e_ ["house","seat"] zu:=by walk_at "s"
def Kg:aE ["house","asker","path","seat"] ["house","asker","path"] (ax Aq):=by walk_at "s"
def Tb:e_ ["house","seat","number"] yN:=by walk_at "s"
def LS:aE ["house","asker","path","mine","rest","seat"] ["house","asker","path","mine","rest"] (ax pM):=by walk_at "s"
def Lg:aE ["house","asker","path","text","mine","rest","seat"] ["house","asker","path","text","mine","rest"] (ax qc):=by walk_at "s"
def HF:aE ["house","asker","path","lead","seat"] ["house","asker","path","lead"] (ax zI):=by walk_at "s"
def Bb:aE ["house","asker","path","other","number","seat"] ["house","asker","path","other"] (ax CL):=by walk_at "s"
def Mo:aE ["house","asker","path","seat","number"] ["house","asker","path"] (ax AO):=by walk_at "s"
def SA:e_ ["_law_script","_law_k"] Kj:=by walk_at "s"
def Ab:aE ["_law_cell","_law_k","_law_number"] ["_law_cell","_law_k"] (ax Md):=by walk_at "s"
def abd:e_ ["_law_cell"] FZ:=by walk_at "s"
def Mc:aE ["_law_source_here","_law_size","_law_found"] ["_law_source_here","_law_size"] (ax Hr):=by walk_at "s"
def UE:e_ ["_law_source_here"] zT:=by walk_at "s"
def tL:aE ["_law_source_here","_law_most","_law_many","_law_parts","_law_joint","_law_text"] ["_law_source_here","_law_most"] (ax By):=by walk_at "s"
def lB:aE ["_law_ask","_law_found","e"] ["_law_ask"] (ax ze):=by walk_at "s"
def SR:e_ ["_law_told_here"] BM:=by walk_at "s"
def oq:aE ["_law_house","_law_cell","_law_source_here","_law_path_here","_law_way","_law_lead","_law_rest"] ["_law_house","_law_cell"] (ax jv):=by walk_at "s"
def kF:aE ["_law_house","_law_asker","_law_path_here","_law_parts","_law_head","_law_number","_law_steps","_law_told_here"] ["_law_house","_law_asker","_law_path_here"] (ax DD):=by walk_at "s"
def RQ:e_ ["_law_house"] Ct:=by walk_at "s"
def Jr:aE ["_law_found","_law_due_here","_law_told_here"] ["_law_found","_law_due_here"] (ax zS):=by walk_at "s"
def rG:aE ["_law_house","_law_asker","_law_path_here","_law_due_here","_law_ahead","_law_found","_law_again"] ["_law_house","_law_asker","_law_path_here"] (ax fB):=by walk_at "s"
def iO:aE ["_law_script","_law_house","_law_cell","_law_source_here","_law_asker","_law_path_here","_law_k"] ["_law_script"] (ax tS):=by walk_at "s"
abbrev II:=inClass (top 10) 0
def O6:e_ ["self","told"] II:=by walk_at "s"
abbrev Gv:=inClass (top 11) 0
def aaS:e_ ["self","reason"] Gv:=by walk_at "s"
abbrev K7:=inClass (top 42) 0
def Ve:e_ ["self","number","kind","owner","mine","rest","text"] K7:=by walk_at "s"
abbrev J9:=inClass (top 42) 1
def aaq:e_ ["self","asker"] J9:=by walk_at "s"
abbrev LW:=inClass (top 43) 0
def RG:e_ ["self"] LW:=by walk_at "s"
abbrev GS:=inClass (top 43) 1
def Ht:aE ["self","kind","owner","mine","rest","text","number"] ["self","kind","owner","mine","rest","text"] (ax GS):=by walk_at "s"
abbrev Hm:=inClass (top 43) 2
def XM:e_ ["self","owner","mine","rest"] Hm:=by walk_at "s"
abbrev JD:=inClass (top 43) 3
def Tc:e_ ["self","owner","text","mine","rest"] JD:=by walk_at "s"
abbrev Im:=inClass (top 43) 4
def Tn:e_ ["self","owner","path"] Im:=by walk_at "s"
abbrev Ii:=inClass (top 43) 5
def Ti:e_ ["self"] Ii:=by walk_at "s"
abbrev Jy:=inClass (top 43) 6
def VY:e_ ["self","number"] Jy:=by walk_at "s"
abbrev Kr:=inClass (top 43) 7
def UC:e_ ["self","folder","name"] Kr:=by walk_at "s"
abbrev MK:=inClass (top 43) 8
def O3:e_ ["self","number"] MK:=by walk_at "s"
abbrev IC:=inClass (top 43) 9
def Ye:e_ ["self","number"] IC:=by walk_at "s"
abbrev Gn:=inClass (top 43) 10
def U1:e_ ["self","number"] Gn:=by walk_at "s"
abbrev IA:=inClass (top 43) 13
def xw:aE ["self","folder","name","number","thing","former","known"] ["self","folder","name","number"] (ax IA):=by walk_at "s"
abbrev HA:=inClass (top 43) 14
def JA:aE ["self","folder","name","number"] ["self","folder","name"] (ax HA):=by walk_at "s"
abbrev LX:=inClass (top 47) 0
def VU:e_ ["self","number","way"] LX:=by walk_at "s"
abbrev G9:=inClass (top 48) 0
def R7:e_ ["self","step","reason"] G9:=by walk_at "s"
abbrev Ag:=inClass (top 49) 0
def V4:e_ ["self","leads"] Ag:=by walk_at "s"
abbrev Dy:=inClass (top 50) 0
def T4:e_ ["self","house","asker","last"] Dy:=by walk_at "s"
abbrev AB:=inClass (top 50) 1
def Gh:aE ["self","from_root","parts","start"] ["self","from_root","parts"] (ax AB):=by walk_at "s"
abbrev Bg:=inClass (top 50) 2
def Kf:aE ["self","part"] ["self"] (ax Bg):=by walk_at "s"
abbrev Bf:=inClass (top 50) 3
def Wm:e_ ["self","reason"] Bf:=by walk_at "s"
abbrev B6:=inClass (top 50) 4
def Xf:e_ ["self","part"] B6:=by walk_at "s"
abbrev DJ:=inClass (top 50) 5
def Lq:aE ["self","stack"] ["self"] (ax DJ):=by walk_at "s"
abbrev zL:=inClass (top 50) 6
def y8:aE ["self","name","number","kind"] ["self","name"] (ax zL):=by walk_at "s"
abbrev yw:=inClass (top 50) 7
def YU:e_ ["self","number"] yw:=by walk_at "s"
abbrev Dd:=inClass (top 50) 8
def LY:aE ["self","number","read"] ["self","number"] (ax Dd):=by walk_at "s"
abbrev DG:=inClass (top 50) 9
def rT:aE ["self","names","folder"] ["self"] (ax DG):=by walk_at "s"
abbrev Mj:=inClass (top 58) 0
def Ro:e_ ["self","folder","name"] Mj:=by walk_at "s"
abbrev KQ:=inClass (top 80) 0
def Vc:e_ ["self","owner"] KQ:=by walk_at "s"
abbrev JH:=inClass (top 80) 1
def Y0:e_ ["self","name"] JH:=by walk_at "s"
abbrev JL:=inClass (top 80) 4
def WK:e_ ["self","asker"] JL:=by walk_at "s"
abbrev KG:=inClass (top 80) 5
def aa8:e_ ["self","asker"] KG:=by walk_at "s"
abbrev IS:=inClass (top 80) 6
def WX:e_ ["self","number"] IS:=by walk_at "s"
abbrev LN:=inClass (top 80) 9
def TU:e_ ["self"] LN:=by walk_at "s"
abbrev Js:=inClass (top 80) 10
def R0:e_ ["self","number","name"] Js:=by walk_at "s"
abbrev IE:=inClass (top 80) 11
def Yn:e_ ["self","number"] IE:=by walk_at "s"
abbrev HM:=inClass (top 80) 12
def QR:e_ ["self","number"] HM:=by walk_at "s"
abbrev JI:=inClass (top 80) 13
def P1:e_ ["self","number"] JI:=by walk_at "s"
abbrev KD:=inClass (top 80) 14
def aaA:e_ ["self","number"] KD:=by walk_at "s"
abbrev GN:=inClass (top 80) 17
def Xj:e_ ["self","asker","number","right"] GN:=by walk_at "s"
abbrev Jt:=inClass (top 80) 23
def Uo:e_ ["self","asker"] Jt:=by walk_at "s"
abbrev F6:=inClass (top 80) 25
def Sy:e_ ["self","number"] F6:=by walk_at "s"
abbrev Hu:=inClass (top 80) 26
def aaz:e_ ["self","name"] Hu:=by walk_at "s"
abbrev HU:=inClass (top 80) 27
def Va:e_ ["self","asker","folder"] HU:=by walk_at "s"
abbrev MD:=inClass (top 80) 28
def aaI:e_ ["self","asker","folder"] MD:=by walk_at "s"
abbrev Ke:=inClass (top 80) 29
def Gx:aE ["self","tree","owner","root"] ["self","tree","owner"] (ax Ke):=by walk_at "s"
set_option genInjectivity false in
set_option genSizeOf false in
structure Tx (K:PySem.W.Frag) (mg:Str->Option Value) where
 fU:FT K mg "top_of" "top_of" JG ["house","folder"]
 pG:FT K mg "base_of" "base_of" IK ["house","folder"]
 dX:FT K mg "stack_of" "stack_of" Gg ["house","folder"]
 pI:FT K mg "is_seen" "is_seen" Be ["house","asker","folder"]
 jU:FT K mg "is_whole" "is_whole" K8 ["number"]
 ia:FT K mg "is_name" "is_name" JP ["text"]
 pH:FT K mg "is_rights" "is_rights" Ln ["text"]
 o9:FT K mg "is_text" "is_text" FV ["text"]
 oZ:FT K mg "is_part" "is_part" Kv ["text"]
 cq:FT K mg "parts_of" "parts_of" HN ["path"]
 iq:FT K mg "check_name" "check_name" LJ ["text"]
 gf:FT K mg "check_rights" "check_rights" LO ["text"]
 qr:FT K mg "check_one_right" "check_one_right" Jx ["text"]
 pU:FT K mg "check_text" "check_text" F8 ["text"]
 ql:FT K mg "check_lead" "check_lead" CM ["path"]
 pF:FT K mg "names_to" "names_to" zl ["house","asker","folder"]
 qu:FT K mg "from_least" "from_least" AH ["leads"]
 ke:FT K mg "walk_parts" "walk_parts" yF ["house","asker","from_root","parts","last"]
 ly:FT K mg "walk_path" "walk_path" AQ ["house","asker","path","last"]
 {FU:Addr}
 {yk:FuncData}
 tR:kH K "walk" "walk" sQ FU yk [.bool true]
 Iy:mg "walk" = some (.ref FU)
 GP:Binds K yk ["house","asker","path","last"] []
 xo:Binds K yk ["house","asker","path","last"] [.bool true]
 {DZ:Addr}
 {yv:FuncData}
 xm:kH K "asked_of" "asked_of" se DZ yv [.bool true]
 T5:mg "asked_of" = some (.ref DZ)
 Jv:Binds K yv ["house","asker","path","last"] []
 zR:Binds K yv ["house","asker","path","last"] [.bool true]
 pV:FT K mg "check_paths" "check_paths" zj ["house","asker","path","other"]
 lC:FT K mg "check_seat" "check_seat" AX ["path"]
 h9:FT K mg "seat_of" "seat_of" zt ["house","asker","path"]
 qd:FT K mg "thing_at" "thing_at" yW ["house","seat"]
 kZ:FT K mg "number_found" "number_found" zi ["told"]
 pE:FT K mg "find_any" "find_any" B1 ["house","asker","path"]
 pL:FT K mg "check_may" "check_may" CK ["house","asker","number","right","reason"]
 pf:FT K mg "check_kept" "check_kept" AY ["house","asker","folder"]
 pC:FT K mg "check_free" "check_free" zu ["house","seat"]
 iy:FT K mg "free_seat_of" "free_seat_of" Aq ["house","asker","path"]
 hZ:FT K mg "seat_thing" "seat_thing" yN ["house","seat","number"]
 {EG:Addr}
 {uQ:FuncData}
 {Nu:Tok}
 {EE:Tok}
 tH:kH K "make_folder" "make_folder" pM EG uQ [.str "lgw" Nu,.str "" EE]
 Mw:mg "make_folder" = some (.ref EG)
 DS:Binds K uQ ["house","asker","path","mine","rest"] []
 JS:Binds K uQ ["house","asker","path","mine","rest"] [.str "" EE]
 Bq:Binds K uQ ["house","asker","path","mine","rest"] [.str "lgw" Nu,.str "" EE]
 {D6:Addr}
 {uH:FuncData}
 {MU:Tok}
 {E7:Tok}
 rH:kH K "make_file" "make_file" qc D6 uH [.str "lgw" MU,.str "" E7]
 Ga:mg "make_file" = some (.ref D6)
 BY:Binds K uH ["house","asker","path","text","mine","rest"] []
 IM:Binds K uH ["house","asker","path","text","mine","rest"] [.str "" E7]
 BN:Binds K uH ["house","asker","path","text","mine","rest"] [.str "lgw" MU,.str "" E7]
 kf:FT K mg "make_lead" "make_lead" zI ["house","asker","path","lead"]
 pN:FT K mg "name_file" "name_file" CL ["house","asker","path","other"]
 kj:FT K mg "drop" "drop" AO ["house","asker","path"]
 qj:FT K mg "_law_cell_at" "_law_cell_at" Kj ["_law_script","_law_k"]
 qi:FT K mg "_law_mixed" "_law_mixed" Md ["_law_cell","_law_k"]
 ik:FT K mg "_law_source" "_law_source" FZ ["_law_cell"]
 cB:FT K mg "_law_next" "_law_next" Hr ["_law_source_here","_law_size"]
 qg:FT K mg "_law_word" "_law_word" zT ["_law_source_here"]
 fW:FT K mg "_law_path" "_law_path" By ["_law_source_here","_law_most"]
 cz:FT K mg "_law_asked" "_law_asked" ze ["_law_ask"]
 kU:FT K mg "_law_told" "_law_told" BM ["_law_told_here"]
 {Ey:Addr}
 {xJ:FuncData}
 xg:fv K "_law_built" "_law_built" jv Ey xJ
 VT:mg "_law_built" = some (.ref Ey)
 zH:Binds K xJ ["_law_house","_law_cell"] []
 kM:FT K mg "_law_due" "_law_due" DD ["_law_house","_law_asker","_law_path_here"]
 ky:FT K mg "_law_all" "_law_all" Ct ["_law_house"]
 kO:FT K mg "_law_refused" "_law_refused" zS ["_law_found","_law_due_here"]
 {EW:Addr}
 {xI:FuncData}
 sX:fv K "_law_right" "_law_right" fB EW xI
 Mu:mg "_law_right" = some (.ref EW)
 uZ:Binds K xI ["_law_house","_law_asker","_law_path_here"] []
 {Fg:Addr}
 {xZ:FuncData}
 wj:fv K "law" "law" tS Fg xZ
 S3:mg "law" = some (.ref Fg)
 Hv:Binds K xZ ["_law_script"] []
 {Ex:Addr}
 XJ:mg "DOTS" = some (.ref Ex)
 BK:∀ H:Hp,bo K H Ex [.str ".",.str ".."]
 {t_FILE:Tok}
 yG:mg "FILE" = some (.str "file" t_FILE)
 {t_FIRST_TREE:Tok}
 QQ:mg "FIRST_TREE" = some (.str "main" t_FIRST_TREE)
 {t_FOLDER:Tok}
 we:mg "FOLDER" = some (.str "folder" t_FOLDER)
 {ee:Addr}
 BR:mg "Failed" = some (.ref ee)
 {dE:Addr}
 vN:mg "Found" = some (.ref dE)
 {aK:Addr}
 Uh:mg "House" = some (.ref aK)
 {t_LEAD:Tok}
 Ph:mg "LEAD" = some (.str "lead" t_LEAD)
 {t_LETTERS:Tok}
 Y6:mg "LETTERS" = some (.str "abcdefghijklmnopqrstuvwxyz" t_LETTERS)
 {EV:Addr}
 Vs:mg "LeadError" = some (.ref EV)
 {t_MOST_IN_LEAD:Tok}
 Z8:mg "MOST_IN_LEAD" = some (.int 120 t_MOST_IN_LEAD)
 {t_MOST_IN_NAME:Tok}
 T6:mg "MOST_IN_NAME" = some (.int 8 t_MOST_IN_NAME)
 {t_MOST_IN_PATH:Tok}
 RV:mg "MOST_IN_PATH" = some (.int 2000 t_MOST_IN_PATH)
 {t_MOST_IN_TEXT:Tok}
 aau:mg "MOST_IN_TEXT" = some (.int 60 t_MOST_IN_TEXT)
 {t_MOST_LEADS:Tok}
 SO:mg "MOST_LEADS" = some (.int 40 t_MOST_LEADS)
 {qF:Addr}
 Qs:mg "NoAsker" = some (.ref qF)
 {eU:Addr}
 wA:mg "NoDeed" = some (.ref eU)
 {uN:Addr}
 ZH:mg "NoRights" = some (.ref uN)
 {qQ:Addr}
 R8:mg "NoThing" = some (.ref qQ)
 {eT:Addr}
 KJ:mg "NoWay" = some (.ref eT)
 {Ej:Addr}
 aao:mg "RIGHTS" = some (.ref Ej)
 BG:∀ H:Hp,bo K H Ej [.str "",.str "l",.str "g",.str "w",.str "lg",.str "lw",.str "gw",.str "lgw"]
 {fH:Addr}
 Rz:mg "Ring" = some (.ref fH)
 {FQ:Addr}
 UG:mg "SINGLE_RIGHTS" = some (.ref FQ)
 CB:∀ H:Hp,bo K H FQ [.str "l",.str "g",.str "w"]
 {lT:Addr}
 Q5:mg "Seat" = some (.ref lT)
 {bb:Addr}
 R3:mg "Thing" = some (.ref bb)
 {aQ:Addr}
 Sz:mg "Things" = some (.ref aQ)
 {bg:Addr}
 Xs:mg "Walk" = some (.ref bg)
 LF:mg "all" = none
 g_bool:mg "bool" = none
 Cr:mg "int" = none
 gu:mg "isinstance" = none
 kN:mg "len" = none
 nH:mg "list" = none
 Hq:mg "min" = none
 zN:mg "range" = none
 Cd:mg "reversed" = none
 GQ:mg "sorted" = none
 qb:mg "str" = none
 rB:MT K eT "__init__" "NoWay.__init__" II ["self","told"]
 nB:MT K eU "__init__" "NoDeed.__init__" Gv ["self","reason"]
 uo:MT K bb "__init__" "Thing.__init__" K7 ["self","number","kind","owner","mine","rest","text"]
 rP:MT K bb "rights_for" "Thing.rights_for" J9 ["self","asker"]
 tF:MT K aQ "__init__" "Things.__init__" LW ["self"]
 kW:MT K aQ "add_thing" "Things.add_thing" GS ["self","kind","owner","mine","rest","text"]
 ou:MT K aQ "add_folder" "Things.add_folder" Hm ["self","owner","mine","rest"]
 sL:MT K aQ "add_file" "Things.add_file" JD ["self","owner","text","mine","rest"]
 rJ:MT K aQ "add_lead" "Things.add_lead" Im ["self","owner","path"]
 rp:MT K aQ "many" "Things.many" Ii ["self"]
 dD:MT K aQ "at" "Things.at" Jy ["self","number"]
 nA:MT K aQ "child" "Things.child" Kr ["self","folder","name"]
 rC:MT K aQ "names_in" "Things.names_in" MK ["self","number"]
 uf:MT K aQ "places_of" "Things.places_of" IC ["self","number"]
 rQ:MT K aQ "place_of" "Things.place_of" Gn ["self","number"]
 rD:MT K aQ "put_name" "Things.put_name" IA ["self","folder","name","number"]
 sA:MT K aQ "drop_name" "Things.drop_name" HA ["self","folder","name"]
 rN:MT K dE "__init__" "Found.__init__" LX ["self","number","way"]
 tO:MT K ee "__init__" "Failed.__init__" G9 ["self","step","reason"]
 rX:MT K fH "__init__" "Ring.__init__" Ag ["self","leads"]
 ur:MT K bg "__init__" "Walk.__init__" Dy ["self","house","asker","last"]
 rn:MT K bg "begin" "Walk.begin" AB ["self","from_root","parts"]
 tQ:MT K bg "go_on" "Walk.go_on" Bg ["self"]
 gM:MT K bg "fail" "Walk.fail" Bf ["self","reason"]
 tq:MT K bg "take_step" "Walk.take_step" B6 ["self","part"]
 rY:MT K bg "go_up" "Walk.go_up" DJ ["self"]
 rg:MT K bg "go_by" "Walk.go_by" zL ["self","name"]
 tN:MT K bg "meet_lead" "Walk.meet_lead" yw ["self","number"]
 uw:MT K bg "read_lead" "Walk.read_lead" Dd ["self","number"]
 rk:MT K bg "true_path" "Walk.true_path" DG ["self"]
 tu:MT K lT "__init__" "Seat.__init__" Mj ["self","folder","name"]
 ux:MT K aK "__init__" "House.__init__" KQ ["self","owner"]
 tW:MT K aK "enroll" "House.enroll" JH ["self","name"]
 ko:MT K aK "root_of" "House.root_of" JL ["self","asker"]
 sI:MT K aK "standing_of" "House.standing_of" KG ["self","asker"]
 iN:MT K aK "kind_of" "House.kind_of" IS ["self","number"]
 uv:MT K aK "many" "House.many" LN ["self"]
 nu:MT K aK "child" "House.child" Js ["self","number","name"]
 uc:MT K aK "names_in" "House.names_in" IE ["self","number"]
 ny:MT K aK "text_of" "House.text_of" HM ["self","number"]
 kG:MT K aK "place_of" "House.place_of" JI ["self","number"]
 qY:MT K aK "places_of" "House.places_of" KD ["self","number"]
 kg:MT K aK "may" "House.may" GN ["self","asker","number","right"]
 dY:MT K aK "check_asker" "House.check_asker" Jt ["self","asker"]
 ue:MT K aK "check_thing" "House.check_thing" F6 ["self","number"]
 oy:MT K aK "add_asker" "House.add_asker" Hu ["self","name"]
 uC:MT K aK "put_root" "House.put_root" HU ["self","asker","folder"]
 rK:MT K aK "put_standing" "House.put_standing" MD ["self","asker","folder"]
 sN:MT K aK "add_tree" "House.add_tree" Ke ["self","tree","owner"]
 kR:cR K ee
 UQ:Mk K ee tO.f
 lb:cR K dE
 TH:Mk K dE rN.f
 aN:cR K aK
 Zd:Mk K aK ux.f
 jV:cR K fH
 Qn:Mk K fH rX.f
 nY:cR K lT
 Vi:Mk K lT tu.f
 dM:cR K bb
 SE:Mk K bb uo.f
 ck:cR K aQ
 Yk:Mk K aQ tF.f
 aG:cR K bg
 Uj:Mk K bg ur.f
 Iq:bD K ee "reason"
 Ig:bD K ee "step"
 v9:bD K dE "number"
 G6:bD K dE "way"
 wJ:bD K aK "changes"
 Dp:bD K aK "first_root"
 Bt:bD K aK "folder_under"
 Zt:bD K aK "holds"
 YY:bD K aK "holds_given"
 yz:bD K aK "root_over"
 rb:bD K aK "roots"
 Dg:bD K aK "standings"
 f9:bD K aK "things"
 HR:bD K aK "tree_roots"
 xp:bD K fH "leads"
 xc:bD K lT "folder"
 B9:bD K lT "name"
 DV:bD K bb "kind"
 IL:bD K bb "mine"
 u0:bD K bb "names"
 Xg:bD K bb "number"
 Hc:bD K bb "owner"
 rL:bD K bb "places"
 JY:bD K bb "rest"
 Jn:bD K bb "text"
 zP:bD K aQ "changes"
 oX:bD K aQ "made"
 yH:bD K bg "asked"
 uk:bD K bg "asker"
 fo:bD K bg "here"
 fz:bD K bg "house"
 KI:bD K bg "last"
 Cu:bD K bg "leads_read"
 nF:bD K bg "left"
 Ha:bD K bg "looked_up"
 vH:bD K bg "place"
 o7:bD K bg "reading"
 rV:bD K bg "root"
 AJ:bD K bg "step"
 mH:bD K bg "told"
 sy:gy K eU nB.f "reason"
 BE:PySem.W.typeIn K (.ref eU)=some (.type "type")
 An:gy K eT rB.f "told"
 XA:PySem.W.typeIn K (.ref eT)=some (.type "type")
 {oQ:Addr}
 Ae:xJ.code=.ref oQ
 {oE:Addr}
 pq:xI.code=.ref oE
 Zn:PySem.W.excIn K qF [.type "ValueError",.type "Exception",.type "BaseException",.type "object"] "ValueError.__new__" = true
 ZW:PySem.W.excIn K uN [.type "ValueError",.type "Exception",.type "BaseException",.type "object"] "ValueError.__new__" = true
 OV:PySem.W.excIn K qQ [.type "ValueError",.type "Exception",.type "BaseException",.type "object"] "ValueError.__new__" = true
 Q6:PySem.W.instIn K (.ref EV) (.type "tuple")=some false
 Wz:PySem.W.mroIn K EV (.type "BaseException")=some true
 P7:PySem.W.instIn K (.ref eU) (.type "tuple")=some false
 Pk:PySem.W.mroIn K eU (.type "BaseException")=some true
 aae:PySem.W.instIn K (.ref eT) (.type "tuple")=some false
 Ry:PySem.W.mroIn K eT (.type "BaseException")=some true
 RL:PySem.W.findIn K (.ref eT) "__class__" = some (some (.builtin "object.__class__"))
 VC:PySem.W.specialIn K (.builtin "object.__class__") "__get__" = some (some (.builtin "getset_descriptor.__get__"))
 Yi:PySem.W.takesIn K (.builtin "object.__class__")=some true
 abb:PySem.W.mroIn K eT (.type "object")=some true
 aaa:PySem.W.findIn K (.ref eT) "__getattribute__" = some (some (.builtin "BaseException.__getattribute__"))
 Qc:PySem.W.findIn K (.ref eT) "__getattr__" = some none
 XU:PySem.W.mroIn K eT (.type "BaseException")=some true
 Sj:PySem.W.findIn K (.ref eU) "__class__" = some (some (.builtin "object.__class__"))
 SJ:PySem.W.specialIn K (.builtin "object.__class__") "__get__" = some (some (.builtin "getset_descriptor.__get__"))
 aaN:PySem.W.takesIn K (.builtin "object.__class__")=some true
 Zh:PySem.W.mroIn K eU (.type "object")=some true
 V0:PySem.W.findIn K (.ref eU) "__getattribute__" = some (some (.builtin "BaseException.__getattribute__"))
 VE:PySem.W.findIn K (.ref eU) "__getattr__" = some none
 ZU:PySem.W.mroIn K eU (.type "BaseException")=some true
 q1:PySem.W.findIn K (.ref dE) "__class__" = some (some (.builtin "object.__class__"))
 q2:PySem.W.specialIn K (.builtin "object.__class__") "__get__" = some (some (.builtin "getset_descriptor.__get__"))
 q3:PySem.W.takesIn K (.builtin "object.__class__")=some true
 q4:PySem.W.mroIn K dE (.type "object")=some true
 q5:PySem.W.kitOne K (.ref dE) (.ref dE)=some true
 q6:PySem.W.findIn K (.ref ee) "__class__" = some (some (.builtin "object.__class__"))
 q7:PySem.W.mroIn K ee (.type "object")=some true
 q8:PySem.W.kitOne K (.ref ee) (.ref dE)=some false
 q9:PySem.W.kitOne K (.ref dE) (.ref ee)=some false
 IV:PySem.W.kitOne K (.ref ee) (.ref ee)=some true
 sx:PySem.W.findIn K (.ref fH) "__class__" = some (some (.builtin "object.__class__"))
 ua:PySem.W.mroIn K fH (.type "object")=some true
 C3:PySem.W.kitOne K (.ref fH) (.ref dE)=some false
 Mt:PySem.W.kitOne K (.ref fH) (.ref ee)=some false
 Rj:PySem.W.subIn K (.ref eT) (.ref eT)=some true
 Qt:PySem.W.subIn K (.ref eU) (.ref eT)=some false
 Qi:PySem.W.subIn K (.ref eU) (.ref eU)=some true
def pT:List Nat:=List.range' 97 26
def isNm (l:List Nat):Bool:=decide (1<=l.length) && decide (l.length<=8) && l.all (pT.contains ·)
def fE:V->Bool
 | .str z=>isNm z.cps.toList
 | _=>false
def Lu:V->Prop
 | .str z=>z.length<=1000
 | _=>True
def stI {t:TS} {D:Ends} {H:Hp} {σ:L2.St} (τ:L2.St) (h:t D τ H) (e:σ=τ:=by rfl):t D σ H:=e ▸ h
inductive X1 {α0:Type} (R:α0->Prop):Prop | mk:∀ x0,R x0->X1 R
inductive X2 {α0 α1:Type} (R:α0->α1->Prop):Prop | mk:∀ x0 x1,R x0 x1->X2 R
inductive X3 {α0 α1 α2:Type} (R:α0->α1->α2->Prop):Prop | mk:∀ x0 x1 x2,R x0 x1 x2->X3 R
inductive X4 {α0 α1 α2 α3:Type} (R:α0->α1->α2->α3->Prop):Prop | mk:∀ x0 x1 x2 x3,R x0 x1 x2 x3->X4 R
inductive X5 {α0 α1 α2 α3 α4:Type} (R:α0->α1->α2->α3->α4->Prop):Prop | mk:∀ x0 x1 x2 x3 x4,R x0 x1 x2 x3 x4->X5 R
inductive X6 {α0 α1 α2 α3 α4 α5:Type} (R:α0->α1->α2->α3->α4->α5->Prop):Prop | mk:∀ x0 x1 x2 x3 x4 x5,R x0 x1 x2 x3 x4 x5->X6 R
inductive X7 {α0 α1 α2 α3 α4 α5 α6:Type} (R:α0->α1->α2->α3->α4->α5->α6->Prop):Prop | mk:∀ x0 x1 x2 x3 x4 x5 x6,R x0 x1 x2 x3 x4 x5 x6->X7 R
inductive X8 {α0 α1 α2 α3 α4 α5 α6 α7:Type} (R:α0->α1->α2->α3->α4->α5->α6->α7->Prop):Prop | mk:∀ x0 x1 x2 x3 x4 x5 x6 x7,R x0 x1 x2 x3 x4 x5 x6 x7->X8 R
inductive X9 {α0 α1 α2 α3 α4 α5 α6 α7 α8:Type} (R:α0->α1->α2->α3->α4->α5->α6->α7->α8->Prop):Prop | mk:∀ x0 x1 x2 x3 x4 x5 x6 x7 x8,R x0 x1 x2 x3 x4 x5 x6 x7 x8->X9 R
inductive JU {α0 α1 α2 α3 α4 α5 α6 α7 α8 α9:Type} (R:α0->α1->α2->α3->α4->α5->α6->α7->α8->α9->Prop):Prop | mk:∀ x0 x1 x2 x3 x4 x5 x6 x7 x8 x9,R x0 x1 x2 x3 x4 x5 x6 x7 x8 x9->JU R
inductive Gq {α0 α1 α2 α3 α4 α5 α6 α7 α8 α9 α10:Type} (R:α0->α1->α2->α3->α4->α5->α6->α7->α8->α9->α10->Prop):Prop | mk:∀ x0 x1 x2 x3 x4 x5 x6 x7 x8 x9 x10,R x0 x1 x2 x3 x4 x5 x6 x7 x8 x9 x10->Gq R
inductive A2 (p0 p1:Prop):Prop | mk:p0->p1->A2 p0 p1
inductive A3 (p0 p1 p2:Prop):Prop | mk:p0->p1->p2->A3 p0 p1 p2
inductive A4 (p0 p1 p2 p3:Prop):Prop | mk:p0->p1->p2->p3->A4 p0 p1 p2 p3
inductive A5 (p0 p1 p2 p3 p4:Prop):Prop | mk:p0->p1->p2->p3->p4->A5 p0 p1 p2 p3 p4
inductive A6 (p0 p1 p2 p3 p4 p5:Prop):Prop | mk:p0->p1->p2->p3->p4->p5->A6 p0 p1 p2 p3 p4 p5
inductive A7 (p0 p1 p2 p3 p4 p5 p6:Prop):Prop | mk:p0->p1->p2->p3->p4->p5->p6->A7 p0 p1 p2 p3 p4 p5 p6
inductive A8 (p0 p1 p2 p3 p4 p5 p6 p7:Prop):Prop | mk:p0->p1->p2->p3->p4->p5->p6->p7->A8 p0 p1 p2 p3 p4 p5 p6 p7
inductive A9 (p0 p1 p2 p3 p4 p5 p6 p7 p8:Prop):Prop | mk:p0->p1->p2->p3->p4->p5->p6->p7->p8->A9 p0 p1 p2 p3 p4 p5 p6 p7 p8
inductive vW (p0 p1 p2 p3 p4 p5 p6 p7 p8 p9:Prop):Prop | mk:p0->p1->p2->p3->p4->p5->p6->p7->p8->p9->vW p0 p1 p2 p3 p4 p5 p6 p7 p8 p9
inductive Bn (p0 p1 p2 p3 p4 p5 p6 p7 p8 p9 p10 p11 p12:Prop):Prop | mk:p0->p1->p2->p3->p4->p5->p6->p7->p8->p9->p10->p11->p12->Bn p0 p1 p2 p3 p4 p5 p6 p7 p8 p9 p10 p11 p12
inductive J5 (p0 p1 p2 p3 p4 p5 p6 p7 p8 p9 p10 p11 p12 p13:Prop):Prop | mk:p0->p1->p2->p3->p4->p5->p6->p7->p8->p9->p10->p11->p12->p13->J5 p0 p1 p2 p3 p4 p5 p6 p7 p8 p9 p10 p11 p12 p13
def a1 (f:V->Hp->VK->XK->Prop):Sp:=fun vs H Q E=>match vs with
 | [x1]=>f x1 H Q E
 | _=>False
def a1.o {f:V->Hp->VK->XK->Prop} {vs:List V} {H:Hp} {Q:VK} {E:XK} (h:a1 f vs H Q E):∃ x1,vs=[x1]/\f x1 H Q E:=by
 unfold a1 at h;split at h
 ·exact ⟨_,rfl,h⟩
 ·exact h.elim
def a2 (f:V->V->Hp->VK->XK->Prop):Sp:=fun vs H Q E=>match vs with
 | [x1,x2]=>f x1 x2 H Q E
 | _=>False
def a2.o {f:V->V->Hp->VK->XK->Prop} {vs:List V} {H:Hp} {Q:VK} {E:XK} (h:a2 f vs H Q E):∃ x1 x2,vs=[x1,x2]/\f x1 x2 H Q E:=by
 unfold a2 at h;split at h
 ·exact ⟨_,_,rfl,h⟩
 ·exact h.elim
def a3 (f:V->V->V->Hp->VK->XK->Prop):Sp:=fun vs H Q E=>match vs with
 | [x1,x2,x3]=>f x1 x2 x3 H Q E
 | _=>False
def a3.o {f:V->V->V->Hp->VK->XK->Prop} {vs:List V} {H:Hp} {Q:VK} {E:XK} (h:a3 f vs H Q E):∃ x1 x2 x3,vs=[x1,x2,x3]/\f x1 x2 x3 H Q E:=by
 unfold a3 at h;split at h
 ·exact ⟨_,_,_,rfl,h⟩
 ·exact h.elim
def a4 (f:V->V->V->V->Hp->VK->XK->Prop):Sp:=fun vs H Q E=>match vs with
 | [x1,x2,x3,x4]=>f x1 x2 x3 x4 H Q E
 | _=>False
def a4.o {f:V->V->V->V->Hp->VK->XK->Prop} {vs:List V} {H:Hp} {Q:VK} {E:XK} (h:a4 f vs H Q E):∃ x1 x2 x3 x4,vs=[x1,x2,x3,x4]/\f x1 x2 x3 x4 H Q E:=by
 unfold a4 at h;split at h
 ·exact ⟨_,_,_,_,rfl,h⟩
 ·exact h.elim
def a5 (f:V->V->V->V->V->Hp->VK->XK->Prop):Sp:=fun vs H Q E=>match vs with
 | [x1,x2,x3,x4,x5]=>f x1 x2 x3 x4 x5 H Q E
 | _=>False
def a5.o {f:V->V->V->V->V->Hp->VK->XK->Prop} {vs:List V} {H:Hp} {Q:VK} {E:XK} (h:a5 f vs H Q E):∃ x1 x2 x3 x4 x5,vs=[x1,x2,x3,x4,x5]/\f x1 x2 x3 x4 x5 H Q E:=by
 unfold a5 at h;split at h
 ·exact ⟨_,_,_,_,_,rfl,h⟩
 ·exact h.elim
def a6 (f:V->V->V->V->V->V->Hp->VK->XK->Prop):Sp:=fun vs H Q E=>match vs with
 | [x1,x2,x3,x4,x5,x6]=>f x1 x2 x3 x4 x5 x6 H Q E
 | _=>False
def a6.o {f:V->V->V->V->V->V->Hp->VK->XK->Prop} {vs:List V} {H:Hp} {Q:VK} {E:XK} (h:a6 f vs H Q E):∃ x1 x2 x3 x4 x5 x6,vs=[x1,x2,x3,x4,x5,x6]/\f x1 x2 x3 x4 x5 x6 H Q E:=by
 unfold a6 at h;split at h
 ·exact ⟨_,_,_,_,_,_,rfl,h⟩
 ·exact h.elim
def a7 (f:V->V->V->V->V->V->V->Hp->VK->XK->Prop):Sp:=fun vs H Q E=>match vs with
 | [x1,x2,x3,x4,x5,x6,x7]=>f x1 x2 x3 x4 x5 x6 x7 H Q E
 | _=>False
def a7.o {f:V->V->V->V->V->V->V->Hp->VK->XK->Prop} {vs:List V} {H:Hp} {Q:VK} {E:XK} (h:a7 f vs H Q E):∃ x1 x2 x3 x4 x5 x6 x7,vs=[x1,x2,x3,x4,x5,x6,x7]/\f x1 x2 x3 x4 x5 x6 x7 H Q E:=by
 unfold a7 at h;split at h
 ·exact ⟨_,_,_,_,_,_,_,rfl,h⟩
 ·exact h.elim
def vR (v:V) (k:Addr->Prop):Prop:=match v with
 | .ref x=>k x
 | _=>False
def vR.o {v:V} {k:Addr->Prop} (h:vR v k):∃ x,v=.ref x/\k x:=by
 unfold vR at h;split at h
 ·exact ⟨_,rfl,h⟩
 ·exact h.elim
def vS (v:V) (k:Str->Prop):Prop:=match v with
 | .str x=>k x
 | _=>False
def vS.o {v:V} {k:Str->Prop} (h:vS v k):∃ x,v=.str x/\k x:=by
 unfold vS at h;split at h
 ·exact ⟨_,rfl,h⟩
 ·exact h.elim
def vI (v:V) (k:Int->Prop):Prop:=match v with
 | .int x=>k x
 | _=>False
def vI.o {v:V} {k:Int->Prop} (h:vI v k):∃ x,v=.int x/\k x:=by
 unfold vI at h;split at h
 ·exact ⟨_,rfl,h⟩
 ·exact h.elim
def vB (v:V) (k:Bool->Prop):Prop:=match v with
 | .bl x=>k x
 | _=>False
def vB.o {v:V} {k:Bool->Prop} (h:vB v k):∃ x,v=.bl x/\k x:=by
 unfold vB at h;split at h
 ·exact ⟨_,rfl,h⟩
 ·exact h.elim
def HE (f:Int->Hp->VK->XK->Prop):Sp:=a1 fun q1 H Q E=>vI q1 fun x1=>f x1 H Q E
@[elab_as_elim] theorem JE {f:Int->Hp->VK->XK->Prop} {vs:List V} {H:Hp} {Q:VK} {E:XK} {G:List V->Prop} (h:HE f vs H Q E) (k:∀ x1,f x1 H Q E->G [.int x1]):G vs:=by
 obtain ⟨_,rfl,h⟩:=a1.o h;obtain ⟨x1,rfl,h⟩:=vI.o h;exact k x1 h
def Gw (f:Int->Int->Hp->VK->XK->Prop):Sp:=a2 fun q1 q2 H Q E=>vI q1 fun x1=>vI q2 fun x2=>f x1 x2 H Q E
@[elab_as_elim] theorem LV {f:Int->Int->Hp->VK->XK->Prop} {vs:List V} {H:Hp} {Q:VK} {E:XK} {G:List V->Prop} (h:Gw f vs H Q E) (k:∀ x1 x2,f x1 x2 H Q E->G [.int x1,.int x2]):G vs:=by
 obtain ⟨_,_,rfl,h⟩:=a2.o h;obtain ⟨x1,rfl,h⟩:=vI.o h;obtain ⟨x2,rfl,h⟩:=vI.o h;exact k x1 x2 h
def ij (f:Addr->Hp->VK->XK->Prop):Sp:=a1 fun q1 H Q E=>vR q1 fun x1=>f x1 H Q E
@[elab_as_elim] theorem da {f:Addr->Hp->VK->XK->Prop} {vs:List V} {H:Hp} {Q:VK} {E:XK} {G:List V->Prop} (h:ij f vs H Q E) (k:∀ x1,f x1 H Q E->G [.ref x1]):G vs:=by
 obtain ⟨_,rfl,h⟩:=a1.o h;obtain ⟨x1,rfl,h⟩:=vR.o h;exact k x1 h
def GO (f:Addr->Bool->Addr->Hp->VK->XK->Prop):Sp:=a3 fun q1 q2 q3 H Q E=>vR q1 fun x1=>vB q2 fun x2=>vR q3 fun x3=>f x1 x2 x3 H Q E
@[elab_as_elim] theorem JR {f:Addr->Bool->Addr->Hp->VK->XK->Prop} {vs:List V} {H:Hp} {Q:VK} {E:XK} {G:List V->Prop} (h:GO f vs H Q E) (k:∀ x1 x2 x3,f x1 x2 x3 H Q E->G [.ref x1,.bl x2,.ref x3]):G vs:=by
 obtain ⟨_,_,_,rfl,h⟩:=a3.o h;obtain ⟨x1,rfl,h⟩:=vR.o h;obtain ⟨x2,rfl,h⟩:=vB.o h;obtain ⟨x3,rfl,h⟩:=vR.o h;exact k x1 x2 x3 h
def iQ (f:Addr->Int->Hp->VK->XK->Prop):Sp:=a2 fun q1 q2 H Q E=>vR q1 fun x1=>vI q2 fun x2=>f x1 x2 H Q E
@[elab_as_elim] theorem bY {f:Addr->Int->Hp->VK->XK->Prop} {vs:List V} {H:Hp} {Q:VK} {E:XK} {G:List V->Prop} (h:iQ f vs H Q E) (k:∀ x1 x2,f x1 x2 H Q E->G [.ref x1,.int x2]):G vs:=by
 obtain ⟨_,_,rfl,h⟩:=a2.o h;obtain ⟨x1,rfl,h⟩:=vR.o h;obtain ⟨x2,rfl,h⟩:=vI.o h;exact k x1 x2 h
def wq (f:Addr->Int->Str->Hp->VK->XK->Prop):Sp:=a3 fun q1 q2 q3 H Q E=>vR q1 fun x1=>vI q2 fun x2=>vS q3 fun x3=>f x1 x2 x3 H Q E
@[elab_as_elim] theorem pa {f:Addr->Int->Str->Hp->VK->XK->Prop} {vs:List V} {H:Hp} {Q:VK} {E:XK} {G:List V->Prop} (h:wq f vs H Q E) (k:∀ x1 x2 x3,f x1 x2 x3 H Q E->G [.ref x1,.int x2,.str x3]):G vs:=by
 obtain ⟨_,_,_,rfl,h⟩:=a3.o h;obtain ⟨x1,rfl,h⟩:=vR.o h;obtain ⟨x2,rfl,h⟩:=vI.o h;obtain ⟨x3,rfl,h⟩:=vS.o h;exact k x1 x2 x3 h
def Ho (f:Addr->Int->Str->Int->Hp->VK->XK->Prop):Sp:=a4 fun q1 q2 q3 q4 H Q E=>vR q1 fun x1=>vI q2 fun x2=>vS q3 fun x3=>vI q4 fun x4=>f x1 x2 x3 x4 H Q E
@[elab_as_elim] theorem KP {f:Addr->Int->Str->Int->Hp->VK->XK->Prop} {vs:List V} {H:Hp} {Q:VK} {E:XK} {G:List V->Prop} (h:Ho f vs H Q E) (k:∀ x1 x2 x3 x4,f x1 x2 x3 x4 H Q E->G [.ref x1,.int x2,.str x3,.int x4]):G vs:=by
 obtain ⟨_,_,_,_,rfl,h⟩:=a4.o h;obtain ⟨x1,rfl,h⟩:=vR.o h;obtain ⟨x2,rfl,h⟩:=vI.o h;obtain ⟨x3,rfl,h⟩:=vS.o h;obtain ⟨x4,rfl,h⟩:=vI.o h;exact k x1 x2 x3 x4 h
def sU (f:Addr->Addr->Hp->VK->XK->Prop):Sp:=a2 fun q1 q2 H Q E=>vR q1 fun x1=>vR q2 fun x2=>f x1 x2 H Q E
@[elab_as_elim] theorem mG {f:Addr->Addr->Hp->VK->XK->Prop} {vs:List V} {H:Hp} {Q:VK} {E:XK} {G:List V->Prop} (h:sU f vs H Q E) (k:∀ x1 x2,f x1 x2 H Q E->G [.ref x1,.ref x2]):G vs:=by
 obtain ⟨_,_,rfl,h⟩:=a2.o h;obtain ⟨x1,rfl,h⟩:=vR.o h;obtain ⟨x2,rfl,h⟩:=vR.o h;exact k x1 x2 h
def K0 (f:Addr->Addr->Int->Hp->VK->XK->Prop):Sp:=a3 fun q1 q2 q3 H Q E=>vR q1 fun x1=>vR q2 fun x2=>vI q3 fun x3=>f x1 x2 x3 H Q E
@[elab_as_elim] theorem Lh {f:Addr->Addr->Int->Hp->VK->XK->Prop} {vs:List V} {H:Hp} {Q:VK} {E:XK} {G:List V->Prop} (h:K0 f vs H Q E) (k:∀ x1 x2 x3,f x1 x2 x3 H Q E->G [.ref x1,.ref x2,.int x3]):G vs:=by
 obtain ⟨_,_,_,rfl,h⟩:=a3.o h;obtain ⟨x1,rfl,h⟩:=vR.o h;obtain ⟨x2,rfl,h⟩:=vR.o h;obtain ⟨x3,rfl,h⟩:=vI.o h;exact k x1 x2 x3 h
def LP (f:Addr->Addr->Str->Bool->Hp->VK->XK->Prop):Sp:=a4 fun q1 q2 q3 q4 H Q E=>vR q1 fun x1=>vR q2 fun x2=>vS q3 fun x3=>vB q4 fun x4=>f x1 x2 x3 x4 H Q E
@[elab_as_elim] theorem Mi {f:Addr->Addr->Str->Bool->Hp->VK->XK->Prop} {vs:List V} {H:Hp} {Q:VK} {E:XK} {G:List V->Prop} (h:LP f vs H Q E) (k:∀ x1 x2 x3 x4,f x1 x2 x3 x4 H Q E->G [.ref x1,.ref x2,.str x3,.bl x4]):G vs:=by
 obtain ⟨_,_,_,_,rfl,h⟩:=a4.o h;obtain ⟨x1,rfl,h⟩:=vR.o h;obtain ⟨x2,rfl,h⟩:=vR.o h;obtain ⟨x3,rfl,h⟩:=vS.o h;obtain ⟨x4,rfl,h⟩:=vB.o h;exact k x1 x2 x3 x4 h
def ju (f:Addr->Str->Hp->VK->XK->Prop):Sp:=a2 fun q1 q2 H Q E=>vR q1 fun x1=>vS q2 fun x2=>f x1 x2 H Q E
@[elab_as_elim] theorem eQ {f:Addr->Str->Hp->VK->XK->Prop} {vs:List V} {H:Hp} {Q:VK} {E:XK} {G:List V->Prop} (h:ju f vs H Q E) (k:∀ x1 x2,f x1 x2 H Q E->G [.ref x1,.str x2]):G vs:=by
 obtain ⟨_,_,rfl,h⟩:=a2.o h;obtain ⟨x1,rfl,h⟩:=vR.o h;obtain ⟨x2,rfl,h⟩:=vS.o h;exact k x1 x2 h
def KC (f:Addr->Str->Bool->Addr->Bool->Hp->VK->XK->Prop):Sp:=a5 fun q1 q2 q3 q4 q5 H Q E=>vR q1 fun x1=>vS q2 fun x2=>vB q3 fun x3=>vR q4 fun x4=>vB q5 fun x5=>f x1 x2 x3 x4 x5 H Q E
@[elab_as_elim] theorem KS {f:Addr->Str->Bool->Addr->Bool->Hp->VK->XK->Prop} {vs:List V} {H:Hp} {Q:VK} {E:XK} {G:List V->Prop} (h:KC f vs H Q E) (k:∀ x1 x2 x3 x4 x5,f x1 x2 x3 x4 x5 H Q E->G [.ref x1,.str x2,.bl x3,.ref x4,.bl x5]):G vs:=by
 obtain ⟨_,_,_,_,_,rfl,h⟩:=a5.o h;obtain ⟨x1,rfl,h⟩:=vR.o h;obtain ⟨x2,rfl,h⟩:=vS.o h;obtain ⟨x3,rfl,h⟩:=vB.o h;obtain ⟨x4,rfl,h⟩:=vR.o h;obtain ⟨x5,rfl,h⟩:=vB.o h;exact k x1 x2 x3 x4 x5 h
def sE (f:Addr->Str->Int->Hp->VK->XK->Prop):Sp:=a3 fun q1 q2 q3 H Q E=>vR q1 fun x1=>vS q2 fun x2=>vI q3 fun x3=>f x1 x2 x3 H Q E
@[elab_as_elim] theorem jh {f:Addr->Str->Int->Hp->VK->XK->Prop} {vs:List V} {H:Hp} {Q:VK} {E:XK} {G:List V->Prop} (h:sE f vs H Q E) (k:∀ x1 x2 x3,f x1 x2 x3 H Q E->G [.ref x1,.str x2,.int x3]):G vs:=by
 obtain ⟨_,_,_,rfl,h⟩:=a3.o h;obtain ⟨x1,rfl,h⟩:=vR.o h;obtain ⟨x2,rfl,h⟩:=vS.o h;obtain ⟨x3,rfl,h⟩:=vI.o h;exact k x1 x2 x3 h
def Ki (f:Addr->Str->Int->Str->Str->Hp->VK->XK->Prop):Sp:=a5 fun q1 q2 q3 q4 q5 H Q E=>vR q1 fun x1=>vS q2 fun x2=>vI q3 fun x3=>vS q4 fun x4=>vS q5 fun x5=>f x1 x2 x3 x4 x5 H Q E
@[elab_as_elim] theorem Lx {f:Addr->Str->Int->Str->Str->Hp->VK->XK->Prop} {vs:List V} {H:Hp} {Q:VK} {E:XK} {G:List V->Prop} (h:Ki f vs H Q E) (k:∀ x1 x2 x3 x4 x5,f x1 x2 x3 x4 x5 H Q E->G [.ref x1,.str x2,.int x3,.str x4,.str x5]):G vs:=by
 obtain ⟨_,_,_,_,_,rfl,h⟩:=a5.o h;obtain ⟨x1,rfl,h⟩:=vR.o h;obtain ⟨x2,rfl,h⟩:=vS.o h;obtain ⟨x3,rfl,h⟩:=vI.o h;obtain ⟨x4,rfl,h⟩:=vS.o h;obtain ⟨x5,rfl,h⟩:=vS.o h;exact k x1 x2 x3 x4 x5 h
def mR (f:Addr->Str->Str->Hp->VK->XK->Prop):Sp:=a3 fun q1 q2 q3 H Q E=>vR q1 fun x1=>vS q2 fun x2=>vS q3 fun x3=>f x1 x2 x3 H Q E
@[elab_as_elim] theorem gx {f:Addr->Str->Str->Hp->VK->XK->Prop} {vs:List V} {H:Hp} {Q:VK} {E:XK} {G:List V->Prop} (h:mR f vs H Q E) (k:∀ x1 x2 x3,f x1 x2 x3 H Q E->G [.ref x1,.str x2,.str x3]):G vs:=by
 obtain ⟨_,_,_,rfl,h⟩:=a3.o h;obtain ⟨x1,rfl,h⟩:=vR.o h;obtain ⟨x2,rfl,h⟩:=vS.o h;obtain ⟨x3,rfl,h⟩:=vS.o h;exact k x1 x2 x3 h
def vO (f:Addr->Str->Str->Bool->Hp->VK->XK->Prop):Sp:=a4 fun q1 q2 q3 q4 H Q E=>vR q1 fun x1=>vS q2 fun x2=>vS q3 fun x3=>vB q4 fun x4=>f x1 x2 x3 x4 H Q E
@[elab_as_elim] theorem pz {f:Addr->Str->Str->Bool->Hp->VK->XK->Prop} {vs:List V} {H:Hp} {Q:VK} {E:XK} {G:List V->Prop} (h:vO f vs H Q E) (k:∀ x1 x2 x3 x4,f x1 x2 x3 x4 H Q E->G [.ref x1,.str x2,.str x3,.bl x4]):G vs:=by
 obtain ⟨_,_,_,_,rfl,h⟩:=a4.o h;obtain ⟨x1,rfl,h⟩:=vR.o h;obtain ⟨x2,rfl,h⟩:=vS.o h;obtain ⟨x3,rfl,h⟩:=vS.o h;obtain ⟨x4,rfl,h⟩:=vB.o h;exact k x1 x2 x3 x4 h
def zU (f:Addr->Str->Str->Str->Hp->VK->XK->Prop):Sp:=a4 fun q1 q2 q3 q4 H Q E=>vR q1 fun x1=>vS q2 fun x2=>vS q3 fun x3=>vS q4 fun x4=>f x1 x2 x3 x4 H Q E
@[elab_as_elim] theorem vq {f:Addr->Str->Str->Str->Hp->VK->XK->Prop} {vs:List V} {H:Hp} {Q:VK} {E:XK} {G:List V->Prop} (h:zU f vs H Q E) (k:∀ x1 x2 x3 x4,f x1 x2 x3 x4 H Q E->G [.ref x1,.str x2,.str x3,.str x4]):G vs:=by
 obtain ⟨_,_,_,_,rfl,h⟩:=a4.o h;obtain ⟨x1,rfl,h⟩:=vR.o h;obtain ⟨x2,rfl,h⟩:=vS.o h;obtain ⟨x3,rfl,h⟩:=vS.o h;obtain ⟨x4,rfl,h⟩:=vS.o h;exact k x1 x2 x3 x4 h
def F5 (f:Addr->Str->Str->Str->Str->Hp->VK->XK->Prop):Sp:=a5 fun q1 q2 q3 q4 q5 H Q E=>vR q1 fun x1=>vS q2 fun x2=>vS q3 fun x3=>vS q4 fun x4=>vS q5 fun x5=>f x1 x2 x3 x4 x5 H Q E
@[elab_as_elim] theorem Gy {f:Addr->Str->Str->Str->Str->Hp->VK->XK->Prop} {vs:List V} {H:Hp} {Q:VK} {E:XK} {G:List V->Prop} (h:F5 f vs H Q E) (k:∀ x1 x2 x3 x4 x5,f x1 x2 x3 x4 x5 H Q E->G [.ref x1,.str x2,.str x3,.str x4,.str x5]):G vs:=by
 obtain ⟨_,_,_,_,_,rfl,h⟩:=a5.o h;obtain ⟨x1,rfl,h⟩:=vR.o h;obtain ⟨x2,rfl,h⟩:=vS.o h;obtain ⟨x3,rfl,h⟩:=vS.o h;obtain ⟨x4,rfl,h⟩:=vS.o h;obtain ⟨x5,rfl,h⟩:=vS.o h;exact k x1 x2 x3 x4 x5 h
def Mx (f:Addr->Str->Str->Str->Str->Str->Hp->VK->XK->Prop):Sp:=a6 fun q1 q2 q3 q4 q5 q6 H Q E=>vR q1 fun x1=>vS q2 fun x2=>vS q3 fun x3=>vS q4 fun x4=>vS q5 fun x5=>vS q6 fun x6=>f x1 x2 x3 x4 x5 x6 H Q E
@[elab_as_elim] theorem HC {f:Addr->Str->Str->Str->Str->Str->Hp->VK->XK->Prop} {vs:List V} {H:Hp} {Q:VK} {E:XK} {G:List V->Prop} (h:Mx f vs H Q E) (k:∀ x1 x2 x3 x4 x5 x6,f x1 x2 x3 x4 x5 x6 H Q E->G [.ref x1,.str x2,.str x3,.str x4,.str x5,.str x6]):G vs:=by
 obtain ⟨_,_,_,_,_,_,rfl,h⟩:=a6.o h;obtain ⟨x1,rfl,h⟩:=vR.o h;obtain ⟨x2,rfl,h⟩:=vS.o h;obtain ⟨x3,rfl,h⟩:=vS.o h;obtain ⟨x4,rfl,h⟩:=vS.o h;obtain ⟨x5,rfl,h⟩:=vS.o h;obtain ⟨x6,rfl,h⟩:=vS.o h;exact k x1 x2 x3 x4 x5 x6 h
def Bm (f:Addr->V->Hp->VK->XK->Prop):Sp:=a2 fun q1 x2 H Q E=>vR q1 fun x1=>f x1 x2 H Q E
@[elab_as_elim] theorem u4 {f:Addr->V->Hp->VK->XK->Prop} {vs:List V} {H:Hp} {Q:VK} {E:XK} {G:List V->Prop} (h:Bm f vs H Q E) (k:∀ x1 x2,f x1 x2 H Q E->G [.ref x1,x2]):G vs:=by
 obtain ⟨_,x2,rfl,h⟩:=a2.o h;obtain ⟨x1,rfl,h⟩:=vR.o h;exact k x1 x2 h
def Ah (f:Addr->V->V->Hp->VK->XK->Prop):Sp:=a3 fun q1 x2 x3 H Q E=>vR q1 fun x1=>f x1 x2 x3 H Q E
@[elab_as_elim] theorem mM {f:Addr->V->V->Hp->VK->XK->Prop} {vs:List V} {H:Hp} {Q:VK} {E:XK} {G:List V->Prop} (h:Ah f vs H Q E) (k:∀ x1 x2 x3,f x1 x2 x3 H Q E->G [.ref x1,x2,x3]):G vs:=by
 obtain ⟨_,x2,x3,rfl,h⟩:=a3.o h;obtain ⟨x1,rfl,h⟩:=vR.o h;exact k x1 x2 x3 h
def B7 (f:Addr->V->V->V->Hp->VK->XK->Prop):Sp:=a4 fun q1 x2 x3 x4 H Q E=>vR q1 fun x1=>f x1 x2 x3 x4 H Q E
@[elab_as_elim] theorem u7 {f:Addr->V->V->V->Hp->VK->XK->Prop} {vs:List V} {H:Hp} {Q:VK} {E:XK} {G:List V->Prop} (h:B7 f vs H Q E) (k:∀ x1 x2 x3 x4,f x1 x2 x3 x4 H Q E->G [.ref x1,x2,x3,x4]):G vs:=by
 obtain ⟨_,x2,x3,x4,rfl,h⟩:=a4.o h;obtain ⟨x1,rfl,h⟩:=vR.o h;exact k x1 x2 x3 x4 h
def LR (f:Addr->V->V->V->V->Hp->VK->XK->Prop):Sp:=a5 fun q1 x2 x3 x4 x5 H Q E=>vR q1 fun x1=>f x1 x2 x3 x4 x5 H Q E
@[elab_as_elim] theorem KH {f:Addr->V->V->V->V->Hp->VK->XK->Prop} {vs:List V} {H:Hp} {Q:VK} {E:XK} {G:List V->Prop} (h:LR f vs H Q E) (k:∀ x1 x2 x3 x4 x5,f x1 x2 x3 x4 x5 H Q E->G [.ref x1,x2,x3,x4,x5]):G vs:=by
 obtain ⟨_,x2,x3,x4,x5,rfl,h⟩:=a5.o h;obtain ⟨x1,rfl,h⟩:=vR.o h;exact k x1 x2 x3 x4 x5 h
def IY (f:Addr->V->V->V->V->V->Hp->VK->XK->Prop):Sp:=a6 fun q1 x2 x3 x4 x5 x6 H Q E=>vR q1 fun x1=>f x1 x2 x3 x4 x5 x6 H Q E
@[elab_as_elim] theorem KL {f:Addr->V->V->V->V->V->Hp->VK->XK->Prop} {vs:List V} {H:Hp} {Q:VK} {E:XK} {G:List V->Prop} (h:IY f vs H Q E) (k:∀ x1 x2 x3 x4 x5 x6,f x1 x2 x3 x4 x5 x6 H Q E->G [.ref x1,x2,x3,x4,x5,x6]):G vs:=by
 obtain ⟨_,x2,x3,x4,x5,x6,rfl,h⟩:=a6.o h;obtain ⟨x1,rfl,h⟩:=vR.o h;exact k x1 x2 x3 x4 x5 x6 h
def Ib (f:Addr->V->V->V->V->V->V->Hp->VK->XK->Prop):Sp:=a7 fun q1 x2 x3 x4 x5 x6 x7 H Q E=>vR q1 fun x1=>f x1 x2 x3 x4 x5 x6 x7 H Q E
@[elab_as_elim] theorem IU {f:Addr->V->V->V->V->V->V->Hp->VK->XK->Prop} {vs:List V} {H:Hp} {Q:VK} {E:XK} {G:List V->Prop} (h:Ib f vs H Q E) (k:∀ x1 x2 x3 x4 x5 x6 x7,f x1 x2 x3 x4 x5 x6 x7 H Q E->G [.ref x1,x2,x3,x4,x5,x6,x7]):G vs:=by
 obtain ⟨_,x2,x3,x4,x5,x6,x7,rfl,h⟩:=a7.o h;obtain ⟨x1,rfl,h⟩:=vR.o h;exact k x1 x2 x3 x4 x5 x6 x7 h
def km (f:Str->Hp->VK->XK->Prop):Sp:=a1 fun q1 H Q E=>vS q1 fun x1=>f x1 H Q E
@[elab_as_elim] theorem fD {f:Str->Hp->VK->XK->Prop} {vs:List V} {H:Hp} {Q:VK} {E:XK} {G:List V->Prop} (h:km f vs H Q E) (k:∀ x1,f x1 H Q E->G [.str x1]):G vs:=by
 obtain ⟨_,rfl,h⟩:=a1.o h;obtain ⟨x1,rfl,h⟩:=vS.o h;exact k x1 h
def tj (f:V->Hp->VK->XK->Prop):Sp:=a1 fun x1 H Q E=>f x1 H Q E
@[elab_as_elim] theorem mO {f:V->Hp->VK->XK->Prop} {vs:List V} {H:Hp} {Q:VK} {E:XK} {G:List V->Prop} (h:tj f vs H Q E) (k:∀ x1,f x1 H Q E->G [x1]):G vs:=by
 obtain ⟨x1,rfl,h⟩:=a1.o h;exact k x1 h
def RD (K:PySem.W.Frag):Sp:=tj fun x H Q _=>A3 (∃ T,clsName H x=some T) (Lu x) (∀ H',ai H H'->Q (.bl (fE x)) H')
def Gb {nm:List Nat} (h:isNm nm=true):1<=nm.length/\nm.length<=8/\nm.all (pT.contains ·)=true:=by
 unfold isNm at h;simp only [IR,_f] at h;exact ⟨h.1.1,h.1.2,h.2⟩
def Uq:Str.ofString "abcdefghijklmnopqrstuvwxyz" = Tx.S pT:=by decide +kernel
def b9 (l:List Nat):Bool:=decide (l=[46]) || decide (l=[46,46]) || isNm l
def iH {l:List Nat} (h:b9 l=true):47 ∉ l/\l≠[]/\l.length<=8:=by
 unfold b9 at h;simp only [Jar,_f] at h;rcases h with (rfl | rfl) | h
 ·exact ⟨by decide,by decide,by decide⟩
 ·exact ⟨by decide,by decide,by decide⟩
 ·obtain ⟨h1,h2,h3⟩:=Gb h;refine ⟨fun m=>?_,fun e=>by rw [e] at h1; simp at h1,h2⟩;have:=GM.mp h3 47 m;exact absurd this (by decide +kernel)
abbrev PV (ps:List (List Nat)):List V:=(ps.map Tx.S).map V.str
def told (ps:List (List Nat)) (t:List Nat):List (List Nat):=if ps≠[]/\t.getLast?=some 47 then ps++[[46]] else ps
def bV (t:List Nat):Bool:=decide (t.head?=some 47)
def sJ {ps:List (List Nat)} {t:List Nat} (h:ps.all b9=true):(told ps t).all b9=true:=by
 unfold told;split
 ·rw [_9,h]; rfl
 ·exact h
def vC {ps:List (List Nat)} {t:List Nat}:(told ps t).length<=ps.length+1:=by
 unfold told;split
 ·rw [Da]; exact Ev _
 ·omega
def Q8 {W:List (List Nat)} (h:W.all b9=true):told W (Tx.cH 47 W)=W:=by
 have hw:∀ w'∈W,47 ∉ w'/\w'≠[]:=fun w' hw'=>let q:=iH (GM.mp h w' hw'); ⟨q.1,q.2.1⟩
 unfold told;rw [Id (fun z=>Tx.BU 47 W hw z.2)]
def TF {W:List (List Nat)} (h:W.all b9=true):told W (47::Tx.cH 47 W)=W:=by
 have hw:∀ w'∈W,47 ∉ w'/\w'≠[]:=fun w' hw'=>let q:=iH (GM.mp h w' hw'); ⟨q.1,q.2.1⟩
 unfold told;refine Id fun z=>?_;have e:(47::Tx.cH 47 W)=[47]++Tx.cH 47 W:=rfl;rw [e,Tx.Bw _ _ (Tx.wK 47 W hw z.1)] at z;exact Tx.BU 47 W hw z.2
def AU {W:List (List Nat)} (h:W.all b9=true) (hl:W.length<=14):(W.map Tx.S).foldl (fun n z=>n+z.length+(Tx.S [47]).length) 0<=sizeLine/\(Tx.cH 47 W).length<=126:=by
 have hw:∀ w'∈W,w'.length<=8:=fun w' hw'=>(iH (GM.mp h w' hw')).2.2;constructor
 ·rw [Tx.kJ,Tx.Mg];have:=Tx.Ie 9 ((W.map Tx.S).map (fun z=>z.length+1)) (fun x hx=>by
   obtain ⟨z,hz,rfl⟩:=LE.mp hx;obtain ⟨w',hw',rfl⟩:=LE.mp hz;rw [Tx.cw];have:=hw w' hw';omega)
  rw [At,At] at this;exact fits (by omega)
 ·have:=Tx.K3 47 8 W hw;omega
def OQ (K:PySem.W.Frag):Sp:=km fun z H Q _=>X1 fun (w:List Nat)=>A3 (z=Tx.S w) (w.length<=1000) (∀ H',ai H H'->Q (.bl (b9 w)) H')
def WR (K:PySem.W.Frag):Sp:=km fun z H Q _=>X1 fun (t:List Nat)=>A5 (z=Tx.S t) (1<=t.length) (t.length<=2000) ((Tx.words 47 t).all b9=true) (∀ (H':Hp) (l p:Addr),ai H H'->H l=none->H' l=some (.lst (PV (told (Tx.words 47 t) t)))->H' p=some (.tup [.bl (bV t),.ref l])->Q (.ref p) H')
structure Pth (ps:List (List Nat)) (t:List Nat):Prop where
 words:Tx.words 47 t=ps
 one:1<=t.length
 most:t.length<=150
def ra (n kd ow mi re tx nm pl:V):List (Str×V):=[("number",n),("kind",kd),("owner",ow),("mine",mi),("rest",re),("text",tx),("names",nm),("places",pl)]
def sH (ml:Addr) (c:Int):List (Str×V):=[("made",.ref ml),("changes",.int c)]
structure Th where
 kd:Str
 ow:Str
 mi:Str
 re:Str
 tx:Str
 aR:List (Str×Nat)
 bW:List (Nat×Str)
structure Hs where
 ts:List Th
 ro:List (Str×Nat)
 st:List (Str×Nat)
 tr:List (Str×Nat)
 ov:List (Nat×Nat)
 un:List (Nat×Nat)
structure Ta where
 th:Addr
 dw:Addr
 nm:Addr
 pl:Addr
structure Ad where
 a:Addr
 dx:Addr
 t:Addr
 dt:Addr
 ml:Addr
 ro:Addr
 st:Addr
 tr:Addr
 ov:Addr
 un:Addr
 ho:Addr
def sF (c:Int) (A:Ad):List (Str×V):=[("things",.ref A.t),("changes",.int c),("roots",.ref A.ro),("standings",.ref A.st),("tree_roots",.ref A.tr),("root_over",.ref A.ov),("folder_under",.ref A.un),("holds",.ref A.ho),("holds_given",.int 0),("first_root",.int 0)]
def VG {f:Str} {c c':Int} {A:Ad} (h:f ≠ "changes"):(sF c A).lookup f=(sF c' A).lookup f:=by
 unfold sF;simp only [List.lookup];have:(f == ("changes" : Str))=false:=On.mpr h;rw [this]
def sD (l:List (Str×Nat)):List (Key×V):=l.map fun e=>(.inr e.1,.int e.2)
def nD (l:List (Nat×Nat)):List (Key×V):=l.map fun e=>(.inl (e.1:Int),.int e.2)
def pD (l:List (Nat×Str)):List (List Key×V):=l.map fun e=>([.inl (e.1:Int),.inr e.2],.bl true)
structure jk (CT:Addr) (H:Hp) (a:Ta) (i:Nat) (t:Th):Prop where
 o:∃ fs,H a.th=some (.ins CT a.dw fs)/\fs.length<=40/\c7 fs (ra (.int i) (.str t.kd) (.str t.ow) (.str t.mi) (.str t.re) (.str t.tx) (.ref a.nm) (.ref a.pl))
 nm:H a.nm=some (.dK (sD t.aR))
 pl:H a.pl=some (.dT (pD t.bW))
def Ad.w (A:Ad):List Addr:=[A.a,A.t,A.ml,A.ro,A.st,A.tr,A.ov,A.un]
def Ta.l (a:Ta):List Addr:=[a.th,a.nm,a.pl]
structure aJ (CH CS CT:Addr) (H:Hp) (A:Ad) (L:List Ta) (M:Hs):Prop where
 h:∃ fs c,H A.a=some (.ins CH A.dx fs)/\fs.length<=40/\c7 fs (sF c A)
 t:∃ fs c,H A.t=some (.ins CS A.dt fs)/\fs.length<=40/\c7 fs (sH A.ml c)
 ml:H A.ml=some (.lst (L.map fun a=>.ref a.th))
 len:L.length=M.ts.length
 th:∀ i t,M.ts[i]?=some t->∃ a,L[i]?=some a/\jk CT H a i t
 ro:H A.ro=some (.dK (sD M.ro))
 st:H A.st=some (.dK (sD M.st))
 tr:H A.tr=some (.dK (sD M.tr))
 ov:H A.ov=some (.dK (nD M.ov))
 un:H A.un=some (.dK (nD M.un))
 nd:(A.w++L.flatMap Ta.l).Nodup
def Kp (W:List Addr) (H H':Hp):Prop:=∀ b o,b ∉ W->H b=some o->H' b=some o
def Kp.trans {W:List Addr} {H H1 H2:Hp} (a:Kp W H H1) (b:Kp W H1 H2):Kp W H H2:=fun c o h e=>b c o h (a c o h e)
def Kp.of {W:List Addr} {H H':Hp} (s:ai H H'):Kp W H H':=fun b o _ e=>s b o e
def bQ {H:Hp} {a b:Addr} {o u:HO} (h1:H a=some o) (h2:H b=some u) (h:o≠u):a≠b:=fun e=>h (by rw [e,h2] at h1; cases h1; rfl)
def aH {H:Hp} {a b:Addr} {o:HO} (h1:H a=some o) (h2:H b=none):a≠b:=fun e=>by rw [e,h2] at h1; cases h1
def DC {H:Hp} {x d:Addr} {o O oo:HO} (hn:H d=none) (hx:H x=some oo):upd (upd H d o) x O x=some O/\upd (upd H d o) x O d=some o/\(∀ b u,b≠x->H b=some u->upd (upd H d o) x O b=some u)/\d≠x:=by
 have n:=aH hx hn;refine ⟨aw,by rw [aj (Fa n),aw],fun b u hb e=>?_,Fa n⟩;rw [aj hb,aj (aH e hn)]; exact e
section
variable {CH CS CT:Addr} {H H':Hp} {A:Ad} {L:List Ta} {M:Hs}
def jk.keep {W:List Addr} {a:Ta} {i:Nat} {t:Th} (h:jk CT H a i t) (k:Kp W H H') (hw:∀ b∈a.l,b ∉ W):jk CT H' a i t where
 o:=let ⟨fs,e,r⟩:=h.o; ⟨fs,k _ _ (hw _ (by simp [Ta.l])) e,r⟩
 nm:=k _ _ (hw _ (by simp [Ta.l])) h.nm
 pl:=k _ _ (hw _ (by simp [Ta.l])) h.pl
def mw {i:Nat} {a:Ta} (h:L[i]?=some a) {b:Addr} (hb:b∈a.l):b∈L.flatMap Ta.l:=List.mem_flatMap.mpr ⟨a,UV h,hb⟩
def aJ.keep {W:List Addr} (i:aJ CH CS CT H A L M) (k:Kp W H H') (hw:∀ b∈A.w++L.flatMap Ta.l,b ∉ W):aJ CH CS CT H' A L M where
 h:=let ⟨fs,c,e,r⟩:=i.h; ⟨fs,c,k _ _ (hw _ (by simp [Ad.w])) e,r⟩
 t:=let ⟨fs,c,e,r⟩:=i.t; ⟨fs,c,k _ _ (hw _ (by simp [Ad.w])) e,r⟩
 ml:=k _ _ (hw _ (by simp [Ad.w])) i.ml
 len:=i.len
 th:=fun j t e=>let ⟨a,e1,h⟩:=i.th j t e; ⟨a,e1,h.keep k fun b hb=>hw b (IO _ (mw e1 hb))⟩
 ro:=k _ _ (hw _ (by simp [Ad.w])) i.ro
 st:=k _ _ (hw _ (by simp [Ad.w])) i.st
 tr:=k _ _ (hw _ (by simp [Ad.w])) i.tr
 ov:=k _ _ (hw _ (by simp [Ad.w])) i.ov
 un:=k _ _ (hw _ (by simp [Ad.w])) i.un
 nd:=i.nd
def aJ.same (i:aJ CH CS CT H A L M) (s:ai H H'):aJ CH CS CT H' A L M:=i.keep (W:=[]) (.of s) fun _ _=>by simp
def vz:∀ {L:List Ta} {i j:Nat} {a a':Ta} {b:Addr},(L.flatMap Ta.l).Nodup->L[i]?=some a->L[j]?=some a'->b∈a.l->b∈a'.l->i=j
 | [],_,_,_,_,_,_,h,_,_,_=>by simp at h
 | c::r,0,0,_,_,_,_,_,_,_,_=>rfl
 | c::r,0,j+1,a,a',b,nd,h1,h2,m1,m2=>by
  rw [_g,Sc] at nd;simp only [List.getElem?_cons_zero,Option.some.injEq] at h1;simp only [List.getElem?_cons_succ] at h2;subst h1;exact absurd rfl (nd.2.2 b m1 b (mw h2 m2))
 | c::r,i+1,0,a,a',b,nd,h1,h2,m1,m2=>by
  rw [_g,Sc] at nd;simp only [List.getElem?_cons_zero,Option.some.injEq] at h2;simp only [List.getElem?_cons_succ] at h1;subst h2;exact absurd rfl (nd.2.2 b m2 b (mw h1 m1))
 | c::r,i+1,j+1,a,a',b,nd,h1,h2,m1,m2=>by
  rw [_g,Sc] at nd;simp only [List.getElem?_cons_succ] at h1 h2;rw [vz nd.2.1 h1 h2 m1 m2]
def aJ.write {k:Nat} {a:Ta} {t':Th} (i:aJ CH CS CT H A L M) (hk:L[k]?=some a) (hh:∃ fs c,H' A.a=some (.ins CH A.dx fs)/\fs.length<=40/\c7 fs (sF c A)) (ht:∃ fs c,H' A.t=some (.ins CS A.dt fs)/\fs.length<=40/\c7 fs (sH A.ml c))
  (aF:jk CT H' a k t') (kp:Kp [A.a,A.t,a.th,a.nm,a.pl] H H'):aJ CH CS CT H' A L { M with ts:=M.ts.set k t' }:=by
 have nd:=i.nd;rw [Sc] at nd;obtain ⟨n1,n2,n3⟩:=nd;have ma:∀ b∈a.l,b∈L.flatMap Ta.l:=fun b hb=>mw hk hb;have qB:∀ b∈[A.ml,A.ro,A.st,A.tr,A.ov,A.un],b ∉ [A.a,A.t,a.th,a.nm,a.pl]:=by
  intro b hb hm;have hw:b∈A.w:=by
   simp only [Ad.w,AT,EQ,KB] at hb ⊢;rcases hb with h | h | h | h | h | h <;> simp [h]
  simp only [AT,EQ,KB] at hm;rcases hm with rfl | rfl | rfl | rfl | rfl
  ·have:=(KK.mp n1).1;simp only [AT,EQ,KB,_P] at hb this;rcases hb with h | h | h | h | h | h <;> simp [h] at this
  ·have:=(KK.mp (KK.mp n1).2).1;simp only [AT,EQ,KB,_P] at hb this;rcases hb with h | h | h | h | h | h <;> simp [h] at this
  ·exact n3 _ hw _ (ma _ (by simp [Ta.l])) rfl
  ·exact n3 _ hw _ (ma _ (by simp [Ta.l])) rfl
  ·exact n3 _ hw _ (ma _ (by simp [Ta.l])) rfl
 refine ⟨hh,ht,kp _ _ (qB _ (by simp)) i.ml,by rw [i.len]; simp,fun j t e=>?_,kp _ _ (qB _ (by simp)) i.ro,kp _ _ (qB _ (by simp)) i.st,kp _ _ (qB _ (by simp)) i.tr,kp _ _ (qB _ (by simp)) i.ov,kp _ _ (qB _ (by simp)) i.un,i.nd⟩;by_cases hj:j=k
 ·subst hj;have bN:j < M.ts.length:=by rw [<- i.len]; exact (Do.mp hk).1
  have e':(M.ts.set j t')[j]?=some t:=e;rw [Wp bN] at e';cases e';exact ⟨a,hk,aF⟩
 ·have e':(M.ts.set k t')[j]?=some t:=e;rw [Uf (Fa hj)] at e';obtain ⟨a',e1,h1⟩:=i.th j t e';refine ⟨a',e1,h1.keep kp fun b hb hm=>?_⟩;have gj:=mw e1 hb;simp only [AT,EQ,KB] at hm;rcases hm with rfl | rfl | rfl | rfl | rfl
  ·exact n3 _ (by simp [Ad.w]) _ gj rfl
  ·exact n3 _ (by simp [Ad.w]) _ gj rfl
  ·exact hj (vz n2 e1 hk hb (by simp [Ta.l]))
  ·exact hj (vz n2 e1 hk hb (by simp [Ta.l]))
  ·exact hj (vz n2 e1 hk hb (by simp [Ta.l]))
end
def Iz:V->Bool
 | .int _=>true
 | _=>false
def V2:Sp:=tj fun v H Q _=>(∃ T,clsName H v=some T)/\Q (.bl (Iz v)) H
def Uu:Sp:=tj fun x H Q _=>A4 (∃ T,clsName H x=some T) (Lu x) (fE x=true) (∀ H',ai H H'->Q .au H')
def Wq (C:Addr):Sp:=Ib fun x n kd ow mi re tx H Q _=>X1 fun dx=>A2 (H x=some (.ins C dx [])) (∀ l1 l2 H',H l1=none->H l2=none->l1≠l2->l1≠x->l2≠x->(∀ b,b≠x->b≠l1->b≠l2->H' b=H b)->H' l1=some (.dK [])->H' l2=some (.dT []) ->
   (∀ fs,fs.length<=40->c7 fs (ra n kd ow mi re tx (.ref l1) (.ref l2))->H' x=some (.ins C dx fs)->Q .au H'))
def Yt (C:Addr):Sp:=ij fun x H Q _=>X1 fun dx=>A2 (H x=some (.ins C dx [])) (∀ l H',H l=none->l≠x->(∀ b,b≠x->b≠l->H' b=H b)->H' l=some (.lst [])->(∀ fs,fs.length<=40->c7 fs (sH l 0)->H' x=some (.ins C dx fs)->Q .au H'))
structure jW (CS:Addr) (H:Hp) (x dt ml:Addr) (rs:List V):Prop where
 o:∃ fs c,H x=some (.ins CS dt fs)/\fs.length<=40/\c7 fs (sH ml c)
 ml:H ml=some (.lst rs)
def um (CS CT:Addr) (x dt ml:Addr) (rs:List V) (kd ow mi re tx:V) (H:Hp) (Q:VK):Prop :=
 ∀ th dw nm pl ks H',H th=none->H nm=none->H pl=none->jW CS H' x dt ml (rs++[.ref th])->H' th=some (.ins CT dw ks)->ks.length<=40->c7 ks (ra (.int rs.length) kd ow mi re tx (.ref nm) (.ref pl)) ->
  H' nm=some (.dK [])->H' pl=some (.dT [])->Kp [x,ml] H H'->Q (.int rs.length) H'
def Vp (CS CT:Addr):Sp:=IY fun x kd ow mi re tx H Q _=>X3 fun dt ml rs=>A3 (jW CS H x dt ml rs) (rs.length<=500) (um CS CT x dt ml rs kd ow mi re tx H Q)
def Qg (CS CT:Addr):Sp:=B7 fun x ow mi re H Q _=>X3 fun dt ml rs=>A3 (jW CS H x dt ml rs) (rs.length<=500) (um CS CT x dt ml rs (.str "folder") ow mi re (.str "") H Q)
def Tz (CS CT:Addr):Sp:=LR fun x ow tx mi re H Q _=>X3 fun dt ml rs=>A3 (jW CS H x dt ml rs) (rs.length<=500) (um CS CT x dt ml rs (.str "file") ow mi re tx H Q)
def XO (CS CT:Addr):Sp:=Ah fun x ow tx H Q _=>X3 fun dt ml rs=>A3 (jW CS H x dt ml rs) (rs.length<=500) (um CS CT x dt ml rs (.str "lead") ow (.str "") (.str "") tx H Q)
def Hl (CH CS CT CN:Addr):Sp:=Bm fun x v H Q E=>X3 fun A L M=>A5 (aJ CH CS CT H A L M) (A.t=x) (∃ T,clsName H v=some T) (∀ (k:Nat) a t,v=.int k->L[k]?=some a->M.ts[k]?=some t->Q (.ref a.th) H) ((∀ k:Nat,v=.int k->¬ k < M.ts.length)->E (.ref CN) none H)
abbrev kb:=Ad->List Ta->Hs->Nat->Ta->Th->Hp->VK->Prop
def jE (CH CS CT:Addr) (sel:Ad->Addr) (f:kb):Sp:=iQ fun x n H Q _=>X6 fun A L M (k:Nat) a t=>A6 (aJ CH CS CT H A L M) (sel A=x) (n=(k:Int)) (L[k]?=some a) (M.ts[k]?=some t) (f A L M k a t H Q)
def Z6 (CH CS CT:Addr) (sel:Ad->Addr):Sp:=wq fun x n z H Q _=>X6 fun A L M (k:Nat) a t=>A6 (aJ CH CS CT H A L M) (sel A=x) (n=(k:Int)) (L[k]?=some a) (M.ts[k]?=some t) (Q ((aM (sD t.aR) (.inr z)).getD .au) H)
def aa9 (CH CS CT:Addr):Sp:=wq fun x n z H Q _=>X6 fun A L M (k:Nat) a t=>A8 (aJ CH CS CT H A L M) (A.a=x) (n=(k:Int)) (L[k]?=some a) (M.ts[k]?=some t) (fE (.str z)=true) (z.length<=1000) (∀ H',ai H H'->Q ((aM (sD t.aR) (.inr z)).getD .au) H')
def Ji (CH CS CT:Addr) (sel:Ad->Addr):Sp:=ij fun x H Q _=>X3 fun A L M=>A3 (aJ CH CS CT H A L M) (sel A=x) (Q (.int M.ts.length) H)
abbrev LQ:kb:=fun _ _ _ _ _ t H Q=>t.aR.length < 64/\∀ l,H l=none->Q (.ref l) (upd H l (.lst ((e9 (t.aR.map (·.1))).map V.str)))
abbrev LC:kb:=fun _ _ _ _ _ t H Q=>(t.bW=[]/\Q .au H)\/∃ f z,t.bW=[(f,z)]/\∀ p,H p=some (.tup [.int (f:Nat),.str z])->Q (.ref p) H
abbrev vA:kb:=fun _ _ _ _ _ t H Q=>Q (.str t.kd) H
abbrev abi:kb:=fun _ _ _ _ _ t H Q=>Q (.str t.ow) H
abbrev Jb:kb:=fun _ _ _ _ _ t H Q=>Q (.str t.tx) H
abbrev abu:kb:=fun _ _ _ _ _ t H Q=>∀ l,H l=none->Q (.ref l) (upd H l (.tup [.str t.mi,.str t.re]))
abbrev WD:kb:=fun _ _ _ _ _ _ H Q=>Q .au H
def KA (CH CS CT CA:Addr):Sp:=Bm fun x v H Q E=>X3 fun A L M=>A5 (aJ CH CS CT H A L M) (A.a=x) (∃ T,clsName H v=some T) (∀ z,v=.str z->(aM (sD M.ro) (.inr z)).isSome=true->Q .au H) ((∀ z,v=.str z->aM (sD M.ro) (.inr z)=none)->E (.ref CA) none H)
def UW (CH CS CT:Addr):Sp:=ju fun x z H Q _=>X4 fun A L M (r:Nat)=>A4 (aJ CH CS CT H A L M) (A.a=x) (aM (sD M.ro) (.inr z)=some (.int r)) (Q (.int r) H)
def dm (t:Th) (asker:Str):Str:=if asker=t.ow then t.mi else t.re
def Tq (CT:Addr):Sp:=ju fun x z H Q _=>X3 fun a i t=>A3 (jk CT H a i t) (a.th=x) (Q (.str (dm t z)) H)
def jr (v:V):Bool:=decide (v=.str "l") || decide (v=.str "g") || decide (v=.str "w")
def Us (CR:Addr):Sp:=tj fun v H Q E=>A3 (∃ T,clsName H v=some T) (jr v=true->Q .au H) (jr v=false->E (.ref CR) none H)
def dF (s:Str) (z:Str):Bool:=!(Builtin.Str.occurrences z s 0 z.length 1).isEmpty
def Kx (CH CS CT CA CR CN:Addr):Sp:=B7 fun x w v r H Q E=>X3 fun A L M=>A7 (aJ CH CS CT H A L M) (A.a=x) (∃ T,clsName H w=some T) (∃ T,clsName H v=some T) (∃ T,clsName H r=some T) ((∀ z,w=.str z->aM (sD M.ro) (.inr z)=none)->E (.ref CA) none H) (∀ z,w=.str z->(aM (sD M.ro) (.inr z)).isSome=true->(jr r=false->E (.ref CR) none H) /\
    ∀ s,r=.str s->jr r=true->((∀ k:Nat,v=.int k->¬ k < M.ts.length)->E (.ref CN) none H)/\∀ (k:Nat) t,v=.int k->M.ts[k]?=some t->Q (.bl (dF s (dm t z))) H)
local macro_rules | `(tactic| walk_at "rd")=>`(tactic| dsimp only [yQ,AD,yx,Aj,lW,gd,Dl,lx,tC,lA,Dw,xq,nM,o8,mT,yE,vY,zW,AM,zb,Ao,qo,jF,tT,xr,wF,vJ,mK,DB,Cf,zB,zC,wk,C8,u6,zF,OU,Su,YE,UU,qk,vZ,Dj,yV,zf,zM,Cz,Ci,AW,rJoin,BJ,DU,uA,zK,vo,rm,yI,Lm,Av,RM,Wl,Ds,BC,CJ,DT,uj,qZ,DH,Dx,Cp,yD,DL,Ar,Yd,yJ,zd,Dh,Ends.CQ,yM,yZ,zp,yK,Am,zA,Cw,Ce,Wt,tG,Pu,Ql,ZJ,Ju,CI,CY,y4,Bl,BH,z8,Cy,DF,Az,VR,Cg,Q4,Sh,QK,Wg,vf,Co,zO,BW,Cq,Qj,MB,za,vV,U2,List.getElem?_cons_zero,List.getElem?_cons_succ,List.set_cons_zero,List.set_cons_succ,List.cons_append,List.nil_append])
local macro_rules | `(tactic| walk_at "w")=>`(tactic| (first | walk_at "rd" | skip))
local macro_rules | `(tactic| left)=>`(tactic| walk_at "w")
local macro_rules | `(tactic| right)=>`(tactic| (refine ah ?_;left))
local macro_rules | `(tactic| walk_at "f")=>`(tactic| (refine _L (m:=40) ?_ (by decide); (repeat (refine bS ?_)); exact GT _))
local macro_rules | `(tactic| walk_at "c")=>`(tactic| (repeat (first | exact trivial | (refine ⟨fun z=>(by first | exact ⟨_,rfl⟩ | (rcases z with z | z <;> cases z)),?_⟩))))
abbrev ad:=@Dv.v
abbrev al:=@Dv.aa
abbrev am:=@Dv.ae
abbrev ap:=@Dv.cut
abbrev bi:=@Dv.aq
abbrev bn:=@Dv.fld
abbrev bv:=@Dv.int
abbrev ci:=@Dv.str
abbrev cr:=@Dv.aL
abbrev db:=@Dv.call
abbrev dl:=@Dv.aO
abbrev dL:=@Dv.aX
abbrev em:=@Dv.bt
abbrev f8:=@Dv.bC
abbrev ge:=@Dv.bE
abbrev gl:=@Dv.nil
abbrev ii:=@Dv.ix
abbrev im:=@Dv.bO
abbrev io:=@Dv.op
abbrev jp:=@Dv.cC
abbrev kt:=@Dv.cO
abbrev li:=@Dv.lst
abbrev lm:=@Dv.cP
abbrev lv:=@Dv.dz
abbrev mo:=@Dv.glob
abbrev pc:=@Dv.dI
abbrev pi:=@Dv.dW
abbrev pp:=@Dv.tup
abbrev ss:=@Dv.bl
abbrev sw:=@Dv.gq
abbrev sB:=@Dv.il
abbrev sK:=@Dv.iw
abbrev tz:=@Dv.iT
abbrev ul:=@Dv.au
abbrev ut:=@Dv.w_or
abbrev u8:=@Dv.cmp
abbrev wf:=@Dv.kC
abbrev wn:=@Dv.ku
abbrev ww:=@Dv.un
abbrev wE:=@Dv.kQ
abbrev wP:=@Dv.kL
abbrev wS:=@Dv.lY
abbrev xL:=@Dv.make
abbrev zn:=@Dv.slice
abbrev AC:=@Dv.one
section
variable {P:Program} {w:World} {K:PySem.W.Frag} {mg:Str->Option Value} {base:Heap}
variable (T:Tx K mg)
def BF:T.ia.k P w base 1 (RD K):=by
 refine T.ia.F.ok ZZ (fun _ _ _ _ h=>mO h fun _ _=>rfl) fun ag A outer s H vs Q E hr h=>mO h fun x h=>?_;obtain ⟨⟨ty,h1⟩,lN,q⟩:=h;refine ⟨_,((ap (em (sB (ut (lv (jp (kt j3 T.gu gC (al (ad 0) (al (wf (.ty "str") T.qb qm rfl) am))))) (wn (lv (Dv.zq qp qp bv (kt (lV (K:=K) rfl) T.kN _e (al (ad 0) am)) (mo (.int 8) T.T6 ⟨_,rfl⟩)))))) (bi (cr ss)) gl)
 (bi (cr (kt (Gs (K:=K) rfl rfl) T.LF Iu (al (Dv.Gu rfl (x:=("sign" : Str)) (Dv.RK (ad 0)) (fun _ _ _ _=>by exact Dv.wU) (fun _ _ _ _=>by exact (sK 0 (show List.Nodup (["sign"]:List Str) by decide))) (fun _ _ _ _=>by exact (u8 (zr (K:=K) rfl) (ad 0) (mo (.str "abcdefghijklmnopqrstuvwxyz") T.Y6 ⟨_,rfl⟩))) (.of rfl (by exact trivial) (by walk_at "c") rfl (by exact trivial))) am)))))).h,?_⟩
 refine stI [some x] ?_;refine ah ?_;walk_at "rd";simp only [h1,Dz h1];refine ⟨wb _ rfl,?_⟩;cases x with
 | str z =>
  simp only [wZ,_7,P3,_i];have hsh':z.length<=1000:=lN;have hl:z.cps.toList.length=z.length:=by simp [Str.length]
  refine ⟨fits hsh',?_⟩;by_cases a1:1<=z.length
  ·rw [Go (show (1:Int)<=(z.length:Int) by omega)];refine bL ?_;by_cases a2:z.length<=8
   ·rw [Go (show (z.length:Int)<=8 by omega)];refine bc ?_;refine Xk (fun c=>.bl (pT.contains c)) (fits hsh') ?_ ?_
    ·intro c _ H1 _ R hR;walk_at "rd";rw [Uq,show (⟨#[c]⟩:Str)=Tx.S [c] from rfl,Tx.Qf];exact hR H1 (ai.refl H1)
    ·intro H1 s1 l gP;refine ⟨_,aD.of aw,z.cps.toList.map (pT.contains ·),by rw [_m]; rfl,?_⟩;have e:((z.cps.toList.map (pT.contains ·)).all id)=fE (.str z):=by
      show _=isNm z.cps.toList;unfold isNm;rw [hl,Go a1,Go a2,List.all_map];rfl
     rw [e];exact q _ (s1.trans (ai.upd gP))
   ·rw [Ch (show ¬ (z.length:Int)<=8 by omega)];refine bL ?_;have e:fE (.str z)=false:=by
     show isNm z.cps.toList=false;unfold isNm;rw [hl,Ch a2,Bool.and_false,JaB]
    have:=q H (ai.refl H);rw [e] at this;exact this
  ·rw [Ch (show ¬ (1:Int)<=(z.length:Int) by omega)];refine bc (bL ?_);have e:fE (.str z)=false:=by
    show isNm z.cps.toList=false;unfold isNm;rw [hl,Ch a1,JaB,JaB]
   have:=q H (ai.refl H);rw [e] at this;exact this
 | _=>exact q H (ai.refl H)
def bK {X:Cx} {b:List Stmt} {t:TS} {D:Ends} {σ:St} {H:Hp} (h:QB X b t) (q:t D σ H):∃ t,cX X b t/\t D σ H:=⟨t,h.h,q⟩
def aaf:V->Bool
 | .int _=>true
 | .bl _=>true
 | _=>false
def UB {H:Hp} {v:V} {ty:String} (h:clsName H v=some ty):w9 ty "int" = aaf v:=by
 unfold clsName at h;split at h
 ·cases h; rfl
 ·cases h; rfl
 ·cases h; rfl
 ·cases h; rfl
 ·split at h
  ·cases h; rfl
  ·cases h; rfl
  ·cases h; rfl
  ·cases h
 ·cases h
def KZ:T.jU.k P w base 1 V2:=by
 refine T.jU.F.ok Yl (fun _ _ _ _ h=>mO h fun _ _=>rfl) fun ag A outer s H vs Q E hr h=>mO h fun v h=>?_;obtain ⟨⟨ty,cE⟩,q⟩:=h;refine ⟨_,((bi (cr (Dv.qh (kt j3 T.gu gC (al (ad 0) (al (wf (.ty "int") T.Cr Bi rfl) am))) (AC (Dv.RO (kt j3 T.gu gC (al (ad 0) (al (wf (.ty "bool") T.g_bool Xe rfl) am))))))))).h,?_⟩;refine stI [some v] ?_;left;simp only [cE];refine ⟨by decide,?_⟩;cases v with
 | int i=>cases cE; exact bL ⟨by decide,q⟩
 | bl b=>cases cE; exact bL ⟨by decide,q⟩
 | _ =>
  rw [UB cE];exact bc q
def zo:T.iq.k P w base 2 Uu:=by
 refine T.iq.F.ok ZM (fun _ _ _ _ h=>mO h fun _ _=>rfl) fun ag A outer s H vs Q E hr h=>mO h fun x h=>?_;obtain ⟨hc,lN,hn,q1⟩:=h;refine ⟨_,((bi (em (lv (jp (db (BF T) hr.m T.ia.m T.ia.F.kp T.ia.b .nil az (al (ad 0) am)))) (bi pi) gl))).h,?_⟩;refine stI [some x] ?_;left;refine ⟨hc,lN,fun H' s'=>?_⟩;rw [hn];exact bc (q1 H' s')
def jm:List Str:=["","l","g","w","lg","lw","gw","lgw"]
def WJ:Sp:=km fun z H Q _=>z∈jm/\Q (.bl true) H
def YX:Sp:=km fun z H Q _=>z∈jm/\Q .au H
def VL {z:Str} {zs:List Str} (h:z∈zs):f7 (V.str z) (zs.map V.str)=true:=by
 unfold f7;rw [List.any_map,List.any_eq_true];exact ⟨z,h,show (z == z)=true from beq_self_eq_true z⟩
def YO:T.pH.k P w base 1 WJ:=by
 refine T.pH.F.ok XD (fun _ _ _ _ h=>fD h fun _ _=>rfl) fun ag A outer s H vs Q E hr h=>fD h fun z h=>?_;obtain ⟨hz,q⟩:=h;refine ⟨_,((bi (cr (Dv.qh (kt j3 T.gu gC (al (ad 0) (al (wf (.ty "str") T.qb qm rfl) am))) (AC (u8 (vP (K:=K) rfl) (ad 0) (mo (.ref T.Ej) T.aao rfl))))))).h,?_⟩;refine stI [some (V.str z)] ?_;left;refine ⟨by decide,bL ⟨_,.inr (T.BG H),rfl,rfl,?_⟩⟩;rw [show [V.str (Str.ofString ""),V.str (Str.ofString "l"),V.str (Str.ofString "g"),V.str (Str.ofString "w"),V.str (Str.ofString "lg"),V.str (Str.ofString "lw"),V.str (Str.ofString "gw"),V.str (Str.ofString "lgw")]=jm.map V.str from rfl,VL hz];exact q
def wG:T.gf.k P w base 2 YX:=by
 refine T.gf.F.ok Qx (fun _ _ _ _ h=>fD h fun _ _=>rfl) fun ag A outer s H vs Q E hr h=>fD h fun z h=>?_;obtain ⟨hz,q⟩:=h;refine ⟨_,((bi (em (lv (jp (db (YO T) hr.m T.pH.m T.pH.F.kp T.pH.b .nil az (al (ad 0) am)))) (bi pi) gl))).h,?_⟩;refine stI [some (V.str z)] ?_;left;exact ⟨hz,bc q⟩
def Yx (v:V):f7 v [V.str (Str.ofString "l"),V.str (Str.ofString "g"),V.str (Str.ofString "w")]=jr v:=by
 unfold f7 jr;simp only [_n,List.any_nil,_6];have key:∀ z:Str,eY (.str z) v=decide (v=.str z):=fun z=>by
  cases v with
  | str y =>
   show (z == y)=decide (V.str y=V.str z);by_cases e:z=y
   ·subst e; simp
   ·rw [Ch (by intro h; injection h with h; exact e h.symm)];exact On.mpr e
  | _=>rfl
 rw [key,key,key,Bool.or_assoc]
def V7:aB P w K mg base (bj P w) 1 T.qr.f T.qr.d ["text"] (Us T.uN):=by
 refine T.qr.F.eg WQ (fun _ _ _ _ h=>mO h fun _ _=>rfl) fun ag A outer s H vs Q E hr h=>mO h fun v h=>?_;obtain ⟨⟨ty,cE⟩,q1,q2⟩:=h;refine ⟨_,((bi (em (sB (ut (lv (jp (kt j3 T.gu gC (al (ad 0) (al (wf (.ty "str") T.qb qm rfl) am))))) (wn (im (DM (K:=K) rfl) (ad 0) (mo (.ref T.FQ) T.UG rfl))))) (bi (Dv.BV zQ rfl T.ZH T.ZW (al ci am))) gl))).h,?_⟩;refine stI [some v] ?_;left;simp only [cE,Dz cE];refine ⟨wb _ rfl,?_⟩;cases v with
 | str z =>
  simp only [wZ,_7,P3,_i];refine ⟨_,.inr (T.CB H),rfl,rfl,?_⟩;rw [Yx];cases ho:jr (.str z) with
  | true=>exact bc (q1 ho)
  | false=>exact bL ⟨fits (by simp),q2 ho⟩
 | _=>exact ⟨fits (by simp),q2 rfl⟩
def WC:T.oZ.k P w base 2 (OQ K):=by
 refine T.oZ.F.ok WY (fun _ _ _ _ h=>fD h fun _ _=>rfl) fun ag A outer s H vs Q E hr h=>fD h fun z h=>?_;obtain ⟨w',rfl,hw,q⟩:=h;refine ⟨_,((bi (cr (Dv.Qr (u8 (vP (K:=K) rfl) (ad 0) (mo (.ref T.Ex) T.XJ rfl)) (AC (db (BF T) hr.m T.ia.m T.ia.F.kp T.ia.b .nil az (al (ad 0) am))))))).h,?_⟩;refine stI [some (V.str (Tx.S w'))] ?_;walk_at "rd";refine ⟨_,.inr (T.BK H),rfl,rfl,?_⟩;have e:f7 (V.str (Tx.S w')) [V.str (Str.ofString "."),V.str (Str.ofString "..")]=(decide (w'=[46]) || decide (w'=[46,46])):=by
  rw [show Str.ofString "." = Tx.S [46] from by decide +kernel,show Str.ofString ".." = Tx.S [46,46] from by decide +kernel];unfold f7 eY;simp only [_n,List.any_nil,_6];have b:∀ m:List Nat,(Tx.S m == Tx.S w')=decide (w'=m):=fun m=>by
   by_cases h:w'=m
   ·rw [h]; simp
   ·have:Tx.S m≠Tx.S w':=fun e=>h (Tx.vU e).symm;rw [Ch h];exact On.mpr this
  rw [b,b]
 rw [e];cases hd:(decide (w'=[46]) || decide (w'=[46,46])) with
 | true =>
  refine bL ?_;have:=q H (ai.refl H);unfold b9 at this;rw [hd] at this;exact this
 | false =>
  refine bc ?_;refine ⟨⟨_,rfl⟩,(by show (Tx.S w').length<=1000; rw [Tx.cw]; exact hw),fun H' s'=>?_⟩;have:=q H' s';unfold b9 at this;rw [hd,Bool.false_or] at this;have e2:fE (V.str (Tx.S w'))=isNm w':=by show isNm _=_; rw [Tx.mD]
  rw [e2];exact this
def jC:T.cq.k P w base 3 (WR K):=by
 refine T.cq.F.ok HL (fun _ _ _ _ h=>fD h fun _ _=>rfl) fun ag A outer s H vs Q E hr h=>fD h fun z h=>?_;obtain ⟨t,rfl,t1,t2,ef,q⟩:=h;refine ⟨_,((ap (em (sB (ut (lv (jp (kt j3 T.gu gC (al (ad 0) (al (wf (.ty "str") T.qb qm rfl) am))))) (wn (lv (Dv.zq qp qp bv (kt (lV (K:=K) rfl) T.kN _e (al (ad 0) am)) (mo (.int 2000) T.RV ⟨_,rfl⟩)))))) (bi pi) gl)
 (ap (Dv.Jk 1 rfl HL.nd (x:=("part" : Str)) (Dv.nS (K:=K) rfl (tz PySem.F.slot_str_split PySem.F.type_str_split KU (ad 0) (al ci am))) (fun _ _ _ _=>by exact (Dv.zg (im ki (ad 0) ci))) (fun _ _ _ _=>by exact (sK 0 (show List.Nodup (["part"]:List Str) by decide))) (fun _ _ _ _=>by exact (ad 0)) (.of rfl (by exact trivial) (by walk_at "c") rfl (by exact trivial)))
 (ap (em (lv (jp (kt (Gs (K:=K) rfl rfl) T.LF Iu (al (Dv.Gu rfl (x:=("part" : Str)) (Dv.nS (K:=K) rfl (ad 1)) (fun _ _ _ _=>by exact Dv.wU) (fun _ _ _ _=>by exact (sK 0 (show List.Nodup (["part"]:List Str) by decide))) (fun _ _ _ _=>by exact (db (WC T) hr.m T.oZ.m T.oZ.F.kp T.oZ.b .nil az (al (ad 0) am))) (.of rfl (by exact trivial) (by walk_at "c") rfl (by exact trivial))) am)))) (bi pi) gl)
 (ap (em (sB (Dv.w_and (im (YR hr.pe) (ad 1) (li am)) (Dv.Ba (jp (tz PySem.F.slot_str_endswith PySem.F.type_str_endswith Kd (ad 0) (al ci am)))))) (bi (dL (sw No NE iI (ad 1) (al ci am)))) gl)
 (bi (cr (pp (al (tz _T _U CU (ad 0) (al ci am)) (al (ad 1) am)))))))))).h,?_⟩
 refine stI [some (V.str (Tx.S t)),none] ?_;refine ah ?_;walk_at "rd";have gk:Str.ofString "/" = Tx.S [47]:=by decide +kernel
 have e0:Str.ofString "" = Tx.S []:=by decide +kernel
 simp only [Tx.cw,gk,e0];refine ⟨wb _ rfl,bc ⟨Gc t2 (by decide),?_⟩⟩;rw [Go (show (1:Int)<=(t.length:Int) by omega),Go (show (t.length:Int)<=2000 by omega)];refine bL (bc (ah ?_));walk_at "rd";have iZ:=Tx.vT 47 t;refine ⟨rfl,by rw [Tx.cw]; exact Gc t2 (by decide),?_,?_⟩
 ·rw [Tx.C5,Tx.kJ,Tx.AF,Tx.rF,At];exact Gc (show _<=2001 by omega) (by decide)
 intro l hl;rw [Tx.Le t 47 (by decide)];refine fX (o:=.lst (((Tx.cut 47 t).map Tx.S).map V.str)) hl fun H1 s1 b1=>?_;refine ⟨⟨_,aD.of b1⟩,Bc (fun x=>match x with | .str z=>!decide (z=Tx.S []) | _=>false) id (aD.of b1) (by rw [At,At]; exact Gc (show _<=2001 by omega) (by decide)) ?_ ?_ ?_⟩
 ·intro x hx H2 _ R hR;obtain ⟨z,_,rfl⟩:=LE.mp hx;walk_at "rd";exact hR H2 (ai.refl H2)
 ·intro x hx _ H2 _ R hR;walk_at "rd";exact hR H2 (ai.refl H2)
 intro H2 s2 l2 cy;have ew:((((Tx.cut 47 t).map Tx.S).map V.str).filter (fun x=>match x with | .str z=>!decide (z=Tx.S []) | _=>false)).map id=PV (Tx.words 47 t):=by
  rw [List.map_id,List.filter_map];show ((((Tx.cut 47 t).map Tx.S)).filter _).map V.str=_
  congr 1
  rw [<- Tx.Ir];refine List.filter_congr fun z _=>?_;show (!decide (z=Tx.S []))=decide (z≠Tx.S []);by_cases h:z=Tx.S [] <;> simp [h]
 rw [ew];have iF:H l2=none:=(s1.trans s2).free cy;refine fX (o:=.lst (PV (Tx.words 47 t))) cy fun H3 s3 b3=>?_;have xM:ai H H3:=(s1.trans s2).trans s3;have qO:(Tx.words 47 t).length<=2001:=Gc (Jad _ _) (by omega);refine ah ?_;walk_at "rd";refine ⟨⟨_,aD.of b3⟩,Bc (fun _=>true) (fun x=>match x with | .str z=>.bl (b9 z.cps.toList) | _=>.bl false) (aD.of b3) (by rw [At,At]; exact Gc qO (by decide)) ?_ ?_ ?_⟩
 ·intro x _ H4 _ R hR;exact hR H4 (ai.refl H4)
 ·intro x hx _ H4 _ R hR;obtain ⟨z,hz,rfl⟩:=LE.mp hx;obtain ⟨w',hw,rfl⟩:=LE.mp hz;walk_at "rd";obtain ⟨_,_,g3⟩:=iH (GM.mp ef w' hw);refine ⟨w',rfl,by omega,fun H5 s5=>?_⟩;have:=hR H5 s5;simp only [Tx.mD] at this;exact this
 intro H4 s4 l4 xX;have eb:((PV (Tx.words 47 t)).filter (fun _=>true)).map (fun x=>match x with | .str z=>V.bl (b9 z.cps.toList) | _=>V.bl false)=((Tx.words 47 t).map b9).map V.bl:=by
  rw [List.filter_eq_self.mpr (fun _ _=>rfl),_m,_m,_m];refine List.map_congr_left fun w' _=>?_;show V.bl (b9 (Tx.S w').cps.toList)=V.bl (b9 w');rw [Tx.mD]
 rw [eb];refine ⟨_,aD.of aw,_,rfl,?_⟩;have ea:((Tx.words 47 t).map b9).all id=true:=by rw [List.all_map]; exact ef
 rw [ea];refine bc ?_;have s5:=ai.upd (o:=.lst (((Tx.words 47 t).map b9).map V.bl)) xX;generalize upd H4 l4 (.lst (((Tx.words 47 t).map b9).map V.bl))=H5 at s5 ⊢;have b5:H5 l2=some (.lst (PV (Tx.words 47 t))):=s5 _ _ (s4 _ _ b3);have FH:ai H H5:=(xM.trans s4).trans s5;refine jY (fun σ' H'=>σ'=[some (V.str (Tx.S t)),some (V.ref l2)]/\ai H H'/\H' l2=some (.lst (PV (told (Tx.words 47 t) t)))) ?_ ?_
 ·walk_at "rd";refine ⟨fits (by simp),fun p hp=>?_⟩;have s6:=ai.upd (o:=.lst []) hp;have c6:upd H5 p (.lst []) p=some (.lst ((([]:List Str)).map V.str)):=aw;generalize upd H5 p (.lst [])=H6 at s6 c6 ⊢;have b6:H6 l2=some (.lst (PV (Tx.words 47 t))):=s6 _ _ b5;refine ⟨(Tx.words 47 t).map Tx.S,[],b6,c6,?_⟩;by_cases m8:Tx.words 47 t=[]
  ·rw [Go (show (Tx.words 47 t).map Tx.S=[] by rw [m8]; rfl)];refine bc (bc ⟨by trivial,FH.trans s6,?_⟩);unfold told;rw [Id (fun z=>z.1 m8)];exact b6
  ·rw [Ch (show ¬ (Tx.words 47 t).map Tx.S=[] by simpa using m8)];refine bL ?_;rw [Tx.Bx];by_cases iV:t.getLast?=some 47
   ·rw [Go iV];refine bL ?_;simp only [b6];refine ⟨by rw [At,At]; exact _L qO (by decide),by trivial,cJ.same (FH.trans s6) iF cJ.upd,?_⟩;unfold told;rw [IN ⟨m8,iV⟩,aw,show Str.ofString "." = Tx.S [46] from by decide +kernel];simp only [PV,Tm,Ix,WP]
   ·rw [Ch iV];refine bc ⟨by trivial,FH.trans s6,?_⟩;unfold told;rw [Id (fun z=>iV z.2)];exact b6
 ·rintro σ' H6 ⟨rfl,s6,b6⟩;walk_at "rd";simp only [gk,Tx.DI];refine ⟨fits (by simp),fun p hp=>?_⟩;exact q _ l2 p (s6.trans (ai.upd hp)) iF (Tp b6 hp) aw
def Zu:T.uo.k P w mg base 1 (Wq T.bb):=by
 refine T.uo.F.ok Ve (fun _ _ _ _ h=>IU h fun _ _ _ _ _ _ _ _=>rfl) fun ag A outer s H vs Q E hr h=>IU h fun x n kd ow mi re tx h=>?_;obtain ⟨dx,hx,q⟩:=h;refine ⟨_,((ap (f8 T.dM T.Xg (ad 0) (ad 1))
 (ap (f8 T.dM T.DV (ad 0) (ad 2))
 (ap (f8 T.dM T.Hc (ad 0) (ad 3))
 (ap (f8 T.dM T.IL (ad 0) (ad 4))
 (ap (f8 T.dM T.JY (ad 0) (ad 5))
 (ap (f8 T.dM T.Jn (ad 0) (ad 6))
 (ap (f8 T.dM T.u0 (ad 0) Dv.nE)
 (bi (f8 T.dM T.rL (ad 0) Dv.aav)))))))))).h,?_⟩
 refine stI [some (.ref x),some n,some kd,some ow,some mi,some re,some tx] ?_;refine ah ?_;walk_at "rd";refine ⟨x,dx,_,rfl,hx,by decide,ah ?_⟩;walk_at "rd";refine ⟨x,dx,_,rfl,aw,by walk_at "f",ah ?_⟩;walk_at "rd";refine ⟨x,dx,_,rfl,aw,by walk_at "f",ah ?_⟩;walk_at "rd";refine ⟨x,dx,_,rfl,aw,by walk_at "f",ah ?_⟩;walk_at "rd";refine ⟨x,dx,_,rfl,aw,by walk_at "f",ah ?_⟩;walk_at "rd";refine ⟨x,dx,_,rfl,aw,by walk_at "f",ah ?_⟩;simp only [md];walk_at "rd";intro l1 h1;have n1:l1≠x:=fun e=>by rw [e,aw] at h1; cases h1
 have h1':H l1=none:=by rw [aj n1] at h1; exact h1
 refine ⟨x,dx,_,rfl,by rw [aj (Fa n1),aw],by walk_at "f",fun l2 h2=>?_⟩;have n2:l2≠x:=fun e=>by rw [e,aw] at h2; cases h2
 rw [aj n2] at h2;have n3:l2≠l1:=fun e=>by rw [e,aw] at h2; cases h2
 rw [aj n3,aj n2] at h2;refine ⟨x,dx,_,rfl,by rw [aj (Fa n2),aw],by walk_at "f",?_⟩;refine q l1 l2 _ h1' h2 (Fa n3) n1 n2 (fun b b1 b2 b3=>?_) ?_ ?_ _ ?_ (fun f=>?_) aw
 ·rw [aj b1,aj b3,aj b1,aj b2,aj b1]
 ·rw [aj n1,aj (Fa n3),aj n1,aw]
 ·rw [aj n2,aw]
 ·exact Gc (by (repeat (refine bS ?_)); exact GT _) (Ev 40)
 ·rfl
def Yj:T.tF.k P w mg base 1 (Yt T.aQ):=by
 refine T.tF.F.ok RG (fun _ _ _ _ h=>da h fun _ _=>rfl) fun ag A outer s H vs Q E hr h=>da h fun x h=>?_;obtain ⟨dx,hx,q⟩:=h;refine ⟨_,((ap (f8 T.ck T.oX (ad 0) (li am))
 (bi (f8 T.ck T.zP (ad 0) bv)))).h,?_⟩
 refine stI [some (.ref x)] ?_;refine ah ?_;walk_at "rd";refine ⟨fits (by simp),fun l hl=>?_⟩;have n1:l≠x:=fun e=>by rw [e,hx] at hl; cases hl
 refine ⟨x,dx,_,rfl,by rw [aj (Fa n1)]; exact hx,by decide,?_⟩;refine ⟨x,dx,_,rfl,aw,by walk_at "f",?_⟩;refine q l _ hl n1 (fun b b1 b2=>?_) ?_ _ ?_ (fun f=>?_) aw
 ·rw [aj b1,aj b1,aj b2]
 ·rw [aj n1,aj n1,aw]
 ·exact Gc (bS (bS (GT _))) (show 0+1+1<=40 by decide)
 ·rfl
def Wi:T.rP.k P w mg base 1 (Tq T.bb):=by
 refine T.rP.F.ok aaq (fun _ _ _ _ h=>eQ h fun _ _ _=>rfl) fun ag A outer s H vs Q E hr h=>eQ h fun x z h=>?_;obtain ⟨a,i,t,cN,rfl,q⟩:=h;obtain ⟨fs,hx,bf,sf⟩:=cN.o;refine ⟨_,((bi (cr (Dv.Ku (im mj (ad 1) (bn T.dM T.Hc (ad 0))) (bn T.dM T.IL (ad 0)) (bn T.dM T.JY (ad 0)))))).h,?_⟩;refine stI [some (V.ref a.th),some (V.str z)] ?_;left;refine (fI hx sf rfl ?_);dsimp only;unfold dm at q;by_cases e:z=t.ow
 ·rw [Go e];rw [IN e] at q;exact bL (fI hx sf rfl q)
 ·rw [Ch e];rw [Id e] at q;exact bc (fI hx sf rfl q)
def AR:T.kW.k P w mg base 3 (Vp T.aQ T.bb):=by
 refine T.kW.F.ok Ht (fun _ _ _ _ h=>KL h fun _ _ _ _ _ _ _=>rfl) fun ag A outer s H vs Q E hr h=>KL h fun x kd ow mi re tx h=>?_;obtain ⟨dt,ml,rs,⟨⟨fs,c,hx,bf,sf⟩,iB⟩,dP,q⟩:=h;refine ⟨_,((ap (wS T.ck T.zP mC (ad 0) bv)
  (ap (dl 6 Ht.nd (kt (lV (K:=K) rfl) T.kN _e (al (bn T.ck T.oX (ad 0)) am)))
  (ap (dL (sw No NE iI (bn T.ck T.oX (ad 0)) (al (xL T.SE (Zu T) hr.m T.R3 T.uo.b .nil az (al (ad 6) (al (ad 1) (al (ad 2) (al (ad 3) (al (ad 4) (al (ad 5) am))))))) am)))
  (bi (cr (ad 6))))))).h,?_⟩
 refine stI [some (.ref x),some kd,some ow,some mi,some re,some tx,none] ?_;have cQ:ml≠x:=fun e=>by rw [e,hx] at iB; cases iB
 refine ah ?_;walk_at "rd";refine ⟨x,dt,fs,.int c,rfl,hx,(sf _).trans rfl,_,_,rfl,rfl,dt,fs,hx,by omega,ah ?_⟩;have c9:c7 (ay "changes" (.int (c+1)) fs) (sH ml (c+1)):=fun f=>by rw [(sf.put "changes" (.int (c+1))) f]; rfl
 have iY:(ay "changes" (.int (c+1)) fs).length<=41:=bS bf;have bx:upd H x (.ins T.aQ dt (ay "changes" (.int (c+1)) fs)) x=some (.ins T.aQ dt (ay "changes" (.int (c+1)) fs)):=aw;have lH:upd H x (.ins T.aQ dt (ay "changes" (.int (c+1)) fs)) ml=some (.lst rs):=by rw [aj cQ]; exact iB
 have iD:Kp [x] H (upd H x (.ins T.aQ dt (ay "changes" (.int (c+1)) fs))):=fun b o hb e=>by rw [aj (fun z=>hb (by simp [z]))]; exact e
 have oG:∀ b,b≠x->upd H x (.ins T.aQ dt (ay "changes" (.int (c+1)) fs)) b=H b:=fun b hb=>aj hb;generalize upd H x (.ins T.aQ dt (ay "changes" (.int (c+1)) fs))=H1 at bx lH iD oG ⊢;walk_at "rd";refine ⟨x,dt,_,.ref ml,rfl,bx,(c9 _).trans rfl,?_⟩;simp only [bH,lH];refine ah ?_;walk_at "rd";refine ⟨x,dt,_,.ref ml,rfl,bx,(c9 _).trans rfl,?_⟩;simp only [lH];intro th dw aF hdth lM;refine ⟨dw,aw,fun nm pl H2 bX bw hnp hn1 iF fr2 hnm2 hpl2 ks jH sk hth2=>⟨rfl,?_⟩⟩;have E9:∀ b o,H1 b=some o->upd (upd H1 dw (HO.own th)) th (HO.ins T.bb dw []) b=some o:=fun b o e=>by
  rw [aj (aH e aF),aj (aH e hdth)]; exact e
 have D9:∀ b o,H1 b=some o->H2 b=some o:=fun b o e=>by
  rw [fr2 b (aH e aF) (aH (E9 b o e) bX) (aH (E9 b o e) bw)]; exact E9 b o e
 have dn:∀ d,d≠th->upd (upd H1 dw (HO.own th)) th (HO.ins T.bb dw []) d=none->H1 d=none:=fun d n e=>by
  rw [aj n] at e;by_cases z:d=dw
  ·rw [z,aw] at e; cases e
  ·rw [aj z] at e; exact e
 have Oq:=dn nm hn1 bX;have ND:=dn pl iF bw;have D1:∀ d,H1 d=none->H d=none:=fun d e=>by rw [<- oG d (Fa (aH bx e))]; exact e
 simp only [D9 _ _ lH];refine ⟨nv (by omega),?_⟩;refine q th dw nm pl ks _ (D1 _ aF) (D1 _ Oq) (D1 _ ND) ⟨⟨_,c+1,by rw [aj (Fa cQ)]; exact D9 _ _ bx,?_,c9⟩,aw⟩ (by rw [aj (Fa (aH lH aF))]; exact hth2) jH sk
  (by rw [aj (Fa (aH lH Oq))]; exact hnm2) (by rw [aj (Fa (aH lH ND))]; exact hpl2) (fun b o hb e=>?_)
 ·rw [jw (u:=.int c) ((sf _).trans rfl)]; exact bf
 ·simp only [AT,EQ,KB,_P] at hb;rw [aj hb.2];exact D9 _ _ (iD b o (by simp [hb.1]) e)
def Gi:T.ou.k P w mg base 4 (Qg T.aQ T.bb):=by
 refine T.ou.F.ok XM (fun _ _ _ _ h=>u7 h fun _ _ _ _ _=>rfl) fun ag A outer s H vs Q E hr h=>u7 h fun x ow mi re h=>?_;obtain ⟨dt,ml,rs,at',dP,q⟩:=h;obtain ⟨fs,c,hx,bf,sf⟩:=at'.o;refine ⟨_,((bi (cr (ge T.ck T.kW.h (AR T) hr.m T.kW.b .nil az (ad 0) (al (mo (.str "folder") T.we ⟨_,rfl⟩) (al (ad 1) (al (ad 2) (al (ad 3) (al ci am))))))))).h,?_⟩;refine stI [some (.ref x),some ow,some mi,some re] ?_;left;exact ⟨x,dt,fs,rfl,hx,(sf _).trans rfl,dt,ml,rs,at',dP,q⟩
def jA:aB P w K mg base (bj P w) 2 T.dD.f T.dD.d ["self","number"] (Hl T.aK T.aQ T.bb T.qQ):=by
 refine T.dD.F.eg VY (fun _ _ _ _ h=>u4 h fun _ _ _=>rfl) fun ag A outer s H vs Q E hr h=>u4 h fun x v h=>?_;obtain ⟨AA,L,M,i,rfl,iZ,q1,q2⟩:=h;obtain ⟨fs,c,hx,bf,sf⟩:=i.t;refine ⟨_,((ap (em (sB (ut (lv (jp (db (KZ T) hr.m T.jU.m T.jU.F.kp T.jU.b .nil az (al (ad 1) am)))) (wn (lv (Dv.zq qp sY bv (ad 1) (kt (lV (K:=K) rfl) T.kN _e (al (bn T.ck T.oX (ad 0)) am))))))) (bi (Dv.BV zQ rfl T.R8 T.OV (al ci am))) gl)
 (bi (cr (ii (bP (K:=K) rfl) (bn T.ck T.oX (ad 0)) (ad 1)))))).h,?_⟩
 refine stI [some (.ref AA.t),some v] ?_;right;refine ⟨iZ,?_⟩;cases v with
 | int n =>
  simp only [Iz,_7,P3,_i];refine mm (fun h0=>?_) (fun h0=>bL ⟨fits (by simp),q2 fun j e=>?_⟩)
  ·have h0':0<=n:=of_decide_eq_true h0;refine ⟨AA.t,_,_,.ref AA.ml,rfl,hx,(sf _).trans rfl,?_⟩;simp only [bH,i.ml,At,i.len];obtain ⟨k,rfl⟩:=_F h0';by_cases hk:k < M.ts.length
   ·rw [Go (show (k:Int) < (M.ts.length:Int) by omega)];refine bc ⟨AA.t,_,_,.ref AA.ml,rfl,hx,(sf _).trans rfl,?_⟩;simp only [bH,i.ml];have MN:k < L.length:=by rw [i.len]; exact hk
    rw [gQ (xs:=L.map fun a=>V.ref a.th) (j:=k) (by rw [Op,Db MN]; rfl)];exact q1 k _ _ rfl (Db MN) (Db hk)
   ·rw [Ch (show ¬ (k:Int) < (M.ts.length:Int) by omega)];refine bL ⟨fits (by simp),q2 fun j e=>?_⟩;injection e with e;have:k=j:=by omega
    rw [<- this]; exact hk
  ·injection e with e;exact absurd (Go (show (0:Int)<=n by omega)) h0
 | _=>exact ⟨fits (by simp),q2 fun k e=>by cases e⟩
def P5:T.rp.k P w mg base 1 (Ji T.aK T.aQ T.bb Ad.t):=by
 refine T.rp.F.ok Ti (fun _ _ _ _ h=>da h fun _ _=>rfl) fun ag A outer s H vs Q E hr h=>da h fun x h=>?_;obtain ⟨AA,L,M,i,rfl,q⟩:=h;obtain ⟨fs,c,hx,bf,sf⟩:=i.t;refine ⟨_,((bi (cr (kt (lV (K:=K) rfl) T.kN _e (al (bn T.ck T.oX (ad 0)) am))))).h,?_⟩;refine stI [some (.ref AA.t)] ?_;left;refine ⟨AA.t,_,_,.ref AA.ml,rfl,hx,(sf _).trans rfl,?_⟩;simp only [bH,i.ml,At,i.len];exact q
section
variable {T:Tx K mg} {H:Hp} {A:Ad} {L:List Ta} {M:Hs}
def kX {k:Nat} {a:Ta} {t:Th} {Q:VK} {E:XK} (i:aJ T.aK T.aQ T.bb H A L M) (ha:L[k]?=some a) (ht:M.ts[k]?=some t) (q:Q (.ref a.th) H):Hl T.aK T.aQ T.bb T.qQ [.ref A.t,.int (k:Int)] H Q E :=
 ⟨A,L,M,i,rfl,⟨_,rfl⟩,fun j a' t' e h1 h2=>by
  injection e with e;have:k=j:=by omega
  subst this;rw [ha] at h1; cases h1;exact q,fun h=>absurd (Do.mp ht).1 (h k rfl)⟩
def eZ {k:Nat} {a:Ta} {t:Th} (i:aJ T.aK T.aQ T.bb H A L M) (ha:L[k]?=some a) (ht:M.ts[k]?=some t):jk T.bb H a k t:=by
 obtain ⟨a',e,h⟩:=i.th k t ht;rw [ha] at e; cases e;exact h
end
def KO:T.nA.k P w mg base 3 (Z6 T.aK T.aQ T.bb Ad.t):=by
 refine T.nA.F.ok UC (fun _ _ _ _ h=>pa h fun _ _ _ _=>rfl) fun ag A outer s H vs Q E hr h=>pa h fun x n z h=>?_;obtain ⟨AA,L,M,k,a,t,i,rfl,rfl,ha,aF,q⟩:=h;obtain ⟨fs,c,hx,bf,sf⟩:=i.h;obtain ⟨gs,c2,ht,dN,sg⟩:=i.t;have cN:=eZ i ha aF;obtain ⟨ks,ho,je,so⟩:=cN.o;refine ⟨_,((bi (cr (Dv.ZG (gn hr) (bn T.dM T.u0 (pc T.ck T.dD.h (jA T) hr.m T.dD.b .nil dC (ad 0) (al (ad 1) am))) (ad 2))))).h,?_⟩;refine stI [some (V.ref AA.t),some (V.int (k:Int)),some (V.str z)] ?_;left;refine (mI ht sg (kX i ha aF ⟨a.th,_,_,.ref a.nm,rfl,ho,(so _).trans rfl,a.nm,rfl,.inl ⟨_,.inl cN.nm⟩,_,eh.k (k:=.inr z) cN.nm,q⟩))
def RH:T.rQ.k P w mg base 3 (jE T.aK T.aQ T.bb Ad.t LC):=by
 refine T.rQ.F.ok U1 (fun _ _ _ _ h=>bY h fun _ _ _=>rfl) fun ag A outer s H vs Q E hr h=>bY h fun x n h=>?_;obtain ⟨AA,L,M,k,a,t,i,rfl,rfl,ha,aF,q⟩:=h;obtain ⟨fs,c,hx,bf,sf⟩:=i.h;obtain ⟨gs,c2,ht,dN,sg⟩:=i.t;have cN:=eZ i ha aF;obtain ⟨ks,ho,je,so⟩:=cN.o;refine ⟨_,((bi (cr (Dv.minD rfl T.Hq (bn T.dM T.rL (pc T.ck T.dD.h (jA T) hr.m T.dD.b .nil dC (ad 0) (al (ad 1) am))))))).h,?_⟩;refine stI [some (V.ref AA.t),some (V.int (k:Int))] ?_;left;refine (mI ht sg (kX i ha aF ⟨a.th,_,_,.ref a.pl,rfl,ho,(so _).trans rfl,a.pl,_,rfl,cN.pl,?_⟩));rcases q with ⟨e,q⟩ | ⟨f,z,e,q⟩
 ·rw [e]; exact .inl ⟨rfl,q⟩
 ·rw [e]; exact .inr ⟨_,_,rfl,q⟩
def vQ:T.iN.k P w mg base 3 (jE T.aK T.aQ T.bb Ad.a vA):=by
 refine T.iN.F.ok WX (fun _ _ _ _ h=>bY h fun _ _ _=>rfl) fun ag A outer s H vs Q E hr h=>bY h fun x n h=>?_;obtain ⟨AA,L,M,k,a,t,i,rfl,rfl,ha,aF,q⟩:=h;obtain ⟨fs,c,hx,bf,sf⟩:=i.h;obtain ⟨gs,c2,ht,dN,sg⟩:=i.t;have cN:=eZ i ha aF;obtain ⟨ks,ho,je,so⟩:=cN.o;refine ⟨_,((bi (cr (bn T.dM T.DV (pc T.ck T.dD.h (jA T) hr.m T.dD.b .nil dC (bn T.aN T.f9 (ad 0)) (al (ad 1) am)))))).h,?_⟩;refine stI [some (V.ref AA.a),some (V.int (k:Int))] ?_;left;exact ⟨AA.a,_,_,.ref AA.t,rfl,hx,(sf _).trans rfl,AA.t,_,_,rfl,ht,(sg _).trans rfl,kX i ha aF (fI ho so rfl q)⟩
def De:T.kG.k P w mg base 4 (jE T.aK T.aQ T.bb Ad.a LC):=by
 refine T.kG.F.ok P1 (fun _ _ _ _ h=>bY h fun _ _ _=>rfl) fun ag A outer s H vs Q E hr h=>bY h fun x n h=>?_;obtain ⟨AA,L,M,k,a,t,i,rfl,rfl,ha,aF,q⟩:=h;obtain ⟨fs,c,hx,bf,sf⟩:=i.h;obtain ⟨gs,c2,ht,dN,sg⟩:=i.t;have cN:=eZ i ha aF;obtain ⟨ks,ho,je,so⟩:=cN.o;refine ⟨_,((bi (cr (ge T.ck T.rQ.h (RH T) hr.m T.rQ.b .nil az (bn T.aN T.f9 (ad 0)) (al (ad 1) am))))).h,?_⟩;refine stI [some (V.ref AA.a),some (V.int (k:Int))] ?_;left;exact ⟨AA.a,_,_,.ref AA.t,rfl,hx,(sf _).trans rfl,AA.t,_,_,rfl,ht,(sg _).trans rfl,AA,L,M,k,a,t,i,rfl,rfl,ha,aF,q⟩
def YF:T.ue.k P w mg base 3 (jE T.aK T.aQ T.bb Ad.a WD):=by
 refine T.ue.F.ok Sy (fun _ _ _ _ h=>bY h fun _ _ _=>rfl) fun ag A outer s H vs Q E hr h=>bY h fun x n h=>?_;obtain ⟨AA,L,M,k,a,t,i,rfl,rfl,ha,aF,q⟩:=h;obtain ⟨fs,c,hx,bf,sf⟩:=i.h;obtain ⟨gs,c2,ht,dN,sg⟩:=i.t;have cN:=eZ i ha aF;obtain ⟨ks,ho,je,so⟩:=cN.o;refine ⟨_,((bi (dL (pc T.ck T.dD.h (jA T) hr.m T.dD.b .nil dC (bn T.aN T.f9 (ad 0)) (al (ad 1) am))))).h,?_⟩;refine stI [some (V.ref AA.a),some (V.int (k:Int))] ?_;left;exact ⟨AA.a,_,_,.ref AA.t,rfl,hx,(sf _).trans rfl,AA.t,_,_,rfl,ht,(sg _).trans rfl,kX i ha aF q⟩
def Z7:T.uv.k P w mg base 2 (Ji T.aK T.aQ T.bb Ad.a):=by
 refine T.uv.F.ok TU (fun _ _ _ _ h=>da h fun _ _=>rfl) fun ag A outer s H vs Q E hr h=>da h fun x h=>?_;obtain ⟨AA,L,M,i,rfl,q⟩:=h;obtain ⟨fs,c,hx,bf,sf⟩:=i.h;obtain ⟨gs,c2,ht,dN,sg⟩:=i.t;refine ⟨_,((bi (cr (Dv.sC T.ck T.rp.h (P5 T) hr.m T.rp.b .nil az (bn T.aN T.f9 (ad 0)))))).h,?_⟩;refine stI [some (V.ref AA.a)] ?_;left;exact ⟨AA.a,_,_,.ref AA.t,rfl,hx,(sf _).trans rfl,AA.t,_,_,rfl,ht,(sg _).trans rfl,AA,L,M,i,rfl,q⟩
section
variable {CH CS CT:Addr} {H:Hp} {A:Ad} {L:List Ta} {M:Hs}
def aJ.vj (i:aJ CH CS CT H A L M) {k:Nat} {a:Ta} (ha:L[k]?=some a):∀ b∈A.w,∀ c∈a.l,b≠c:=fun b hb c hc=>by
 have nd:=i.nd;rw [Sc] at nd;exact nd.2.2 b hb c (mw ha hc)
def aJ.aT (i:aJ CH CS CT H A L M):A.a≠A.t:=by
 have nd:=i.nd;rw [Sc] at nd;have:=(KK.mp nd.1).1;exact fun e=>this (by rw [e]; simp)
def HW:∀ {L:List Ta} {k:Nat} {a:Ta},(L.flatMap Ta.l).Nodup->L[k]?=some a->a.l.Nodup
 | c::r,0,a,nd,h=>by
  rw [_g,Sc] at nd;simp only [List.getElem?_cons_zero,Option.some.injEq] at h;subst h; exact nd.1
 | c::r,k+1,a,nd,h=>by
  rw [_g,Sc] at nd;simp only [List.getElem?_cons_succ] at h;exact HW nd.2.1 h
def aJ.own (i:aJ CH CS CT H A L M) {k:Nat} {a:Ta} (ha:L[k]?=some a):a.th≠a.nm/\a.th≠a.pl/\a.nm≠a.pl:=by
 have nd:=i.nd;rw [Sc] at nd;have:=HW nd.2.1 ha;simp only [Ta.l,KK,AT,EQ,KB,_P,Ja9,Ja7,and_true] at this;exact ⟨this.1.1,this.1.2,this.2⟩
end
def ZP (CH CS CT:Addr):Sp:=wq fun x n z H Q _=>X6 fun A L M (k:Nat) a t=>A7 (aJ CH CS CT H A L M) (A.t=x) (n=(k:Int)) (L[k]?=some a) (M.ts[k]?=some t) (aM (sD t.aR) (.inr z)=none) (Q .au H)
def UN:T.sA.k P w mg base 4 (ZP T.aK T.aQ T.bb):=by
 refine T.sA.F.ok JA (fun _ _ _ _ h=>pa h fun _ _ _ _=>rfl) fun ag A outer s H vs Q E hr h=>pa h fun x n z h=>?_;obtain ⟨AA,L,M,k,a,t,i,rfl,rfl,ha,aF,hv,q⟩:=h;obtain ⟨gs,c2,ht,dN,sg⟩:=i.t;refine ⟨_,((ap (dl 3 JA.nd (ge T.ck T.nA.h (KO T) hr.m T.nA.b .nil az (ad 0) (al (ad 1) (al (ad 2) am))))
 (bi (em (im LL (ad 3) ul) (ap pi
 (ap pi
 (bi pi))) gl)))).h,?_⟩
 refine stI [some (V.ref AA.t),some (V.int (k:Int)),some (V.str z),none] ?_;right;refine (mI ht sg ⟨AA,L,M,k,a,t,i,rfl,rfl,ha,aF,?_⟩);rw [hv];refine ⟨by trivial,?_⟩;exact bc q
def Vn (CH CS CT:Addr):Sp:=Ho fun x fn z kn H Q _=>X9 fun A L M (f:Nat) (k:Nat) af tf ak tk=>Bn (aJ CH CS CT H A L M) (A.t=x) (fn=(f:Int)) (kn=(k:Int)) (L[f]?=some af) (M.ts[f]?=some tf) (L[k]?=some ak) (M.ts[k]?=some tk) (f≠k) (aM (sD tf.aR) (.inr z)=none) (tf.aR.length<=500) (tk.bW=[]) (∀ H',aJ CH CS CT H' A L { M with ts:=(M.ts.set f { tf with aR:=tf.aR++[(z,k)] }).set k { tk with bW:=[(f,z)] } }->Kp [A.t,af.nm,ak.pl] H H'->Q .au H')
def zZ {l:List (Str×Nat)} {z:Str} {k:Nat} (h:aM (sD l) (.inr z)=none):putK (sD l) (.inr z) (.int (k:Int))=sD (l++[(z,k)]):=by
 have e:((sD l).any fun kv=>decide (kv.1=(Sum.inr z:Key)))=false:=by rw [Dk,h]; rfl
 unfold putK;rw [e];simp [sD]
def UZ:T.rD.k P w mg base 5 (Vn T.aK T.aQ T.bb):=by
 refine T.rD.F.ok xw (fun _ _ _ _ h=>KP h fun _ _ _ _ _=>rfl) fun ag A outer s H vs Q E hr h=>KP h fun x fn z kn h=>?_;obtain ⟨AA,L,M,f,k,af,tf,ak,tk,i,rfl,rfl,rfl,gI,cf,iA,gg,hfk,hv,mX,bw,q⟩:=h;obtain ⟨fs,c,hx,bf,sf⟩:=i.h;obtain ⟨gs,c2,ht,dN,sg⟩:=i.t;have N1:=eZ i iA gg;obtain ⟨ks,ho,je,so⟩:=N1.o;refine ⟨_,((ap (dl 4 xw.nd (pc T.ck T.dD.h (jA T) hr.m T.dD.b .nil dC (ad 0) (al (ad 3) am)))
 (ap (wS T.ck T.zP mC (ad 0) bv)
 (ap (dL (ge T.ck T.sA.h (UN T) hr.m T.sA.b .nil az (ad 0) (al (ad 1) (al (ad 2) am))))
 (ap (em (im ki (bn T.dM T.DV (ad 4)) (mo (.str "file") T.yG ⟨_,rfl⟩)) (bi (Dv.xb _O rfl (Dv.nS (K:=K) rfl (Dv.t9 (XZ rfl) T.nH xh (al (bn T.dM T.rL (ad 4)) am))) (Dv.Xp (K:=K) (n:=2) rfl rfl (Dv.LB (sK 5 xw.nd) (Dv.LB (sK 6 xw.nd) Dv.Yp))) (bi pi))) gl)
 (ap (Dv.ui (gn hr) (bn T.dM T.u0 (pc T.ck T.dD.h (jA T) hr.m T.dD.b .nil dC (ad 0) (al (ad 1) am))) (ad 2) (ad 3))
 (bi (Dv.ui (gn hr) (bn T.dM T.rL (ad 4)) (pp (al (ad 1) (al (ad 2) am))) ss)))))))).h,?_⟩
 refine stI [some (V.ref AA.t),some (V.int (f:Int)),some (V.str z),some (V.int (k:Int)),none,none,none] ?_;right;refine (mI ht sg (kX i iA gg ?_));right;refine ⟨AA.t,_,_,.int c2,rfl,ht,(sg _).trans rfl,_,_,rfl,rfl,_,_,ht,by omega,ah ?_⟩;have tn:∀ b∈ak.l,AA.t≠b:=i.vj iA _ (by simp [Ad.w]);have i1:aJ T.aK T.aQ T.bb (upd H AA.t (.ins T.aQ AA.dt (ay "changes" (.int (c2+1)) gs))) AA L M:=by
  have w:=i.write (H':=upd H AA.t (.ins T.aQ AA.dt (ay "changes" (.int (c2+1)) gs))) (t':=tk) iA ⟨fs,c,by rw [aj i.aT]; exact hx,bf,sf⟩ ⟨_,c2+1,aw,by rw [jw (u:=.int c2) ((sg _).trans rfl)]; exact dN,fun f=>by rw [(sg.put "changes" (.int (c2+1))) f]; rfl⟩
   (N1.keep (W:=[AA.t]) (fun b o hb e=>by rw [aj (fun z=>hb (by simp [z]))]; exact e) fun b hb=>by simp [Fa (tn b hb)]) (fun b o hb e=>by simp only [AT,EQ,KB,_P] at hb; rw [aj hb.2.1]; exact e)
  have e:M.ts.set k tk=M.ts:=by
   apply List.ext_getElem?;intro j;by_cases hj:k=j
   ·subst hj; rw [Wp (Do.mp gg).1,gg]
   ·rw [Uf hj]
  rw [e] at w;exact w
 have iD:Kp [AA.t] H (upd H AA.t (.ins T.aQ AA.dt (ay "changes" (.int (c2+1)) gs))):=fun b o hb e=>by rw [aj (fun z=>hb (by simp [z]))]; exact e
 generalize upd H AA.t (.ins T.aQ AA.dt (ay "changes" (.int (c2+1)) gs))=H1 at i1 iD ⊢;obtain ⟨gs1,c3,gT,NL,Fp⟩:=i1.t;have OA:=eZ i1 iA gg;have ithf1:=eZ i1 gI cf;obtain ⟨ks1,Ox,hol1,NU⟩:=OA.o;obtain ⟨iE,hf1,iY,c9⟩:=ithf1.o;left;refine (mI gT Fp ⟨AA,L,M,f,af,tf,i1,rfl,rfl,gI,cf,hv,?_⟩);refine jY (fun σ' H'=>ai H1 H'/\∃ t5 t6,σ'=[some (V.ref AA.t),some (V.int (f:Int)),some (V.str z),some (V.int (k:Int)),some (.ref ak.th),t5,t6]) ?_ ?_
 ·left;refine (fI Ox NU rfl ?_);refine mm (fun _=>?_) (fun _=>⟨ai.refl _,_,_,rfl⟩);refine (fI Ox NU rfl ?_);have EJ:H1 ak.pl=some (.dT []):=by have:=OA.pl; rw [bw] at this; exact this
  refine ⟨ak.pl,_,rfl,EJ,?_⟩;intro l ks hk _ hl;have Ei:ks=[]:=_E.mp hk;subst Ei;refine ⟨⟨_,aD.of aw⟩,Ck (xs:=[]) (fun _ σ' H'=>H'=upd H1 l (.lst [])/\σ'=[some (V.ref AA.t),some (V.int (f:Int)),some (V.str z),some (V.int (k:Int)),some (.ref ak.th),none,none]) ⟨rfl,rfl⟩ (fun _ σ' H' _ h=>by rw [h.1]; exact aD.of aw) (fun j x σ' H' hx _=>by simp at hx) (fun σ' H' h=>?_)⟩;obtain ⟨rfl,rfl⟩:=h;exact ⟨ai.upd hl,_,_,rfl⟩
 ·rintro σ' H2 ⟨s2,t5,t6,rfl⟩;have i2:=i1.same s2;obtain ⟨gs2,c4,jL,hgl2,Nb⟩:=i2.t;obtain ⟨yt,d2,bZ,hxl2,sx2⟩:=i2.h;have FR:=eZ i2 gI cf;obtain ⟨jJ,NC,i0,cj⟩:=FR.o;have OF:=i2.own gI;have M6:=i2.own iA;have Nd:=i2.vj gI;have Od:=i2.vj iA;right;refine (mI jL Nb (kX i2 gI cf ⟨af.th,_,_,.ref af.nm,rfl,NC,(cj _).trans rfl,af.nm,_,rfl,iL.k (k:=.inr z) FR.nm (nv (by unfold sD; rw [At]; omega)),?_⟩));rw [zZ hv];have i3:aJ T.aK T.aQ T.bb (upd H2 af.nm (.dK (sD (tf.aR++[(z,k)])))) AA L { M with ts:=M.ts.set f { tf with aR:=tf.aR++[(z,k)] } }:=by
   refine i2.write gI ⟨yt,d2,by rw [aj (Nd _ (by simp [Ad.w]) _ (by simp [Ta.l]))]; exact bZ,hxl2,sx2⟩ ⟨gs2,c4,by rw [aj (Nd _ (by simp [Ad.w]) _ (by simp [Ta.l]))]; exact jL,hgl2,Nb⟩ ⟨⟨jJ,by rw [aj OF.1]; exact NC,i0,cj⟩,aw,by rw [aj (Fa OF.2.2)]; exact FR.pl⟩ (fun b o hb e=>?_);simp only [AT,EQ,KB,_P] at hb;rw [aj hb.2.2.2.1]; exact e
  have NQ:Kp [AA.t,af.nm] H (upd H2 af.nm (.dK (sD (tf.aR++[(z,k)])))):=fun b o hb e=>by
   simp only [AT,EQ,KB,_P] at hb;rw [aj hb.2];exact s2 _ _ (iD b o (by simp [hb.1]) e)
  generalize upd H2 af.nm (.dK (sD (tf.aR++[(z,k)])))=H3 at i3 NQ ⊢;have Oy:(M.ts.set f { tf with aR:=tf.aR++[(z,k)] })[k]?=some tk:=by rw [Uf hfk]; exact gg
  have ithk3:=eZ i3 iA Oy;obtain ⟨ks3,ho3,hol3,so3⟩:=ithk3.o;left;refine ⟨ak.th,_,_,.ref ak.pl,rfl,ho3,(so3 _).trans rfl,fits (by simp),fun p hp=>?_⟩;refine fX (o:=.tup [V.int (f:Int),V.str z]) hp fun H4 s4 b4=>?_;have i4:=i3.same s4;have Fo:=eZ i4 iA Oy;obtain ⟨ks4,ho4,hol4,so4⟩:=Fo.o;obtain ⟨gs4,c5,ht4,hgl4,sg4⟩:=i4.t;obtain ⟨hs4,d4,i9,hxl4,sx4⟩:=i4.h;have hpl4:H4 ak.pl=some (.dT []):=by have:=Fo.pl; rw [bw] at this; exact this
  refine ⟨ak.pl,_,rfl,iL.t (k:=[.inl (f:Int),.inr z]) hpl4 b4 (by decide),?_⟩;refine q _ (i4.write iA ⟨hs4,d4,by rw [aj (Od _ (by simp [Ad.w]) _ (by simp [Ta.l]))]; exact i9,hxl4,sx4⟩ ⟨gs4,c5,by rw [aj (Od _ (by simp [Ad.w]) _ (by simp [Ta.l]))]; exact ht4,hgl4,sg4⟩ ⟨⟨ks4,by rw [aj M6.2.1]; exact ho4,hol4,so4⟩,by rw [aj M6.2.2]; exact Fo.nm,aw⟩ (fun b o hb e=>?_)) (fun b o hb e=>?_)
  ·simp only [AT,EQ,KB,_P] at hb;rw [aj hb.2.2.2.2]; exact e
  ·simp only [AT,EQ,KB,_P] at hb;rw [aj hb.2.2];exact s4 _ _ (NQ b o (by simp [hb.1,hb.2.1]) e)
def Jd (CH:Addr) (fld:Str):Sp:=sE fun x z n H Q _=>X5 fun dx fs c d kvs=>A7 (H x=some (.ins CH dx fs)) (fs.length<=40) (fs.lookup ("changes" : Str)=some (.int c)) (fs.lookup fld=some (.ref d)) (H d=some (.dK kvs)) (kvs.length<=40) (Q .au (upd (upd H x (.ins CH dx (ay "changes" (.int (c+1)) fs))) d (.dK (putK kvs (.inr z) (.int n)))))
def Y1 (CH:Addr):Sp:=ju fun x z H Q _=>X7 fun dx fs c ro st kr ks=>J5 (H x=some (.ins CH dx fs)) (fs.length<=40) (fs.lookup ("changes" : Str)=some (.int c)) (fs.lookup ("roots" : Str)=some (.ref ro)) (fs.lookup ("standings" : Str)=some (.ref st)) (fs.lookup ("first_root" : Str)=some (.int 0)) (fs.lookup ("put_root" : Str)=none) (fs.lookup ("put_standing" : Str)=none) (H ro=some (.dK kr)) (kr.length<=40) (H st=some (.dK ks)) (ks.length<=40) (ro≠st) (∀ fs' c' H',H' x=some (.ins CH dx fs')->fs'.length<=40->c7 fs' (ay "changes" (.int c') fs)->H' ro=some (.dK (putK kr (.inr z) (.int 0)))->H' st=some (.dK (putK ks (.inr z) (.int 0)))->(∀ b,b≠x->b≠ro->b≠st->H' b=H b)->Q .au H')
def Ub:T.uC.k P w mg base 1 (Jd T.aK "roots"):=by
 refine T.uC.F.ok Va (fun _ _ _ _ h=>jh h fun _ _ _ _=>rfl) fun ag A outer s H vs Q E hr h=>jh h fun x z n h=>?_;obtain ⟨dx,fs,c,d,kvs,hx,bf,hc,hd,hD,jH,q⟩:=h;refine ⟨_,((ap (wS T.aN T.wJ mC (ad 0) bv)
 (bi (Dv.ui (gn hr) (bn T.aN T.rb (ad 0)) (ad 1) (ad 2))))).h,?_⟩
 refine stI [some (V.ref x),some (V.str z),some (V.int n)] ?_;have cQ:d≠x:=fun e=>by rw [e,hx] at hD; cases hD
 right;refine ⟨x,dx,fs,.int c,rfl,hx,hc,_,_,rfl,rfl,dx,fs,hx,by omega,?_⟩;left;refine ⟨x,dx,_,.ref d,rfl,aw,by rw [eD,Id (by decide)]; exact hd,d,_,rfl,iL.k (k:=.inr z) (by rw [aj cQ]; exact hD) (nv (by omega)),q⟩
def VD:T.rK.k P w mg base 1 (Jd T.aK "standings"):=by
 refine T.rK.F.ok aaI (fun _ _ _ _ h=>jh h fun _ _ _ _=>rfl) fun ag A outer s H vs Q E hr h=>jh h fun x z n h=>?_;obtain ⟨dx,fs,c,d,kvs,hx,bf,hc,hd,hD,jH,q⟩:=h;refine ⟨_,((ap (wS T.aN T.wJ mC (ad 0) bv)
 (bi (Dv.ui (gn hr) (bn T.aN T.Dg (ad 0)) (ad 1) (ad 2))))).h,?_⟩
 refine stI [some (V.ref x),some (V.str z),some (V.int n)] ?_;have cQ:d≠x:=fun e=>by rw [e,hx] at hD; cases hD
 right;refine ⟨x,dx,fs,.int c,rfl,hx,hc,_,_,rfl,rfl,dx,fs,hx,by omega,?_⟩;left;refine ⟨x,dx,_,.ref d,rfl,aw,by rw [eD,Id (by decide)]; exact hd,d,_,rfl,iL.k (k:=.inr z) (by rw [aj cQ]; exact hD) (nv (by omega)),q⟩
def Mv:T.oy.k P w mg base 2 (Y1 T.aK):=by
 refine T.oy.F.ok aaz (fun _ _ _ _ h=>eQ h fun _ _ _=>rfl) fun ag A outer s H vs Q E hr h=>eQ h fun x z h=>?_;obtain ⟨dx,fs,c,ro,st,kr,ks,hx,bf,hc,nh,aU,lL,xB,fK,E5,Fe,Fy,Ei,qI,q⟩:=h;refine ⟨_,((ap (dL (ge T.aN T.uC.h (Ub T) hr.m T.uC.b .nil az (ad 0) (al (ad 1) (al (bn T.aN T.Dp (ad 0)) am))))
 (bi (dL (ge T.aN T.rK.h (VD T) hr.m T.rK.b .nil az (ad 0) (al (ad 1) (al (bn T.aN T.Dp (ad 0)) am))))))).h,?_⟩
 refine stI [some (V.ref x),some (V.str z)] ?_;have n1:ro≠x:=fun e=>by rw [e,hx] at E5; cases E5
 have n2:st≠x:=fun e=>by rw [e,hx] at Fy; cases Fy
 right;refine ⟨x,dx,fs,rfl,hx,xB,x,dx,fs,.int 0,rfl,hx,lL,?_⟩;refine ⟨dx,fs,c,ro,kr,hx,by omega,hc,nh,E5,Fe,?_⟩;have bx:upd (upd H x (.ins T.aK dx (ay "changes" (.int (c+1)) fs))) ro (.dK (putK kr (.inr z) (.int 0))) x=some (.ins T.aK dx (ay "changes" (.int (c+1)) fs)):=by rw [aj (Fa n1),aw]
 have gZ:upd (upd H x (.ins T.aK dx (ay "changes" (.int (c+1)) fs))) ro (.dK (putK kr (.inr z) (.int 0))) ro=some (.dK (putK kr (.inr z) (.int 0))):=aw;have EU:upd (upd H x (.ins T.aK dx (ay "changes" (.int (c+1)) fs))) ro (.dK (putK kr (.inr z) (.int 0))) st=some (.dK ks):=by rw [aj (Fa qI),aj n2]; exact Fy
 have oG:∀ b,b≠x->b≠ro->upd (upd H x (.ins T.aK dx (ay "changes" (.int (c+1)) fs))) ro (.dK (putK kr (.inr z) (.int 0))) b=H b:=fun b b1 b2=>by rw [aj b2,aj b1]
 generalize upd (upd H x (.ins T.aK dx (ay "changes" (.int (c+1)) fs))) ro (.dK (putK kr (.inr z) (.int 0)))=H1 at bx gZ EU oG ⊢;have lk:∀ f:Str,f ≠ "changes" -> (ay "changes" (.int (c+1)) fs).lookup f=fs.lookup f:=fun f hf=>by rw [eD,Id hf]
 left;refine ⟨x,dx,_,rfl,bx,(lk _ (by decide)).trans fK,x,dx,_,.int 0,rfl,bx,(lk _ (by decide)).trans lL,?_⟩;refine ⟨dx,_,c+1,st,ks,bx,by rw [jw hc]; exact bf,by rw [eD,IN rfl],(lk _ (by decide)).trans aU,EU,Ei,?_⟩;refine q _ (c+1+1) _ (by rw [aj (Fa n2),aw]) (by rw [jw (u:=.int (c+1)) (by rw [eD,IN rfl]),jw hc]; exact bf) (fun f=>?_) (by rw [aj qI,aj n1]; exact gZ) aw (fun b b1 b2 b3=>by rw [aj b3,aj b1]; exact oG b b1 b2);rw [eD,eD,eD];by_cases e:f = "changes"
 ·rw [IN e,IN e]
 ·rw [Id e,Id e,Id e]
def Zq (CH CS CT:Addr):Sp:=mR fun x m own H Q _=>A2 (m = "main") (X7 fun dx fs c t dt ml tr=>A9 (H x=some (.ins CH dx fs)) (fs.length<=40) (fs.lookup ("things" : Str)=some (.ref t)) (fs.lookup ("changes" : Str)=some (.int c)) (fs.lookup ("tree_roots" : Str)=some (.ref tr)) (fs.lookup ("add_folder" : Str)=none) (jW CS H t dt ml []) (H tr=some (.dK [])) (∀ th dw nm pl fs' ks c' H',H th=none->H nm=none->H pl=none->H' x=some (.ins CH dx fs')->fs'.length<=fs.length->c7 fs' (ay "changes" (.int c') fs)->jW CS H' t dt ml [.ref th]->H' th=some (.ins CT dw ks)->ks.length<=40 ->
    c7 ks (ra (.int 0) (.str "folder") (.str own) (.str "lgw") (.str "lg") (.str "") (.ref nm) (.ref pl))->H' nm=some (.dK [])->H' pl=some (.dT [])->H' tr=some (.dK [(.inr "main",.int 0)])->Kp [x,t,ml,tr] H H'->Q (.int 0) H'))
def W4:T.sN.k P w mg base 5 (Zq T.aK T.aQ T.bb):=by
 refine T.sN.F.ok Gx (fun _ _ _ _ h=>gx h fun _ _ _ _=>rfl) fun ag A outer s H vs Q E hr h=>gx h fun x m own h=>?_;obtain ⟨rfl,dx,fs,c,t,dt,ml,tr,hx,bf,aF,hc,iC,gI,Fl,jN,q⟩:=h;obtain ⟨gs,d,ht,dN,sg⟩:=Fl.o;have iB:=Fl.ml;refine ⟨_,((ap (dl 3 Gx.nd (ge T.ck T.ou.h (Gi T) hr.m T.ou.b .nil az (bn T.aN T.f9 (ad 0)) (al (ad 2) (al ci (al ci am)))))
 (ap (wS T.aN T.wJ mC (ad 0) bv)
 (ap (Dv.ui (gn hr) (bn T.aN T.HR (ad 0)) (ad 1) (ad 3))
 (bi (cr (ad 3))))))).h,?_⟩
 refine stI [some (V.ref x),some (V.str "main"),some (V.str own),none] ?_;have n1:t≠x\/True:=.inr trivial;right;refine ⟨x,dx,fs,.ref t,rfl,hx,aF,t,dt,gs,rfl,ht,(sg _).trans rfl,?_⟩;refine ⟨dt,ml,[],Fl,by simp,?_⟩;intro th dw nm pl ks H1 fth fnm fpl at1 hth1 hkl1 sk1 hnm1 EJ iD;obtain ⟨gs',d',gT,NL,Fp⟩:=at1.o;have lH:=at1.ml;have eR:x≠t:=fun e=>by
  rw [e,ht] at hx;injection hx with hx;injection hx with _ _ jO;rw [<- jO] at aF;have:=(sg "things").symm.trans aF;cases this
 have Nc:x≠ml:=fun e=>by rw [e,iB] at hx; cases hx
 have Nj:tr≠t:=fun e=>by rw [e,ht] at jN; cases jN
 have MP:tr≠ml:=fun e=>by rw [e,iB] at jN; cases jN
 have NK:tr≠x:=fun e=>by rw [e,hx] at jN; cases jN
 have bx:H1 x=some (.ins T.aK dx fs):=iD _ _ (by simp [eR,Nc]) hx;have hTr1:H1 tr=some (.dK []):=iD _ _ (by simp [Nj,MP]) jN;right;refine ⟨x,dx,fs,.int c,rfl,bx,hc,_,_,rfl,rfl,dx,fs,bx,by omega,ah ?_⟩;left;refine ⟨x,dx,_,.ref tr,rfl,aw,by rw [eD,Id (by decide)]; exact iC,tr,_,rfl,iL.k (k:=.inr "main") (by rw [aj NK]; exact hTr1) (by decide),?_⟩;left;have old:∀ b o,H1 b=some o->b≠x->b≠tr->upd (upd H1 x (.ins T.aK dx (ay "changes" (.int (c+1)) fs))) tr (.dK (putK [] (.inr "main") (.int 0))) b=some o:=fun b o e b1 b2=>by rw [aj b2,aj b1]; exact e
 have Ni:th≠x/\th≠tr:=⟨Fa (aH hx fth),Fa (aH jN fth)⟩;have Na:nm≠x/\nm≠tr:=⟨Fa (aH hx fnm),Fa (aH jN fnm)⟩;have N7:pl≠x/\pl≠tr:=⟨Fa (aH hx fpl),Fa (aH jN fpl)⟩;refine q th dw nm pl _ ks (c+1) _ fth fnm fpl (by rw [aj (Fa NK),aw]) (Nat.le_of_eq (jw hc)) (c7.refl _) ⟨⟨gs',d',old _ _ gT (Fa eR) (Fa Nj),NL,Fp⟩,old _ _ lH (Fa Nc) (Fa MP)⟩ (old _ _ hth1 Ni.1 Ni.2) hkl1 sk1 (old _ _ hnm1 Na.1 Na.2) (old _ _ EJ N7.1 N7.2) aw ?_;intro b o hb e;simp only [AT,EQ,KB,_P] at hb;exact old _ _ (iD b o (by simp [hb.2.1,hb.2.2.1]) e) hb.1 hb.2.2.2
def kD:aB P w K mg base (bj P w) 1 T.dY.f T.dY.d ["self","asker"] (KA T.aK T.aQ T.bb T.qF):=by
 refine T.dY.F.eg Uo (fun _ _ _ _ h=>u4 h fun _ _ _=>rfl) fun ag A outer s H vs Q E hr h=>u4 h fun x v h=>?_;obtain ⟨AA,L,M,i,rfl,⟨ty,cE⟩,q1,q2⟩:=h;obtain ⟨fs,c,hx,bf,sf⟩:=i.h;refine ⟨_,((bi (em (sB (ut (lv (jp (kt j3 T.gu gC (al (ad 1) (al (wf (.ty "str") T.qb qm rfl) am))))) (wn (Dv.aah (gn hr) (ad 1) (bn T.aN T.rb (ad 0)))))) (bi (Dv.BV zQ rfl T.Qs T.Zn (al ci am))) gl))).h,?_⟩;refine stI [some (V.ref AA.a),some v] ?_;left;simp only [cE,Dz cE];refine ⟨wb _ rfl,?_⟩;cases v with
 | str z =>
  simp only [wZ,_7,P3,_i];refine ⟨AA.a,_,_,.ref AA.ro,rfl,hx,(sf _).trans rfl,AA.ro,_,rfl,eh.k (k:=.inr z) i.ro,?_⟩;cases hz:aM (sD M.ro) (.inr z) with
  | none=>exact bL ⟨fits (by simp),q2 fun z' e=>by cases e; exact hz⟩
  | some u=>exact bc (q1 z rfl (by rw [hz]; rfl))
 | _=>exact ⟨fits (by simp),q2 fun z' e=>by cases e⟩
section
variable {T:Tx K mg} {H:Hp} {A:Ad} {L:List Ta} {M:Hs}
def my {z:Str} {Q:VK} {E:XK} (i:aJ T.aK T.aQ T.bb H A L M) (hz:(aM (sD M.ro) (.inr z)).isSome=true) (q:Q .au H):KA T.aK T.aQ T.bb T.qF [.ref A.a,.str z] H Q E :=
 ⟨A,L,M,i,rfl,⟨_,rfl⟩,fun _ _ _=>q,fun h=>by rw [h z rfl] at hz; cases hz⟩
end
def zJ:T.ko.k P w mg base 2 (UW T.aK T.aQ T.bb):=by
 refine T.ko.F.ok WK (fun _ _ _ _ h=>eQ h fun _ _ _=>rfl) fun ag A outer s H vs Q E hr h=>eQ h fun x z h=>?_;obtain ⟨AA,L,M,r,i,rfl,hz,q⟩:=h;obtain ⟨fs,c,hx,bf,sf⟩:=i.h;refine ⟨_,((ap (dL (pc T.aN T.dY.h (kD T) hr.m T.dY.b .nil dC (ad 0) (al (ad 1) am)))
 (bi (cr (Dv.xt (gn hr) (bn T.aN T.rb (ad 0)) (ad 1)))))).h,?_⟩
 refine stI [some (V.ref AA.a),some (V.str z)] ?_;right;refine (mI hx sf (my i (by rw [hz]; rfl) ?_));refine ⟨AA.a,_,_,.ref AA.ro,rfl,hx,(sf _).trans rfl,AA.ro,.int r,rfl,?_,q⟩;have:=eh.k (k:=.inr z) i.ro;rw [hz] at this;exact this
def WO (CH CS CT:Addr):Sp:=ju fun x z H Q _=>X4 fun A L M (r:Nat)=>A5 (aJ CH CS CT H A L M) (A.a=x) ((aM (sD M.ro) (.inr z)).isSome=true) (aM (sD M.st) (.inr z)=some (.int r)) (Q (.int r) H)
def Sw:T.sI.k P w mg base 2 (WO T.aK T.aQ T.bb):=by
 refine T.sI.F.ok aa8 (fun _ _ _ _ h=>eQ h fun _ _ _=>rfl) fun ag A outer s H vs Q E hr h=>eQ h fun x z h=>?_;obtain ⟨AA,L,M,r,i,rfl,hzr,hz,q⟩:=h;obtain ⟨fs,c,hx,bf,sf⟩:=i.h;refine ⟨_,((ap (dL (pc T.aN T.dY.h (kD T) hr.m T.dY.b .nil dC (ad 0) (al (ad 1) am)))
 (bi (cr (Dv.xt (gn hr) (bn T.aN T.Dg (ad 0)) (ad 1)))))).h,?_⟩
 refine stI [some (V.ref AA.a),some (V.str z)] ?_;right;refine (mI hx sf (my i hzr ?_));refine ⟨AA.a,_,_,.ref AA.st,rfl,hx,(sf _).trans rfl,AA.st,.int r,rfl,?_,q⟩;have:=eh.k (k:=.inr z) i.st;rw [hz] at this;exact this
def HQ:T.nu.k P w mg base 4 (aa9 T.aK T.aQ T.bb):=by
 refine T.nu.F.ok R0 (fun _ _ _ _ h=>pa h fun _ _ _ _=>rfl) fun ag A outer s H vs Q E hr h=>pa h fun x n z h=>?_;obtain ⟨AA,L,M,k,a,t,i,rfl,rfl,ha,aF,hn,hl,q⟩:=h;refine ⟨_,((ap (dL (db (zo T) hr.m T.iq.m T.iq.F.kp T.iq.b .nil az (al (ad 2) am)))
 (bi (cr (ge T.ck T.nA.h (KO T) hr.m T.nA.b .nil az (bn T.aN T.f9 (ad 0)) (al (ad 1) (al (ad 2) am))))))).h,?_⟩
 refine stI [some (V.ref AA.a),some (V.int (k:Int)),some (V.str z)] ?_;right;refine ⟨⟨_,rfl⟩,hl,hn,fun H1 s1=>?_⟩;have i1:=i.same s1;obtain ⟨fs,c,hx,bf,sf⟩:=i1.h;obtain ⟨gs,c2,ht,dN,sg⟩:=i1.t;exact ⟨AA.a,_,_,.ref AA.t,rfl,hx,(sf _).trans rfl,AA.t,_,_,rfl,ht,(sg _).trans rfl,AA,L,M,k,a,t,i1,rfl,rfl,ha,aF,q H1 s1⟩
def Bu:aB P w K mg base (bj P w) 3 T.kg.f T.kg.d ["self","asker","number","right"] (Kx T.aK T.aQ T.bb T.qF T.uN T.qQ):=by
 refine T.kg.F.eg Xj (fun _ _ _ _ h=>u7 h fun _ _ _ _ _=>rfl) fun ag A outer s H vs Q E hr h=>u7 h fun x wv v r h=>?_;obtain ⟨AA,L,M,i,rfl,hcw,hcv,hcr,q1,q2⟩:=h;obtain ⟨fs,c,hx,bf,sf⟩:=i.h;obtain ⟨gs,c2,ht,dN,sg⟩:=i.t;refine ⟨_,((ap (dL (pc T.aN T.dY.h (kD T) hr.m T.dY.b .nil cS (ad 0) (al (ad 1) am)))
 (ap (dL (lm (V7 T) hr.m T.qr.m T.qr.F.kp T.qr.b .nil cS (al (ad 3) am)))
 (bi (cr (u8 (zr (K:=K) rfl) (ad 3) (ge T.dM T.rP.h (Wi T) hr.m T.rP.b .nil az (pc T.ck T.dD.h (jA T) hr.m T.dD.b .nil cS (bn T.aN T.f9 (ad 0)) (al (ad 2) am)) (al (ad 1) am)))))))).h,?_⟩
 refine stI [some (V.ref AA.a),some wv,some v,some r] ?_;right;refine (mI hx sf ⟨AA,L,M,i,rfl,hcw,fun z ez hz=>?_,q1⟩);obtain ⟨q3,q4⟩:=q2 z ez hz;subst ez;right;refine ⟨hcr,fun h1=>?_,q3⟩;obtain ⟨st,rfl⟩:∃ st,r=.str st:=by
  unfold jr at h1;simp only [Jar,_f] at h1;rcases h1 with (h1 | h1) | h1 <;> exact ⟨_,h1⟩
 obtain ⟨q5,q6⟩:=q4 st rfl h1;refine ⟨AA.a,_,_,.ref AA.t,rfl,hx,(sf _).trans rfl,AA.t,_,_,rfl,ht,(sg _).trans rfl,AA,L,M,i,rfl,hcv,fun k a t ev ha aF=>?_,q5⟩;have cN:=eZ i ha aF;obtain ⟨ks,ho,je,so⟩:=cN.o;exact (mI ho so ⟨a,k,t,cN,rfl,q6 k t ev aF⟩)
def M0 (z:Str):Hs:={ ts:=[{ kd := "folder",ow:=z,mi := "lgw",re := "lg",tx := "",aR:=[],bW:=[] }],ro:=[(z,0)],st:=[(z,0)],tr:=[("main",0)],ov:=[],un:=[] }
def WZ (CH CS CT:Addr):Sp:=ju fun x z H Q _=>A4 (∃ dx,H x=some (.ins CH dx [])) (z.length<=1000) (fE (.str z)=true) (∀ A L H',A.a=x->aJ CH CS CT H' A L (M0 z)->(∀ b∈A.w++L.flatMap Ta.l,b≠x->H b=none)->Kp [x] H H'->Q .au H')
structure iR (C dx x:Addr) (H H':Hp) (F:List (Str×V)) (W:List (Addr×HO)):Prop where
 k:Kp [x] H H'
 h:H' x=some (.ins C dx F)
 w:∀ e∈W,H' e.1=some e.2/\H e.1=none/\e.1≠x
 n:(W.map (·.1)).Nodup
section
variable {C dx x:Addr} {H H':Hp} {F:List (Str×V)} {W:List (Addr×HO)}
def iR.fresh (v:iR C dx x H H' F W) {p:Addr} (hp:H' p=none):H p=none/\p≠x:=by
 have hx:p≠x:=Fa (aH v.h hp);refine ⟨?_,hx⟩;cases e:H p with
 | none=>rfl
 | some o=>rw [v.k p o (by simp [hx]) e] at hp; cases hp
def iR.set (v:iR C dx x H H' F W) (f:Str) (u:V):iR C dx x H (upd H' x (.ins C dx (ay f u F))) (ay f u F) W :=
 ⟨fun b o hb e=>by rw [aj (fun z=>hb (by simp [z]))]; exact v.k b o hb e,aw,fun e he=>let ⟨a,b,c⟩:=v.w e he; ⟨by rw [aj c]; exact a,b,c⟩,v.n⟩
def iR.y (v:iR C dx x H H' F W) {p:Addr} {o:HO} (hp:H' p=none):upd H' p o x=some (.ins C dx F):=by rw [aj (aH v.h hp)]; exact v.h
def iR.new (v:iR C dx x H H' F W) {p:Addr} (o:HO) (f:Str) (hp:H' p=none):iR C dx x H (upd (upd H' p o) x (.ins C dx (ay f (.ref p) F))) (ay f (.ref p) F) ((p,o)::W):=by
 obtain ⟨f0,nx⟩:=v.fresh hp;have old:∀ b u,b≠x->H' b=some u->upd (upd H' p o) x (.ins C dx (ay f (.ref p) F)) b=some u:=fun b u hb e=>by rw [aj hb,aj (aH e hp)]; exact e
 refine ⟨fun b u hb e=>old b u (fun z=>hb (by simp [z])) (v.k b u hb e),aw,fun e he=>?_,KK.mpr ⟨fun hm=>?_,v.n⟩⟩
 ·rcases AT.mp he with rfl | he
  ·exact ⟨by rw [aj nx,aw],f0,nx⟩
  ·obtain ⟨a,b,c⟩:=v.w e he;exact ⟨old _ _ c a,b,c⟩
 ·obtain ⟨e,he,z⟩:=LE.mp hm;have:=(v.w e he).1;rw [show e.1=p from z,hp] at this;cases this
end
def Ur:T.ux.k P w mg base 6 (WZ T.aK T.aQ T.bb):=by
 refine T.ux.F.ok Vc (fun _ _ _ _ h=>eQ h fun _ _ _=>rfl) fun ag A outer s H vs Q E hr h=>eQ h fun x z h=>?_;obtain ⟨⟨dx,hx0⟩,lN,hn,q⟩:=h;refine ⟨_,((ap (dL (db (zo T) hr.m T.iq.m T.iq.F.kp T.iq.b .nil az (al (ad 1) am)))
 (ap (f8 T.aN T.f9 (ad 0) (Dv.U3 T.Yk (Yj T) hr.m T.Sz T.tF.b .nil az))
 (ap (f8 T.aN T.wJ (ad 0) bv)
 (ap (f8 T.aN T.rb (ad 0) Dv.nE)
 (ap (f8 T.aN T.Dg (ad 0) Dv.nE)
 (ap (f8 T.aN T.HR (ad 0) Dv.nE)
 (ap (f8 T.aN T.yz (ad 0) Dv.nE)
 (ap (f8 T.aN T.Bt (ad 0) Dv.nE)
 (ap (f8 T.aN T.Zt (ad 0) Dv.nE)
 (ap (f8 T.aN T.YY (ad 0) bv)
 (ap (f8 T.aN T.Dp (ad 0) (ge T.aN T.sN.h (W4 T) hr.m T.sN.b .nil az (ad 0) (al (mo (.str "main") T.QQ ⟨_,rfl⟩) (al (ad 1) am))))
 (bi (dL (ge T.aN T.oy.h (Mv T) hr.m T.oy.b .nil az (ad 0) (al (ad 1) am)))))))))))))))).h,?_⟩
 refine stI [some (V.ref x),some (V.str z)] ?_;right;refine ⟨⟨_,rfl⟩,lN,hn,fun H1 s1=>?_⟩;have bx:=s1 _ _ hx0;right;intro t dt ht yf lM;refine ⟨dt,aw,fun ml H2 iB nml fr2 hml2 gs dN sg jL=>⟨rfl,?_⟩⟩;have eR:x≠t:=aH bx ht;have nxd:x≠dt:=aH bx yf;have hml':H1 ml=none:=by
  rw [aj nml] at iB;by_cases e:ml=dt
  ·rw [e,aw] at iB; cases iB
  ·rw [aj e] at iB; exact iB
 have s2:ai H1 H2:=fun b o e=>by
  rw [fr2 b (aH e ht) (aH e hml'),aj (aH e ht),aj (aH e yf)]; exact e
 refine ⟨x,dx,_,rfl,s2 _ _ bx,by decide,ah ?_⟩;have V:iR T.aK dx x H (upd H2 x (.ins T.aK dx (ay "things" (.ref t) []))) (ay "things" (.ref t) []) [(t,.ins T.aQ dt gs),(ml,.lst [])]:=⟨fun b o hb e=>by rw [aj (fun z=>hb (by simp [z]))]; exact s2 _ _ (s1 _ _ e),aw,fun e he=>?_,by simp [Fa nml]⟩
 case refine_1 =>
  have fr:∀ {d},H1 d=none->H d=none:=fun {d} h=>by
   cases e:H d with
   | none=>rfl
   | some o=>rw [s1 _ _ e] at h; cases h
  simp only [AT,EQ,KB] at he;rcases he with rfl | rfl
  ·exact ⟨by rw [aj (Fa eR)]; exact jL,fr ht,Fa eR⟩
  ·exact ⟨by rw [aj (Fa (aH bx hml'))]; exact hml2,fr hml',Fa (aH bx hml')⟩
 clear fr2;generalize upd H2 x _=H3 at V ⊢;left;refine ⟨x,dx,_,rfl,V.h,by walk_at "f",ah ?_⟩
 replace V:=V.set "changes" (.int 0)
 generalize upd H3 x _=H4 at V ⊢;left;intro ro nh;refine ⟨x,dx,_,rfl,V.y nh,by walk_at "f",ah ?_⟩
 replace V:=V.new (.dK []) "roots" nh
 generalize upd (upd H4 ro _) x _=H5 at V ⊢;left;intro st aU;refine ⟨x,dx,_,rfl,V.y aU,by walk_at "f",ah ?_⟩
 replace V:=V.new (.dK []) "standings" aU
 generalize upd (upd H5 st _) x _=H6 at V ⊢;left;intro tr iC;refine ⟨x,dx,_,rfl,V.y iC,by walk_at "f",ah ?_⟩
 replace V:=V.new (.dK []) "tree_roots" iC
 generalize upd (upd H6 tr _) x _=H7 at V ⊢;left;intro ov hov;refine ⟨x,dx,_,rfl,V.y hov,by walk_at "f",ah ?_⟩
 replace V:=V.new (.dK []) "root_over" hov
 generalize upd (upd H7 ov _) x _=H8 at V ⊢;left;intro un hun;refine ⟨x,dx,_,rfl,V.y hun,by walk_at "f",ah ?_⟩
 replace V:=V.new (.dK []) "folder_under" hun
 generalize upd (upd H8 un _) x _=H9 at V ⊢;left;intro ho hho;refine ⟨x,dx,_,rfl,V.y hho,by walk_at "f",ah ?_⟩
 replace V:=V.new (.dK []) "holds" hho
 generalize upd (upd H9 ho _) x _=jb at V ⊢;left;refine ⟨x,dx,_,rfl,V.h,by walk_at "f",ah ?_⟩
 replace V:=V.set "holds_given" (.int 0)
 generalize upd jb x _=xR at V ⊢;left;have mY:=V.h;have uO:=V.k;have hw:=V.w;have iF:=V.n;simp only [List.forall_mem_cons] at hw;simp only [Ix,WP,KK,AT,EQ,KB,_P,Ja9,Ja7,and_true] at iF;obtain ⟨⟨gho11,fr_ho,nho⟩,⟨m3,fr_un,Ea⟩,⟨m9,fr_ov,Et⟩,⟨qJ,Oh,OJ⟩,⟨g8,NV,E2⟩,⟨gX,M5,D7⟩,⟨fM,ft,n1⟩,⟨fG,NH,n2⟩,_⟩:=hw;obtain ⟨_,⟨unov,untr,unst,unro,_⟩,⟨ovtr,ovst,ovro,_⟩,⟨trst,trro,_⟩,⟨stro,_⟩,_⟩:=iF;have Ou:=Fa stro;have Es:=Fa trro;have Fh:=Fa trst;have NO:=Fa ovro;have NF:=Fa ovst;have MZ:=Fa ovtr;have Nv:=Fa unro;have MO:=Fa unst;have Nq:=Fa untr;have eovun:=Fa unov;have fresh:∀ {d:Addr},d≠x->xR d=none->H d=none:=fun {d} _ h=>(V.fresh h).1;refine ⟨x,dx,_,rfl,mY,rfl,?_⟩;refine ⟨rfl,dx,_,0,t,dt,ml,tr,mY,by (repeat (refine bS ?_)); exact GT _,rfl,rfl,rfl,rfl,⟨⟨gs,0,fM,dN,sg⟩,fG⟩,qJ,?_⟩;intro th dw nm pl fs' ks c' lP fth fnm fpl hxA hflA EA atA hthA hklA skA hnmA hplA htrA uI;obtain ⟨gs',d',htA,hglA,sgA⟩:=atA.o;have hmlA:=atA.ml;have lkA:=fun (f:Str) (hf:f ≠ "changes")=>(EA f).trans ((eD _ _ _ _).trans (Id hf));have qro:lP ro=some (.dK []):=uI _ _ (by simp [D7,bQ gX fM (by nofun),bQ gX fG (by nofun),Es]) gX;have qst:lP st=some (.dK []):=uI _ _ (by simp [E2,bQ g8 fM (by nofun),bQ g8 fG (by nofun),Fh]) g8;have qun:lP un=some (.dK []):=uI _ _ (by simp [Ea,bQ m3 fM (by nofun),bQ m3 fG (by nofun),Fa Nq]) m3;have qov:lP ov=some (.dK []):=uI _ _ (by simp [Et,bQ m9 fM (by nofun),bQ m9 fG (by nofun),Fa MZ]) m9;have uX:=fun (f:Str) (h1:f ≠ "first_root") (h2:f ≠ "changes")=>((eD "first_root" f (.int 0) fs').trans (Id h1)).trans (lkA f h2);refine ⟨x,dx,fs',rfl,hxA,_L hflA (by walk_at "f"),?_⟩;refine ⟨x,dx,_,rfl,aw,(uX _ (by decide) (by decide)).trans rfl,?_⟩;refine ⟨dx,_,c',ro,st,[],[],aw,Gc (bS (Gc hflA (show _<=9 by (repeat (refine bS ?_)); exact GT _))) (by decide),by rw [eD,Id (by decide),EA,eD,IN rfl],(uX _ (by decide) (by decide)).trans rfl,(uX _ (by decide) (by decide)).trans rfl,by rw [eD,IN rfl],(uX _ (by decide) (by decide)).trans rfl,(uX _ (by decide) (by decide)).trans rfl,by rw [aj D7]; exact qro,by decide,by rw [aj E2]; exact qst,by decide,Ou,?_⟩;intro i5 c3 H13 hx13 g7 eM hro3 hst3 xy;have old:∀ b o,b≠x->b≠ro->b≠st->lP b=some o->H13 b=some o:=fun b o b1 b2 b3 e=>by rw [xy b b1 b2 b3,aj b1]; exact e
 refine q ⟨x,dx,t,dt,ml,ro,st,tr,ov,un,ho⟩ [⟨th,dw,nm,pl⟩] H13 rfl ⟨⟨i5,c3,hx13,g7,fun f=>?_⟩,⟨gs',d',old _ _ (n1) (bQ fM gX (by nofun)) (bQ fM g8 (by nofun)) htA,hglA,sgA⟩,old _ _ (n2) (bQ fG gX (by nofun)) (bQ fG g8 (by nofun)) hmlA,rfl,fun j tt e=>?_,hro3,hst3,old _ _ (OJ) (Fa Es) (Fa Fh) htrA,old _ _ (Et) (Fa NO) (Fa NF) qov,old _ _ (Ea) (Fa Nv) (Fa MO) qun,?_⟩ ?_ ?_
 ·rw [eM f];refine ((EA.put "first_root" (.int 0)).put "changes" (.int c3) f).trans rfl
 ·have hj:j=0:=by
   have:=(Do.mp e).1;have h1:(M0 z).ts.length=1:=rfl;omega
  subst hj;cases e;exact ⟨_,rfl,⟨⟨ks,old _ _ (Fa (aH mY fth)) (Fa (aH gX fth)) (Fa (aH g8 fth)) hthA,hklA,skA⟩,old _ _ (Fa (aH mY fnm)) (Fa (aH gX fnm)) (Fa (aH g8 fnm)) hnmA,old _ _ (Fa (aH mY fpl)) (Fa (aH gX fpl)) (Fa (aH g8 fpl)) hplA⟩⟩
 ·show List.Nodup [x,t,ml,ro,st,tr,ov,un,th,nm,pl];simp only [KK,AT,EQ,KB,_P,Ja9,Ja7,and_true];exact ⟨⟨Fa n1,Fa n2,Fa D7,Fa E2,Fa OJ,Fa Et,Fa Ea,aH mY fth,aH mY fnm,aH mY fpl⟩,⟨bQ fM fG (by nofun),bQ fM gX (by nofun),bQ fM g8 (by nofun),bQ fM qJ (by nofun),bQ fM m9 (by nofun),bQ fM m3 (by nofun),aH fM fth,aH fM fnm,aH fM fpl⟩,⟨bQ fG gX (by nofun),bQ fG g8 (by nofun),bQ fG qJ (by nofun),bQ fG m9 (by nofun),bQ fG m3 (by nofun),aH fG fth,aH fG fnm,aH fG fpl⟩,⟨Ou,Es,NO,Nv,aH gX fth,aH gX fnm,aH gX fpl⟩,⟨Fh,NF,MO,aH g8 fth,aH g8 fnm,aH g8 fpl⟩,⟨MZ,Nq,aH qJ fth,aH qJ fnm,aH qJ fpl⟩,⟨eovun,aH m9 fth,aH m9 fnm,aH m9 fpl⟩,⟨aH m3 fth,aH m3 fnm,aH m3 fpl⟩,⟨bQ hthA hnmA (by nofun),bQ hthA hplA (by nofun)⟩,bQ hnmA hplA (by nofun)⟩
 ·intro b hb oI;have hb':b∈[x,t,ml,ro,st,tr,ov,un,th,nm,pl]:=hb;simp only [AT,EQ,KB] at hb';rcases hb' with rfl | rfl | rfl | rfl | rfl | rfl | rfl | rfl | rfl | rfl | rfl
  ·exact absurd rfl oI
  ·exact ft
  ·exact NH
  ·exact M5
  ·exact NV
  ·exact Oh
  ·exact fr_ov
  ·exact fr_un
  ·exact fresh oI fth
  ·exact fresh oI fnm
  ·exact fresh oI fpl
 ·intro b o hb e;have oI:b≠x:=fun z=>hb (by simp [z]);refine old b o oI (aH e M5) (aH e NV) (uI b o ?_ (uO b o hb e));simp only [AT,EQ,KB,_P];exact ⟨oI,aH e ft,aH e NH,aH e Oh⟩
def VZ (CH CS CT:Addr):Sp:=ju fun x z H Q _=>X3 fun A L M=>A9 (aJ CH CS CT H A L M) (A.a=x) (z.length<=1000) (fE (.str z)=true) (M.ro.length<=30) (M.st.length<=30) (aM (sD M.ro) (.inr z)=none) (aM (sD M.st) (.inr z)=none) (∀ H',aJ CH CS CT H' A L { M with ro:=M.ro++[(z,0)],st:=M.st++[(z,0)] }->Kp [A.a,A.ro,A.st] H H'->Q .au H')
def aab:T.tW.k P w mg base 3 (VZ T.aK T.aQ T.bb):=by
 refine T.tW.F.ok Y0 (fun _ _ _ _ h=>eQ h fun _ _ _=>rfl) fun ag A outer s H vs Q E hr h=>eQ h fun x z h=>?_;obtain ⟨AA,L,M,i,rfl,lN,hn,dP,gY,xA,hs0,q⟩:=h;refine ⟨_,((ap (dL (db (zo T) hr.m T.iq.m T.iq.F.kp T.iq.b .nil az (al (ad 1) am)))
 (ap (em (Dv.Ca (gn hr) (ad 1) (bn T.aN T.rb (ad 0))) (bi pi) gl)
 (bi (dL (ge T.aN T.oy.h (Mv T) hr.m T.oy.b .nil az (ad 0) (al (ad 1) am))))))).h,?_⟩
 refine stI [some (V.ref AA.a),some (V.str z)] ?_;right;refine ⟨⟨_,rfl⟩,lN,hn,fun H1 s1=>?_⟩;have i1:=i.same s1;obtain ⟨fs,c,hx,bf,sf⟩:=i1.h;have nd:=i1.nd;rw [Sc] at nd;have EZ:=nd.1;simp only [Ad.w,KK,AT,EQ,KB,_P] at EZ;right;refine ⟨AA.a,_,_,.ref AA.ro,rfl,hx,(sf _).trans rfl,AA.ro,_,rfl,eh.k (k:=.inr z) i1.ro,?_⟩;rw [xA];refine bc ?_;left;refine (mI hx sf ⟨AA.dx,fs,c,AA.ro,AA.st,_,_,hx,bf,(sf _).trans rfl,(sf _).trans rfl,(sf _).trans rfl,(sf _).trans rfl,(sf _).trans rfl,(sf _).trans rfl,i1.ro,by unfold sD; rw [At]; omega,i1.st,by unfold sD; rw [At]; omega,EZ.2.2.2.1.1,?_⟩);intro fs' c' H' hx' hfl' sf' hro' hst' fr';have e1:putK (sD M.ro) (.inr z) (.int 0)=sD (M.ro++[(z,0)]):=zZ xA;have e2:putK (sD M.st) (.inr z) (.int 0)=sD (M.st++[(z,0)]):=zZ hs0;rw [e1] at hro';rw [e2] at hst';have kp:Kp [AA.a,AA.ro,AA.st] H1 H':=fun b o hb e=>by
  simp only [AT,EQ,KB,_P] at hb;rw [fr' b hb.1 hb.2.1 hb.2.2]; exact e
 have uK:∀ b∈[AA.t,AA.ml,AA.tr,AA.ov,AA.un],b ∉ [AA.a,AA.ro,AA.st]:=by
  intro b hb hm;simp only [AT,EQ,KB] at hb hm;obtain ⟨⟨a1,a2,a3,a4,a5,a6,a7⟩,⟨b1,b2,b3,b4,b5,b6⟩,⟨c1,c2,c3,c4,c5⟩,⟨d1,d2,d3,d4⟩,⟨f1,f2,f3⟩,_⟩:=EZ;rcases hb with rfl | rfl | rfl | rfl | rfl <;> rcases hm with h | h | h <;> first
   | exact a1 h.symm | exact a2 h.symm | exact a5 h.symm | exact a6 h.symm | exact a7 h.symm
   | exact b2 h | exact b3 h | exact c1' h | exact c1 h | exact c2 h | exact c3 h
   | exact d2 h.symm | exact d3 h.symm | exact d4 h.symm | exact f1 h.symm | exact f2 h.symm | exact f3 h.symm | exact b1 h | exact b4 h
 refine q H' ⟨⟨fs',c',hx',hfl',fun f=>?_⟩,?_,kp _ _ (uK _ (by simp)) i1.ml,i1.len,fun j t e=>?_,hro',hst',kp _ _ (uK _ (by simp)) i1.tr,kp _ _ (uK _ (by simp)) i1.ov,kp _ _ (uK _ (by simp)) i1.un,i1.nd⟩ (fun b o hb e=>kp b o hb (s1 b o e))
 ·rw [sf' f,eD,sf f];by_cases e:f = "changes"
  ·rw [IN e,e]; rfl
  ·rw [Id e];exact VG e
 ·obtain ⟨gs,d,e,r⟩:=i1.t;exact ⟨gs,d,kp _ _ (uK _ (by simp)) e,r⟩
 ·obtain ⟨a,e1,h1⟩:=i1.th j t e;refine ⟨a,e1,h1.keep kp fun b hb hm=>?_⟩;have:=i1.vj e1;simp only [AT,EQ,KB] at hm;rcases hm with rfl | rfl | rfl
  ·exact this _ (by simp [Ad.w]) _ hb rfl
  ·exact this _ (by simp [Ad.w]) _ hb rfl
  ·exact this _ (by simp [Ad.w]) _ hb rfl
def kS (M:Hs):Nat->Nat->Nat->Prop
 | 0,k,b=>aM (nD M.un) (.inl (k:Int))=none/\b=k
 | n+1,k,b=>∃ k':Nat,aM (nD M.un) (.inl (k:Int))=some (.int (k':Int))/\kS M n k' b
def jt (M:Hs):Nat->Nat->List Nat->Prop
 | 0,k,l=>aM (nD M.ov) (.inl (k:Int))=none/\l=[]
 | n+1,k,l=>∃ (k':Nat) (r:List Nat),aM (nD M.ov) (.inl (k:Int))=some (.int (k':Int))/\jt M n k' r/\l=k'::r
def dv (M:Hs) (k b:Nat) (r:List Nat):Prop:=(∃ n,kS M n k b)/\∃ n,jt M n b r/\n<=100
def jt.len {M:Hs}:∀ {n k:Nat} {l:List Nat},jt M n k l->l.length=n
 | 0,_,_,h=>by rw [h.2]; rfl
 | n+1,_,_,h=>by obtain ⟨k',r,_,h2,rfl⟩:=h; simp [h2.len]
abbrev nV (l:List Nat):List V:=l.map fun n:Nat=>V.int (n:Int)
def dB (b:Nat) (r:List Nat):Nat:=(b::r).getLast (by simp)
def UO (CH CS CT:Addr):Sp:=iQ fun x n H Q _=>X7 fun A L M (k:Nat) (b:Nat) a t=>A7 (aJ CH CS CT H A L M) (A.a=x) (n=(k:Int)) (L[k]?=some a) (M.ts[k]?=some t) (∃ m,kS M m k b) (Q (.int (b:Int)) H)
def W7 (CH CS CT:Addr):Sp:=iQ fun x n H Q _=>X8 fun A L M (k:Nat) (b:Nat) r a t=>A7 (aJ CH CS CT H A L M) (A.a=x) (n=(k:Int)) (L[k]?=some a) (M.ts[k]?=some t) (dv M k b r) (∀ l H',ai H H'->H l=none->H' l=some (.lst (nV (b::r)))->Q (.ref l) H')
def YI (CH CS CT:Addr):Sp:=iQ fun x n H Q _=>X8 fun A L M (k:Nat) (b:Nat) r a t=>A7 (aJ CH CS CT H A L M) (A.a=x) (n=(k:Int)) (L[k]?=some a) (M.ts[k]?=some t) (dv M k b r) (∀ H',ai H H'->Q (.int (dB b r:Nat)) H')
def Rr:T.pG.k P w base 4 (UO T.aK T.aQ T.bb):=by
 refine T.pG.F.ok AE (fun _ _ _ _ h=>bY h fun _ _ _=>rfl) fun ag A outer s H vs Q E hr h=>bY h fun x n h=>?_;obtain ⟨AA,L,M,k,b,a,t,i,rfl,rfl,ha,aF,⟨m,hb⟩,q⟩:=h;obtain ⟨fs,c,hx,bf,sf⟩:=i.h;refine ⟨_,((ap (dL (ge T.aN T.ue.h (YF T) hr.m T.ue.b .nil az (ad 0) (al (ad 1) am)))
 (ap (dl 2 AE.nd (ad 1))
 (ap (Dv.sG _O (Dv.Ca (gn hr) (ad 2) (bn T.aN T.Bt (ad 0))) (bi (dl 2 AE.nd (Dv.xt (gn hr) (bn T.aN T.Bt (ad 0)) (ad 2)))))
 (bi (cr (ad 2))))))).h,?_⟩
 refine stI [some (V.ref AA.a),some (V.int (k:Int)),none] ?_;right;refine (mI hx sf ⟨AA,L,M,k,a,t,i,rfl,rfl,ha,aF,?_⟩);right;refine ah ⟨fun m σ' H'=>∃ j:Nat,σ'=[some (V.ref AA.a),some (V.int (k:Int)),some (V.int (j:Int))]/\H'=H/\kS M m j b,⟨m,k,rfl,rfl,hb⟩,?_⟩;rintro m σ' H' ⟨j,rfl,rfl,hj⟩;left;refine ⟨AA.a,_,_,.ref AA.un,rfl,hx,(sf _).trans rfl,AA.un,_,rfl,eh.k (k:=.inl (j:Int)) i.un,?_⟩;cases m with
 | zero =>
  obtain ⟨h0,rfl⟩:=hj;rw [h0];exact bc q
 | succ m =>
  obtain ⟨k',h0,h1⟩:=hj;rw [h0];refine bL ⟨fun σ' H''=>∃ j:Nat,σ'=[some (V.ref AA.a),some (V.int (k:Int)),some (V.int (j:Int))]/\H''=H'/\kS M m j b,fun σ' H' z=>⟨m,WF m,z⟩,?_⟩;left;refine ⟨AA.a,_,_,.ref AA.un,rfl,hx,(sf _).trans rfl,AA.un,.int (k':Int),rfl,?_,k',rfl,by trivial,h1⟩;have:=eh.k (k:=.inl (j:Int)) i.un;rw [h0] at this;exact this
def nT {a b:List Nat}:nV (a++b)=nV a++nV b:=Tm
def pY:T.dX.k P w base 5 (W7 T.aK T.aQ T.bb):=by
 refine T.dX.F.ok IZ (fun _ _ _ _ h=>bY h fun _ _ _=>rfl) fun ag A outer s H vs Q E hr h=>bY h fun x n h=>?_;obtain ⟨AA,L,M,k,b,r,a,t,i,rfl,rfl,ha,aF,⟨hb,⟨m,hu,hm⟩⟩,q⟩:=h;have hlen:=hu.len;refine ⟨_,((ap (dl 2 IZ.nd (li (al (db (Rr T) hr.m T.pG.m T.pG.F.kp T.pG.b .nil az (al (ad 0) (al (ad 1) am))) am)))
 (ap (Dv.sG _O (Dv.Ca (gn hr) (ii (bP (K:=K) rfl) (ad 2) (ww kY bv)) (bn T.aN T.yz (ad 0))) (bi (dL (sw No NE iI (ad 2) (al (Dv.xt (gn hr) (bn T.aN T.yz (ad 0)) (ii (bP (K:=K) rfl) (ad 2) (ww kY bv))) am)))))
 (bi (cr (ad 2)))))).h,?_⟩
 refine stI [some (V.ref AA.a),some (V.int (k:Int)),none] ?_;right;refine ⟨AA,L,M,k,b,a,t,i,rfl,rfl,ha,aF,hb,fits (by simp),fun l hl=>?_⟩;refine fX (o:=.lst [V.int (b:Int)]) hl fun H1 s1 b1=>?_;refine ah ⟨fun m σ' H'=>ai H H'/\∃ (pre:List Nat) (j:Nat) (r':List Nat),σ'=[some (V.ref AA.a),some (V.int (k:Int)),some (V.ref l)]/\H' l=some (.lst (nV pre++[V.int (j:Int)]))/\jt M m j r'/\pre++j::r'=b::r,⟨m,s1,[],b,r,rfl,b1,hu,rfl⟩,?_⟩;rintro m σ' H' ⟨s',pre,j,r',rfl,hl',hj,hp⟩;have i1:=i.same s';obtain ⟨fs,c,hx,bf,sf⟩:=i1.h;left;simp only [bH,hl',mS];refine ⟨AA.a,_,_,.ref AA.ov,rfl,hx,(sf _).trans rfl,AA.ov,_,rfl,eh.k (k:=.inl (j:Int)) i1.ov,?_⟩;cases m with
 | zero =>
  obtain ⟨h0,rfl⟩:=hj;rw [h0];refine bc (q l H' s' hl ?_);rw [hl',<- hp,nT];rfl
 | succ m =>
  obtain ⟨k',r2,h0,h1,rfl⟩:=hj;rw [h0];refine bL ⟨fun σ' H'=>ai H H'/\∃ (pre:List Nat) (j:Nat) (r':List Nat),σ'=[some (V.ref AA.a),some (V.int (k:Int)),some (V.ref l)]/\H' l=some (.lst (nV pre++[V.int (j:Int)]))/\jt M m j r'/\pre++j::r'=b::r,fun σ' H' z=>⟨m,WF m,z⟩,?_⟩;left;refine ⟨AA.a,_,_,.ref AA.ov,rfl,hx,(sf _).trans rfl,AA.ov,.int (k':Int),rfl,?_,?_⟩
  ·have:=eh.k (k:=.inl (j:Int)) i1.ov;rw [h0] at this;exact this
  have bw:(pre++[j]).length<=102:=by
   have:=UF List.length hp;simp at this ⊢;omega
  refine ⟨nv (by simp at bw ⊢; omega),s'.fR hl,pre++[j],k',r2,by trivial,?_,h1,?_⟩
  ·rw [aw,nT]; rfl
  ·rw [<- hp]; simp
def F2 {b:Nat} {r:List Nat}:∃ pre,b::r=pre++[dB b r]:=⟨(b::r).dropLast,by unfold dB; exact (List.dropLast_concat_getLast (by simp)).symm⟩
def wW:T.fU.k P w base 6 (YI T.aK T.aQ T.bb):=by
 refine T.fU.F.ok Xu (fun _ _ _ _ h=>bY h fun _ _ _=>rfl) fun ag A outer s H vs Q E hr h=>bY h fun x n h=>?_;obtain ⟨AA,L,M,k,b,r,a,t,i,rfl,rfl,ha,aF,hs,q⟩:=h;refine ⟨_,((bi (cr (ii (bP (K:=K) rfl) (db (pY T) hr.m T.dX.m T.dX.F.kp T.dX.b .nil az (al (ad 0) (al (ad 1) am))) (ww kY bv))))).h,?_⟩;refine stI [some (V.ref AA.a),some (V.int (k:Int))] ?_;left;refine ⟨AA,L,M,k,b,r,a,t,i,rfl,rfl,ha,aF,hs,fun l H' s' _ hl=>?_⟩;dsimp only;obtain ⟨pre,hp⟩:=F2 (b:=b) (r:=r);rw [hp,nT] at hl;simp only [bH,hl,Ix,WP,mS];exact q _ s'
def gb (r:Nat) (l:List Nat):Bool:=l.any (· == r)
def tZ {r:Nat}:∀ {l:List Nat},f7 (V.int (r:Int)) (nV l)=gb r l
 | []=>rfl
 | x::l=>by
  have ih:=tZ (r:=r) (l:=l);unfold f7 at ih ⊢;unfold gb at ih ⊢;simp only [nV,Ix,_n] at ih ⊢;rw [ih]
  congr 1
  unfold eY;by_cases e:x=r
  ·subst e; simp
  ·rw [On.mpr e]
   first | exact On.mpr (by omega) | (simp; omega)
def kx (M:Hs) (L:List Ta) (root:Nat):Nat->Nat->Bool->Prop
 | n,k,v=>∃ b r a t,L[k]?=some a/\M.ts[k]?=some t/\dv M k b r /\
  if k=dB b r then
   if gb root (b::r)=true then v=true
   else ∃ ab tb,L[b]?=some ab/\M.ts[b]?=some tb/\((tb.bW=[]/\v=false)\/∃ f z,tb.bW=[(f,z)]/\match n with | 0=>False | n+1=>kx M L root n f v)
  else v=false
def XT (CH CS CT:Addr):Sp:=sE fun x z n H Q _=>X6 fun A L M (k:Nat) (root:Nat) v=>A6 (aJ CH CS CT H A L M) (A.a=x) (n=(k:Int)) (aM (sD M.ro) (.inr z)=some (.int (root:Int))) (∃ m,kx M L root m k v) (∀ H',ai H H'->Q (.bl v) H')
def PM:T.pI.k P w base 6 (XT T.aK T.aQ T.bb):=by
 refine T.pI.F.ok nX (fun _ _ _ _ h=>jh h fun _ _ _ _=>rfl) fun ag A outer s H vs Q E hr h=>jh h fun x z n h=>?_;obtain ⟨AA,L,M,k,root,v,i,rfl,rfl,hz,⟨m,hm⟩,q⟩:=h;obtain ⟨fs,c,hx,bf,sf⟩:=i.h;refine bK (b:=aV Be) ((ap (dl 3 nX.nd (ge T.aN T.ko.h (zJ T) hr.m T.ko.b .nil az (ad 0) (al (ad 1) am)))
 (ap (dl 4 nX.nd (ad 2))
 (ap (dl 5 nX.nd (db (pY T) hr.m T.dX.m T.dX.F.kp T.dX.b .nil az (al (ad 0) (al (ad 4) am))))
 (ap (Dv.sG _O (im mj (ad 4) (ii (bP (K:=K) rfl) (ad 5) (ww kY bv))) (ap (em (im (zr (K:=K) rfl) (ad 3) (ad 5)) (bi (cr ss)) gl)
 (ap (dl 6 nX.nd (ge T.aN T.kG.h (De T) hr.m T.kG.b .nil az (ad 0) (al (ii (bP (K:=K) rfl) (ad 5) bv) am)))
 (ap (em (im tE (ad 6) ul) (bi (cr ss)) gl)
 (ap (dl 4 nX.nd (ii (bP (K:=K) rfl) (ad 6) bv))
 (bi (dl 5 nX.nd (db (pY T) hr.m T.dX.m T.dX.F.kp T.dX.b .nil az (al (ad 0) (al (ad 4) am))))))))))
 (bi (cr ss))))))) ?_
 refine stI [some (V.ref AA.a),some (V.str z),some (V.int (k:Int)),none,none,none,none] ?_;right;refine (mI hx sf ⟨AA,L,M,root,i,rfl,hz,?_⟩);right;right;obtain ⟨b,r,a,t,ha,ht,aU,dO⟩:=(by unfold kx at hm; exact hm:∃ b r a t,L[k]?=some a/\M.ts[k]?=some t/\dv M k b r/\_);refine ⟨AA,L,M,k,b,r,a,t,i,rfl,rfl,ha,ht,aU,fun l H1 s1 hl0 hl=>?_⟩;refine ah ⟨fun m σ' H'=>ai H H'/\∃ (j:Nat) (l:Addr) (b:Nat) (r:List Nat) (pv:Option V),σ'=[some (V.ref AA.a),some (V.str z),some (V.int (k:Int)),some (V.int (root:Int)),some (V.int (j:Int)),some (V.ref l),pv]/\H' l=some (.lst (nV (b::r)))/\dv M j b r /\
  (if j=dB b r then
   if gb root (b::r)=true then v=true
   else ∃ ab tb,L[b]?=some ab/\M.ts[b]?=some tb/\((tb.bW=[]/\v=false)\/∃ f z,tb.bW=[(f,z)]/\match m with | 0=>False | n+1=>kx M L root n f v)
  else v=false),⟨m,s1,k,l,b,r,none,rfl,hl,aU,dO⟩,?_⟩
 clear dO ha ht aU hl hl0 s1 hm;rintro m σ' H' ⟨s',j,l,b,r,pv,rfl,hl,aU,dO⟩;have i':=i.same s';obtain ⟨pre,hp⟩:=F2 (b:=b) (r:=r);have cy:=hl;rw [hp,nT] at cy;left;simp only [bH,cy,Ix,WP,mS];by_cases hj:j=dB b r
 ·rw [IN hj] at dO;rw [Go (by rw [hj])];refine bL ⟨_,fun _ _ h=>h,?_⟩;right;simp only [bH,hl];refine ⟨rfl,by simp [cI],?_⟩;rw [tZ];cases hmem:gb root (b::r) with
  | true =>
   rw [IN hmem] at dO;subst dO;exact bL (q _ s')
  | false =>
   rw [Id (by rw [hmem]; nofun)] at dO;obtain ⟨ab,tb,ff,lK,bw⟩:=dO;refine bc ?_;refine ah ?_;obtain ⟨fs,c,hx,bf,sf⟩:=i'.h;left;simp only [bH,hl,nV,Ix,gz];refine (mI hx sf ⟨AA,L,M,b,ab,tb,i',rfl,rfl,ff,lK,?_⟩);rcases bw with ⟨bw,rfl⟩ | ⟨f,zz,bw,hn⟩
   ·refine .inl ⟨bw,?_⟩;right;exact ⟨by trivial,bL (q _ s')⟩
   ·refine .inr ⟨f,zz,bw,fun p hp=>?_⟩;right;refine ⟨by trivial,?_⟩;rw [Ch (by nofun)];refine bc ?_;right;simp only [bH,hp,gz];cases m with
    | zero=>exact hn.elim
    | succ m =>
     obtain ⟨b2,r2,a2,t2,ED,jL,qG,Fj⟩:=(by unfold kx at hn; exact hn:∃ b r a t,L[f]?=some a/\M.ts[f]?=some t/\dv M f b r/\_);refine ⟨AA,L,M,f,b2,r2,a2,t2,i',rfl,rfl,ED,jL,qG,fun l2 H2 s2 hl0 cy=>?_⟩;exact ⟨m,WF m,s'.trans s2,f,l2,b2,r2,some (V.ref p),rfl,cy,qG,Fj⟩
 ·rw [Id hj] at dO;rw [Ch (by omega)];subst dO;refine bc ?_;left;exact q _ s'
abbrev abm (M:Hs):List Str:=e9 (M.tr.map (·.1))
section
variable {CH CS CT:Addr} {H H':Hp} {A:Ad} {L:List Ta} {M:Hs}
end
def BA (C:Addr) (f1 f2:Str):Sp:=Ah fun x v1 v2 H Q _=>X1 fun dx=>A2 (H x=some (.ins C dx [])) (Q .au (upd H x (.ins C dx (ay f2 v2 (ay f1 v1 [])))))
def Vt:T.rN.k P w mg base 1 (BA T.dE "number" "way"):=by
 refine T.rN.F.ok VU (fun _ _ _ _ h=>mM h fun _ _ _ _=>rfl) fun ag A outer s H vs Q E hr h=>mM h fun x v1 v2 h=>?_;obtain ⟨dx,hx,q⟩:=h;refine ⟨_,((ap (f8 T.lb T.v9 (ad 0) (ad 1))
 (bi (f8 T.lb T.G6 (ad 0) (ad 2))))).h,?_⟩
 refine stI [some (V.ref x),some v1,some v2] ?_;right;refine ⟨x,dx,_,rfl,hx,by decide,?_⟩;refine ⟨x,dx,_,rfl,aw,by walk_at "f",?_⟩;rw [md];exact q
def Ra:T.tu.k P w mg base 1 (BA T.lT "folder" "name"):=by
 refine T.tu.F.ok Ro (fun _ _ _ _ h=>mM h fun _ _ _ _=>rfl) fun ag A outer s H vs Q E hr h=>mM h fun x v1 v2 h=>?_;obtain ⟨dx,hx,q⟩:=h;refine ⟨_,((ap (f8 T.nY T.xc (ad 0) (ad 1))
 (bi (f8 T.nY T.B9 (ad 0) (ad 2))))).h,?_⟩
 refine stI [some (V.ref x),some v1,some v2] ?_;right;refine ⟨x,dx,_,rfl,hx,by decide,?_⟩;refine ⟨x,dx,_,rfl,aw,by walk_at "f",?_⟩;rw [md];exact q
def VH:T.tO.k P w mg base 1 (BA T.ee "step" "reason"):=by
 refine T.tO.F.ok R7 (fun _ _ _ _ h=>mM h fun _ _ _ _=>rfl) fun ag A outer s H vs Q E hr h=>mM h fun x v1 v2 h=>?_;obtain ⟨dx,hx,q⟩:=h;refine ⟨_,((ap (f8 T.kR T.Ig (ad 0) (ad 1))
 (bi (f8 T.kR T.Iq (ad 0) (ad 2))))).h,?_⟩
 refine stI [some (V.ref x),some v1,some v2] ?_;right;refine ⟨x,dx,_,rfl,hx,by decide,?_⟩;refine ⟨x,dx,_,rfl,aw,by walk_at "f",?_⟩;rw [md];exact q
def uB (h:Addr) (z:Str) (last:Bool) (root here:Int) (place:V) (step:Int) (av lf rd:Addr) (lr lu:Int) (told:V):List (Str×V):=[("house",.ref h),("asker",.str z),("last",.bl last),("root",.int root),("here",.int here),("place",place),("step",.int step),("asked",.ref av),("left",.ref lf),("reading",.ref rd),("leads_read",.int lr),("looked_up",.int lu),("told",told)]
structure Ws where
 here:Nat
 place:Option (Nat×Str)
 step:Nat
 asked:List Nat
 left:List (Sum Nat Str)
 bB:List Nat
 read:Nat
 look:Nat
def du:Sum Nat Str->V
 | .inl n=>.int (n:Int)
 | .inr z=>.str z
def jy (H0 H:Hp):Option (Nat×Str)->V->Prop
 | none,v=>v=.au
 | some (k,nm),v=>∃ p,v=.ref p/\H0 p=none/\H p=some (.tup [.int (k:Int),.str nm])
structure Cn where
 CH:Addr
 CS:Addr
 CT:Addr
 CW:Addr
 CF:Addr
 CG:Addr
 CR:Addr
 CN:Addr
 CD:Addr
 CE:Addr
abbrev Tx.cn (T:Tx K mg):Cn:=⟨T.aK,T.aQ,T.bb,T.bg,T.ee,T.dE,T.fH,T.eT,T.eU,T.lT⟩
structure Wd where
 L:List Ta
 M:Hs
 z:Str
 last:Bool
 root:Nat
structure Wc extends Wd where
 H0:Hp
 A:Ad
 x:Addr
 dx:Addr
 av:Addr
 rd:Addr
structure aW (N:Cn) (c:Wc) (S:Ws) (H:Hp) (lf:Addr) (told:V):Prop where
 i:aJ N.CH N.CS N.CT c.H0 c.A c.L c.M
 s:ai c.H0 H
 x0:c.H0 c.x=none
 a0:c.H0 c.av=none
 l0:c.H0 lf=none
 r0:c.H0 c.rd=none
 o:∃ fs pv,H c.x=some (.ins N.CW c.dx fs)/\fs.length<=40/\jy c.H0 H S.place pv/\c7 fs (uB c.A.a c.z c.last c.root S.here pv S.step c.av lf c.rd S.read S.look told)
 oa:H c.av=some (.lst (nV S.asked))
 ol:H lf=some (.lst (S.left.map du))
 od:H c.rd=some (.lst (nV S.bB))
 n1:c.av≠lf
 n2:c.av≠c.rd
 n3:lf≠c.rd
 hz:aM (sD c.M.ro) (.inr c.z)=some (.int (c.root:Int))
section
variable {N:Cn} {c:Wc} {S:Ws} {H0 H H':Hp} {lf:Addr} {told:V}
def jy.same {p:Option (Nat×Str)} {v:V} (h:jy H0 H p v) (s:ai H H'):jy H0 H' p v:=by
 match p,h with
 | none,h=>exact h
 | some (k,nm),⟨q,e,e0,e1⟩=>exact ⟨q,e,e0,s _ _ e1⟩
def aW.same (v:aW N c S H lf told) (s:ai H H'):aW N c S H' lf told :=
 ⟨v.i,v.s.trans s,v.x0,v.a0,v.l0,v.r0,let ⟨fs,pv,e,l,p,f⟩:=v.o; ⟨fs,pv,s _ _ e,l,p.same s,f⟩,s _ _ v.oa,s _ _ v.ol,s _ _ v.od,v.n1,v.n2,v.n3,v.hz⟩
def aW.m (v:aW N c S H lf told):aJ N.CH N.CS N.CT H c.A c.L c.M:=v.i.same v.s
def aW.xa (v:aW N c S H lf told):c.x≠c.av/\c.x≠lf/\c.x≠c.rd:=by
 obtain ⟨fs,pv,e,_⟩:=v.o;exact ⟨bQ e v.oa (by nofun),bQ e v.ol (by nofun),bQ e v.od (by nofun)⟩
def jy.put {p:Option (Nat×Str)} {v:V} {fs:List (Str×V)} {x dx CW:Addr} (h:jy H0 H p v) (hx:∃ gs,H x=some (.ins CW dx gs)):jy H0 (upd H x (.ins CW dx fs)) p v:=by
 match p,h with
 | none,h=>exact h
 | some (k,nm),⟨q,e,e0,e1⟩ =>
  obtain ⟨gs,hx⟩:=hx;exact ⟨q,e,e0,by rw [aj (Fa (bQ hx e1 (by nofun)))]; exact e1⟩
def aW.put (f:Str) (u:V) (S':Ws) (told':V) (v:aW N c S H lf told) (w:V) (hw:∀ pv,List.lookup f (uB c.A.a c.z c.last c.root S.here pv S.step c.av lf c.rd S.read S.look told)=some w:=by exact fun _=>rfl)
  (hp:S'.place=S.place:=by rfl) (ha:S'.asked=S.asked:=by rfl) (hl:S'.left=S.left:=by rfl) (hr:S'.bB=S.bB:=by rfl)
  (e:∀ pv g,List.lookup g (ay f u (uB c.A.a c.z c.last c.root S.here pv S.step c.av lf c.rd S.read S.look told))=List.lookup g (uB c.A.a c.z c.last c.root S'.here pv S'.step c.av lf c.rd S'.read S'.look told'):=by exact fun _ _=>rfl) :
  ∃ fs,H c.x=some (.ins N.CW c.dx fs)/\fs.length < 1000/\List.lookup f fs=some w/\aW N c S' (upd H c.x (.ins N.CW c.dx (ay f u fs))) lf told':=by
 obtain ⟨fs,pv,e1,l,p,sf⟩:=v.o;have hf:List.lookup f fs=some w:=(sf f).trans (hw pv);exact ⟨fs,e1,by omega,hf,⟨v.i,v.s.fR v.x0,v.x0,v.a0,v.l0,v.r0,⟨_,pv,aw,by rw [jw hf]; exact l,by rw [hp]; exact p.put ⟨fs,e1⟩,fun g=>((sf.put f u) g).trans (e pv g)⟩,by rw [aj (Fa v.xa.1),ha]; exact v.oa,by rw [aj (Fa v.xa.2.1),hl]; exact v.ol,by rw [aj (Fa v.xa.2.2),hr]; exact v.od,v.n1,v.n2,v.n3,v.hz⟩⟩
def jy.off {p:Option (Nat×Str)} {v:V} {y:Addr} {o o':HO} (h:jy H0 H p v) (hy:H y=some o) (ht:∀ xs,o≠.tup xs):jy H0 (upd H y o') p v:=by
 match p,h with
 | none,h=>exact h
 | some (k,nm),⟨q,e,e0,e1⟩ =>
  refine ⟨q,e,e0,?_⟩;rw [aj (fun z=>?_)]
  ·exact e1
  ·rw [z,hy] at e1;exact ht _ (PP e1)
def aW.off {y:Addr} {o o':HO} (v:aW N c S H lf told) (y0:c.H0 y=none) (hy:H y=some o) (nx:c.x≠y) (na:c.av≠y) (nl:lf≠y) (nr:c.rd≠y) (ht:∀ xs,o≠.tup xs):aW N c S (upd H y o') lf told:=by
 obtain ⟨gs,pv,e,l,p,f⟩:=v.o;exact ⟨v.i,v.s.fR y0,v.x0,v.a0,v.l0,v.r0,⟨gs,pv,by rw [aj nx]; exact e,l,p.off hy ht,f⟩,by rw [aj na]; exact v.oa,by rw [aj nl]; exact v.ol,by rw [aj nr]; exact v.od,v.n1,v.n2,v.n3,v.hz⟩
def aW.Z0 (v:aW N c S H lf told) (ks:List Nat):aW N c { S with asked:=ks } (upd H c.av (.lst (nV ks))) lf told:=by
 obtain ⟨gs,pv,e,l,p,f⟩:=v.o;exact ⟨v.i,v.s.fR v.a0,v.x0,v.a0,v.l0,v.r0,⟨gs,pv,by rw [aj v.xa.1]; exact e,l,p.off v.oa (by nofun),f⟩,aw,by rw [aj (Fa v.n1)]; exact v.ol,by rw [aj (Fa v.n2)]; exact v.od,v.n1,v.n2,v.n3,v.hz⟩
def aW.sj (v:aW N c S H lf told) (ts:List (Sum Nat Str)):aW N c { S with left:=ts } (upd H lf (.lst (ts.map du))) lf told:=by
 obtain ⟨gs,pv,e,l,p,f⟩:=v.o;exact ⟨v.i,v.s.fR v.l0,v.x0,v.a0,v.l0,v.r0,⟨gs,pv,by rw [aj v.xa.2.1]; exact e,l,p.off v.ol (by nofun),f⟩,by rw [aj v.n1]; exact v.oa,aw,by rw [aj (Fa v.n3)]; exact v.od,v.n1,v.n2,v.n3,v.hz⟩
def aW.GD (v:aW N c S H lf told) (ks:List Nat):aW N c { S with bB:=ks } (upd H c.rd (.lst (nV ks))) lf told:=by
 obtain ⟨gs,pv,e,l,p,f⟩:=v.o;exact ⟨v.i,v.s.fR v.r0,v.x0,v.a0,v.l0,v.r0,⟨gs,pv,by rw [aj v.xa.2.2]; exact e,l,p.off v.od (by nofun),f⟩,by rw [aj v.n2]; exact v.oa,by rw [aj v.n3]; exact v.ol,aw,v.n1,v.n2,v.n3,v.hz⟩
def aW.PK (v:aW N c S H lf told) (k:Nat):aW N c { S with asked:=S.asked++[k] } (upd H c.av (.lst (nV S.asked++[.int (k:Int)]))) lf told:=by
 have:=v.Z0 (S.asked++[k]); rw [nT] at this; exact this
def aW.TV (v:aW N c S H lf told) (k:Nat):aW N c { S with bB:=S.bB++[k] } (upd H c.rd (.lst (nV S.bB++[.int (k:Int)]))) lf told:=by
 have:=v.GD (S.bB++[k]); rw [nT] at this; exact this
def aW.aay (v:aW N c S H lf told) (k:Nat):aW N c { S with left:=S.left++[.inl k] } (upd H lf (.lst (S.left.map du++[.int (k:Int)]))) lf told:=by
 have:=v.sj (S.left++[.inl k]); rw [Tm] at this; exact this
def aW.Ue (v:aW N c S H lf told) (ts:List (Sum Nat Str)):aW N c { S with left:=S.left++ts } (upd H lf (.lst (S.left.map du++ts.map du))) lf told:=by
 have:=v.sj (S.left++ts); rw [Tm] at this; exact this
def aW.fresh {y:Addr} (v:aW N c S H lf told) (hy:H y=none):c.H0 y=none:=by
 cases e:c.H0 y with
 | none=>rfl
 | some o=>rw [v.s y o e] at hy; cases hy
def aW.X0 {l:Addr} {ts:List (Sum Nat Str)} (v:aW N c S H lf told) (l0:c.H0 l=none) (hl:H l=some (.lst (ts.map du))) (n1:c.av≠l) (n3:l≠c.rd):∃ fs,H c.x=some (.ins N.CW c.dx fs)/\fs.length < 1000/\aW N c { S with left:=ts } (upd H c.x (.ins N.CW c.dx (ay "left" (.ref l) fs))) l told:=by
 obtain ⟨fs,pv,e,le,p,f⟩:=v.o;have nx:c.x≠l:=bQ e hl (by nofun);exact ⟨fs,e,by omega,⟨v.i,v.s.fR v.x0,v.x0,v.a0,l0,v.r0,⟨_,pv,aw,by rw [jw (u:=.ref lf) ((f _).trans rfl)]; exact le,p.put ⟨fs,e⟩,fun g=>((f.put "left" (.ref l)) g).trans rfl⟩,by rw [aj (Fa v.xa.1)]; exact v.oa,by rw [aj (Fa nx)]; exact hl,by rw [aj (Fa v.xa.2.2)]; exact v.od,n1,v.n2,n3,v.hz⟩⟩
def aW.fld (v:aW N c S H lf told):∃ fs pv,H c.x=some (.ins N.CW c.dx fs)/\fs.length < 1000/\c7 fs (uB c.A.a c.z c.last c.root S.here pv S.step c.av lf c.rd S.read S.look told):=by
 obtain ⟨fs,pv,e,l,p,f⟩:=v.o;exact ⟨fs,pv,e,by omega,f⟩
def aW.placed {p:Addr} {k:Nat} {nm:Str} (v:aW N c S H lf told) (p0:c.H0 p=none) (hp:H p=some (.tup [.int (k:Int),.str nm])):∃ fs,H c.x=some (.ins N.CW c.dx fs)/\fs.length < 1000/\aW N c { S with place:=some (k,nm) } (upd H c.x (.ins N.CW c.dx (ay "place" (.ref p) fs))) lf told:=by
 obtain ⟨fs,pv,e,l,_,f⟩:=v.o;exact ⟨fs,e,by omega,⟨v.i,v.s.fR v.x0,v.x0,v.a0,v.l0,v.r0,⟨_,.ref p,aw,by rw [jw (u:=pv) ((f _).trans rfl)]; exact l,⟨p,rfl,p0,by rw [aj (Fa (bQ e hp (by nofun)))]; exact hp⟩,fun g=>((f.put "place" (.ref p)) g).trans rfl⟩,by rw [aj (Fa v.xa.1)]; exact v.oa,by rw [aj (Fa v.xa.2.1)]; exact v.ol,by rw [aj (Fa v.xa.2.2)]; exact v.od,v.n1,v.n2,v.n3,v.hz⟩⟩
end
def WV (N:Cn):Sp:=LP fun x h z last H Q _=>X6 fun A L M dx H0 (root:Nat)=>A7 (aJ N.CH N.CS N.CT H0 A L M) (A.a=h) (H x=some (.ins N.CW dx [])) (ai H0 H) (H0 x=none) (aM (sD M.ro) (.inr z)=some (.int (root:Int))) (∀ av lf rd H',aW N ⟨⟨L,M,z,last,root⟩,H0,A,x,dx,av,rd⟩ ⟨root,none,0,[],[],[],0,0⟩ H' lf .au->Q .au H')
def T8:T.ur.k P w mg base 3 (WV T.cn):=by
 refine T.ur.F.ok T4 (fun _ _ _ _ h=>Mi h fun _ _ _ _ _=>rfl) fun ag A outer s H vs Q E hr h=>Mi h fun x hh z last h=>?_;obtain ⟨AA,L,M,dx,H0,root,i,rfl,hx,s0,x0,hz,q⟩:=h;refine bK (b:=aV Dy) ((ap (f8 T.aG T.fz (ad 0) (ad 1))
 (ap (f8 T.aG T.uk (ad 0) (ad 2))
 (ap (f8 T.aG T.KI (ad 0) (ad 3))
 (ap (f8 T.aG T.rV (ad 0) (ge T.aN T.ko.h (zJ T) hr.m T.ko.b .nil az (ad 1) (al (ad 2) am)))
 (ap (f8 T.aG T.fo (ad 0) (bn T.aG T.rV (ad 0)))
 (ap (f8 T.aG T.vH (ad 0) ul)
 (ap (f8 T.aG T.AJ (ad 0) bv)
 (ap (f8 T.aG T.yH (ad 0) (li am))
 (ap (f8 T.aG T.nF (ad 0) (li am))
 (ap (f8 T.aG T.o7 (ad 0) (li am))
 (ap (f8 T.aG T.Cu (ad 0) bv)
 (ap (f8 T.aG T.Ha (ad 0) bv)
 (bi (f8 T.aG T.mH (ad 0) ul))))))))))))))) ?_
 refine stI [some (V.ref x),some (V.ref AA.a),some (V.str z),some (V.bl last)] ?_;right;refine ⟨x,dx,_,rfl,hx,by decide,ah ?_⟩;left;refine ⟨x,dx,_,rfl,aw,by walk_at "f",ah ?_⟩;left;refine ⟨x,dx,_,rfl,aw,by walk_at "f",ah ?_⟩;simp only [md];left;have s1:=s0.fR (o:=.ins T.bg dx (ay "last" (.bl last) (ay "asker" (.str z) (ay "house" (.ref AA.a) [])))) x0;have b1:upd H x (.ins T.bg dx (ay "last" (.bl last) (ay "asker" (.str z) (ay "house" (.ref AA.a) [])))) x=some (.ins T.bg dx (ay "last" (.bl last) (ay "asker" (.str z) (ay "house" (.ref AA.a) [])))):=aw;generalize upd H x (.ins T.bg dx (ay "last" (.bl last) (ay "asker" (.str z) (ay "house" (.ref AA.a) []))))=H1 at s1 b1 ⊢;have i1:=i.same s1;obtain ⟨fs,c,bx,bf,sf⟩:=i1.h;refine (mI bx sf ⟨AA,L,M,root,i1,rfl,hz,?_⟩);refine ⟨x,dx,_,rfl,b1,by walk_at "f",ah ?_⟩;left;refine ⟨x,dx,_,_,rfl,aw,rfl,x,dx,_,rfl,aw,by walk_at "f",ah ?_⟩;left;refine ⟨x,dx,_,rfl,aw,by walk_at "f",ah ?_⟩;left;refine ⟨x,dx,_,rfl,aw,by walk_at "f",ah ?_⟩;simp only [md];left;have NM:c7 (ay "step" (.int 0) (ay "place" .au (ay "here" (.int (root:Int)) (ay "root" (.int (root:Int)) (ay "last" (.bl last) (ay "asker" (.str z) (ay "house" (.ref AA.a) []))))))) [("house",.ref AA.a),("asker",.str z),("last",.bl last),("root",.int (root:Int)),("here",.int (root:Int)),("place",.au),("step",.int 0)]:=fun f=>rfl;have MW:(ay "step" (.int 0) (ay "place" .au (ay "here" (.int (root:Int)) (ay "root" (.int (root:Int)) (ay "last" (.bl last) (ay "asker" (.str z) (ay "house" (.ref AA.a) []))))))).length<=10:=by (repeat (refine bS ?_)); exact GT _
 generalize (ay "step" (.int 0) (ay "place" .au (ay "here" (.int (root:Int)) (ay "root" (.int (root:Int)) (ay "last" (.bl last) (ay "asker" (.str z) (ay "house" (.ref AA.a) [])))))))=F7 at NM MW ⊢;have s2:=s1.fR (o:=.ins T.bg dx F7) x0;have b2:upd H1 x (.ins T.bg dx F7) x=some (.ins T.bg dx F7):=aw;generalize upd H1 x (.ins T.bg dx F7)=H2 at s2 b2 ⊢;have bJ:∀ {J:Hp} {d:Addr},ai H0 J->J d=none->H0 d=none:=fun {J d} k hn=>by
  cases e:H0 d with
  | none=>rfl
  | some o=>rw [k d o e] at hn; cases hn
 refine ⟨fits (by simp),fun av jI=>?_⟩;refine ⟨x,dx,_,rfl,by rw [aj (aH b2 jI)]; exact b2,by omega,ah ?_⟩;obtain ⟨b3,o3,old3,n3⟩:=DC (o:=.lst []) (O:=.ins T.bg dx (ay "asked" (.ref av) F7)) jI b2;have s3:=(s2.trans (ai.upd (o:=.lst []) jI)).fR (o:=.ins T.bg dx (ay "asked" (.ref av) F7)) x0;have av0:=bJ s2 jI;generalize upd (upd H2 av (.lst [])) x (.ins T.bg dx (ay "asked" (.ref av) F7))=H3 at b3 o3 old3 s3 ⊢;left;refine ⟨fits (by simp),fun lf hlf=>?_⟩;have l1:(ay "asked" (.ref av) F7).length<=11:=bS MW;refine ⟨x,dx,_,rfl,by rw [aj (aH b3 hlf)]; exact b3,by omega,ah ?_⟩;obtain ⟨b4,o4,NA,n4⟩:=DC (o:=.lst []) (O:=.ins T.bg dx (ay "left" (.ref lf) (ay "asked" (.ref av) F7))) hlf b3;have s4:=(s3.trans (ai.upd (o:=.lst []) hlf)).fR (o:=.ins T.bg dx (ay "left" (.ref lf) (ay "asked" (.ref av) F7))) x0;have lf0:=bJ s3 hlf;have FO:av≠lf:=aH o3 hlf;have D5:=NA av _ n3 o3;generalize upd (upd H3 lf (.lst [])) x (.ins T.bg dx (ay "left" (.ref lf) (ay "asked" (.ref av) F7)))=H4 at b4 o4 NA s4 D5 ⊢;left;refine ⟨fits (by simp),fun rd gD=>?_⟩;have l2:(ay "left" (.ref lf) (ay "asked" (.ref av) F7)).length<=12:=bS l1;refine ⟨x,dx,_,rfl,by rw [aj (aH b4 gD)]; exact b4,by omega,ah ?_⟩;obtain ⟨b5,o5,EY,n5⟩:=DC (o:=.lst []) (O:=.ins T.bg dx (ay "reading" (.ref rd) (ay "left" (.ref lf) (ay "asked" (.ref av) F7)))) gD b4;have s5:=(s4.trans (ai.upd (o:=.lst []) gD)).fR (o:=.ins T.bg dx (ay "reading" (.ref rd) (ay "left" (.ref lf) (ay "asked" (.ref av) F7)))) x0;have MR:=EY av _ n3 D5;have Oz:=EY lf _ n4 o4;have rd0:=bJ s4 gD;have nar:av≠rd:=aH D5 gD;have FC:lf≠rd:=aH o4 gD;generalize upd (upd H4 rd (.lst [])) x (.ins T.bg dx (ay "reading" (.ref rd) (ay "left" (.ref lf) (ay "asked" (.ref av) F7))))=H5 at b5 o5 EY s5 MR Oz ⊢;have l3:(ay "reading" (.ref rd) (ay "left" (.ref lf) (ay "asked" (.ref av) F7))).length<=13:=bS l2;left;refine ⟨x,dx,_,rfl,b5,by omega,ah ?_⟩;have l4:(ay "leads_read" (.int 0) (ay "reading" (.ref rd) (ay "left" (.ref lf) (ay "asked" (.ref av) F7)))).length<=14:=bS l3;left;refine ⟨x,dx,_,rfl,aw,by omega,?_⟩;have l5:(ay "looked_up" (.int 0) (ay "leads_read" (.int 0) (ay "reading" (.ref rd) (ay "left" (.ref lf) (ay "asked" (.ref av) F7))))).length<=15:=bS l4;refine ⟨x,dx,_,rfl,aw,by omega,?_⟩;simp only [md];refine q av lf rd _ ⟨i,s5.fR x0,x0,av0,lf0,rd0,⟨_,.au,aw,Gc (bS l5) (by decide),rfl,fun f=>?_⟩,by rw [aj n3]; exact MR,by rw [aj n4]; exact Oz,by rw [aj n5]; exact o5,FO,nar,FC,hz⟩;exact ((((((NM.put "asked" (.ref av)).put "left" (.ref lf)).put "reading" (.ref rd)).put "leads_read" (.int 0)).put "looked_up" (.int 0)).put "told" .au f).trans rfl
abbrev vk (k:Nat) (r:Str):List (Str×V):=ay "reason" (.str r) (ay "step" (.int (k:Int)) [])
inductive Tl
 | fail (y:Str)
 | ring (ns:List Nat)
def sS (N:Cn) (H0 H:Hp) (step:Nat) (fd:Addr):Tl->Prop
 | .fail y=>H0 fd=none/\∃ aP,H fd=some (.ins N.CF aP (vk step y))
 | .ring ns=>H0 fd=none/\∃ aP rl,H fd=some (.ins N.CR aP (ay "leads" (.ref rl) []))/\H rl=some (.lst (nV ns))/\H0 rl=none
structure rW (N:Cn) (c:Wc) (S:Ws) (lf:Addr) (o:Option Tl) (R:Hp->Prop):Prop where
 n:o=none->∀ H',aW N c S H' lf .au->R H'
 y:∀ t,o=some t->∀ fd H',aW N c S H' lf (.ref fd)->sS N c.H0 H' S.step fd t->R H'
def Zm (N:Cn):Sp:=ju fun x r H Q _=>X3 fun c S lf=>A3 (c.x=x) (aW N c S H lf .au) (rW N c S lf (some (.fail r)) (Q .au))
def aW.tells {N:Cn} {c:Wc} {S:Ws} {H H4:Hp} {lf fd aP C:Addr} {F:List (Str×V)} {t:Tl} (v:aW N c S H lf .au) (aS:H fd=none) (s4:ai H H4) (b4:H4 fd=some (.ins C aP [])) :
  ∃ fs,upd H4 fd (.ins C aP F) c.x=some (.ins N.CW c.dx fs)/\fs.length < 1000/\aW N c S (upd (upd H4 fd (.ins C aP F)) c.x (.ins N.CW c.dx (ay "told" (.ref fd) fs))) lf (.ref fd)/\c.H0 fd=none/\c.x≠fd:=by
 obtain ⟨fs,pv,hx,bf,sf⟩:=v.fld;have f0:=v.fresh aS;have nx:c.x≠fd:=aH hx aS;have v5:=(v.same s4).off (o':=.ins C aP F) f0 b4 nx (aH v.oa aS) (aH v.ol aS) (aH v.od aS) (by nofun);obtain ⟨xV,oU,hJ,_,v6⟩:=v5.put "told" (.ref fd) S (.ref fd) .au;exact ⟨xV,oU,hJ,v6,f0,nx⟩
def tm:T.gM.k P w mg base 3 (Zm T.cn):=by
 refine T.gM.F.ok Wm (fun _ _ _ _ h=>eQ h fun _ _ _=>rfl) fun ag A outer s H vs Q E hr h=>eQ h fun x r h=>?_;obtain ⟨c,S,lf,rfl,v,q⟩:=h;refine bK (b:=aV Bf) ((bi (f8 T.aG T.mH (ad 0) (xL T.UQ (VH T) hr.m T.BR T.tO.b .nil az (al (bn T.aG T.AJ (ad 0)) (al (ad 1) am)))))) ?_;refine stI [some (V.ref c.x),some (V.str r)] ?_;obtain ⟨fs,pv,hx,bf,sf⟩:=v.fld;left;refine (fI hx sf rfl (fun fd aP aS hdfd nfd=>?_));have s4:=(ai.upd (o:=.own fd) hdfd).trans (ai.upd (p:=fd) (o:=.ins T.ee aP []) (by rw [aj (Fa nfd)]; exact aS));have b4:upd (upd H aP (.own fd)) fd (.ins T.ee aP []) fd=some (.ins T.ee aP []):=aw;generalize upd (upd H aP (.own fd)) fd (.ins T.ee aP [])=H4 at s4 b4 ⊢;refine ⟨aP,b4,rfl,?_⟩;obtain ⟨xV,oU,hJ,v6,f0,nx⟩:=v.tells (t:=.fail r) (F:=vk S.step r) aS s4 b4;exact ⟨c.x,_,_,rfl,oU,hJ,q.y _ rfl fd _ v6 ⟨f0,aP,by rw [aj (Fa nx)]; exact aw⟩⟩
def iK:List Nat->Nat
 | []=>0
 | [a]=>a
 | a::b::r=>min a (iK (b::r))
def DA:∀ {ns:List Nat},ns≠[]->iK ns∈ns
 | [],h=>absurd rfl h
 | [a],_=>by simp [iK]
 | a::b::r,_=>by
  have:=DA (ns:=b::r) (by simp);unfold iK;rcases Nat.le_total a (iK (b::r)) with h | h
  ·rw [Nat.min_eq_left h]; simp
  ·rw [Nat.min_eq_right h]; exact LT _ this
def My:∀ {ns:List Nat} {k:Nat},k∈ns->iK ns<=k
 | [a],k,h=>by rw [KM.mp h]; exact Ev _
 | a::b::r,k,h=>by
  unfold iK;rcases AT.mp h with rfl | h
  ·exact Nat.min_le_left _ _
  ·exact Gc (Nat.min_le_right _ _) (My h)
def mh (ns:List Nat):List Nat:=ns.drop (ns.idxOf (iK ns))++ns.take (ns.idxOf (iK ns))
def G7 (ns:List Nat):nV ns=(ns.map (fun k:Nat=>(k:Int))).map V.int:=by
 unfold nV; rw [_m]; rfl
def AK (k:Nat):∀ ns:List Nat,(ns.map (fun k:Nat=>(k:Int))).idxOf (k:Int)=ns.idxOf k
 | []=>rfl
 | a::r=>by
  have h:((a:Int) == (k:Int))=(a == k):=by
   rw [_t,_o,_o]; omega
  rw [Ix,List.idxOf_cons,List.idxOf_cons,AK k r,h]
def mem_cast {k:Nat} {ns:List Nat} (h:k∈ns):(k:Int)∈ns.map (fun k:Nat=>(k:Int)):=LE.mpr ⟨k,h,rfl⟩
def Q1:Sp:=ij fun l H Q _=>X1 fun (ns:List Nat)=>A4 (H l=some (.lst (nV ns))) (ns≠[]) (ns.length<=500) (∀ l' H',ai H H'->H l'=none->H' l'=some (.lst (nV (mh ns)))->Q (.ref l') H')
def Ri:T.qu.k P w base 1 Q1:=by
 refine T.qu.F.ok Ge (fun _ _ _ _ h=>da h fun _ _=>rfl) fun ag A outer s H vs Q E hr h=>da h fun l h=>?_;obtain ⟨ns,hl,cQ,hlen,q⟩:=h;refine bK (b:=aV AH) ((ap (dl 1 Ge.nd (sw Ja3 PySem.F.type_list_index (LI (K:=K) rfl) (ad 0) (al (kt (Uk (K:=K) rfl rfl) T.Hq Up (al (ad 0) am)) am)))
 (bi (cr (io fT (zn (nR (K:=K) rfl) (ad 0) (wE (ad 1)) Dv.tJ) (zn (nR (K:=K) rfl) (ad 0) Dv.tJ (wE (ad 1)))))))) ?_
 refine stI [some (V.ref l),none] ?_;right;simp only [hl];have hS:aD K H l ((ns.map (fun k:Nat=>(k:Int))).map V.int):=aD.of (by rw [hl,G7]);refine ⟨_,_,hS,mem_cast (DA cQ),fun k hk=>?_,_,hS,mem_cast (DA cQ),nV ns,aD.of hl,fun p hp=>?_⟩
 ·obtain ⟨k',hk',rfl⟩:=LE.mp hk;have:=My hk';omega
 rw [AK,Ll];refine fX (o:=.lst (List.drop (ns.idxOf (iK ns)) (nV ns))) hp fun H1 s1 b1=>?_;refine ⟨nV ns,aD.of (s1 _ _ hl),fun p2 fK=>?_⟩;rw [ZO];refine fX (o:=.lst (List.take (ns.idxOf (iK ns)) (nV ns))) fK fun H2 s2 b2=>?_;simp only [s2 _ _ b1,b2];refine ⟨fits (by simp [nV]; omega),fun p3 gW=>?_⟩;refine q p3 _ ((s1.trans s2).trans (ai.upd gW)) ?_ ?_
 ·cases e:H p3 with
  | none=>rfl
  | some o=>rw [(s1.trans s2) _ _ e] at gW; cases gW
 ·rw [aw];unfold mh nV;rw [Tm,List.map_drop,List.map_take]
def Py (C:Addr):Sp:=sU fun x l H Q _=>X2 fun dx ns=>A3 (H x=some (.ins C dx [])) (H l=some (.lst (nV ns))) (∀ rl,H rl=none->Q .au (upd (upd H rl (.lst (nV ns))) x (.ins C dx (ay "leads" (.ref rl) []))))
def Zb:T.rX.k P w mg base 1 (Py T.fH):=by
 refine T.rX.F.ok V4 (fun _ _ _ _ h=>mG h fun _ _ _=>rfl) fun ag A outer s H vs Q E hr h=>mG h fun x l h=>?_;obtain ⟨dx,ns,hx,hl,q⟩:=h;refine bK (b:=aV Ag) ((bi (f8 T.jV T.xp (ad 0) (Dv.t9 (Jf (K:=K) rfl) T.nH xh (al (ad 1) am))))) ?_;refine stI [some (V.ref x),some (V.ref l)] ?_;left;simp only [bH,hl];exact fun rl dP=>⟨x,dx,_,rfl,by rw [aj (aH hx dP)]; exact hx,by decide,q rl dP⟩
def cm (ps:List Str):List (Sum Nat Str):=(ps.map Sum.inr).reverse
def Iv (ps:List Str):(cm ps).map du=(ps.map V.str).reverse:=by
 unfold cm;rw [List.map_reverse,_m]; rfl
def YG (N:Cn):Sp:=GO fun x fr lp H Q _=>JU fun c S lf (st:Nat) (b:Nat) (ps:List Str) (r:List Nat) (a:Ta) (t:Th) (sn:Bool)=>vW (c.x=x) (aW N c S H lf .au) (H lp=some (.lst (ps.map V.str))) (fr=true/\st=c.root\/fr=false/\aM (sD c.M.st) (.inr c.z)=some (.int (st:Int))) (c.L[st]?=some a) (c.M.ts[st]?=some t) (dv c.M st b r) (∃ m,kx c.M c.L c.root m (dB b r) sn) (sn=true->∀ lf' H',aW N c { S with here:=dB b r,left:=cm ps } H' lf' .au->Q .au H') (sn=false->rW N c { S with here:=dB b r } lf (some (.fail "outside")) (Q .au))
def U8:T.rn.k P w mg base 7 (YG T.cn):=by
 refine T.rn.F.ok Gh (fun _ _ _ _ h=>JR h fun _ _ _ _=>rfl) fun ag A outer s H vs Q E hr h=>JR h fun x fr lp h=>?_;obtain ⟨c,S,lf,st,b,ps,r,a,t,sn,rfl,v,oS,aU,ha,ht,uF,Fv,q1,q2⟩:=h;obtain ⟨fs,pv,hx,bf,sf⟩:=v.fld;refine bK (b:=aV AB) ((ap (dl 3 Gh.nd (Dv.Ku (jp (ad 1)) (bn T.aG T.rV (ad 0)) (ge T.aN T.sI.h (Sw T) hr.m T.sI.b .nil az (bn T.aG T.fz (ad 0)) (al (bn T.aG T.uk (ad 0)) am))))
 (ap (f8 T.aG T.fo (ad 0) (db (wW T) hr.m T.fU.m T.fU.F.kp T.fU.b .nil az (al (bn T.aG T.fz (ad 0)) (al (ad 3) am))))
 (bi (em (jp (db (PM T) hr.m T.pI.m T.pI.F.kp T.pI.b .nil az (al (bn T.aG T.fz (ad 0)) (al (bn T.aG T.uk (ad 0)) (al (bn T.aG T.fo (ad 0)) am))))) (bi (f8 T.aG T.nF (ad 0) (Dv.listRev (K:=K) rfl rfl T.nH T.Cd (ad 2)))) (bi (dL (ge T.aG T.gM.h (tm T) hr.m T.gM.b .nil az (ad 0) (al ci am))))))))) ?_
 refine stI [some (V.ref c.x),some (V.bl fr),some (V.ref lp),none] ?_;refine jY (fun σ' H'=>σ'=[some (V.ref c.x),some (V.bl fr),some (V.ref lp),some (V.int (st:Int))]/\H'=H) ?_ ?_
 ·left;rcases aU with ⟨rfl,rfl⟩ | ⟨rfl,aU⟩
  ·exact bL (fI hx sf rfl ⟨rfl,by trivial⟩)
  ·obtain ⟨jO,hc,hh,qR,g9⟩:=v.m.h;exact bc (fI hx sf rfl (mI hh g9 (fI hx sf rfl ⟨c.A,c.L,c.M,st,v.m,rfl,by rw [v.hz]; rfl,aU,rfl,by first | rfl | trivial⟩)))
 rintro σ' H' ⟨rfl,rfl⟩;right;refine (fI hx sf rfl ⟨c.A,c.L,c.M,st,b,r,a,t,v.m,rfl,rfl,ha,ht,uF,fun H1 s1=>?_⟩);have v1:=v.same s1;obtain ⟨iE,bx,iY,_,v2⟩:=v1.put "here" (.int ((dB b r:Nat):Int)) { S with here:=dB b r } .au _;refine ⟨c.x,_,_,rfl,bx,by first | exact iY | exact oH | omega,?_⟩;have hlp1:=s1 _ _ oS;have EO:lp≠c.x:=fun e=>by rw [e,hx] at oS; cases oS
 have MM:upd H1 c.x (.ins T.bg c.dx (ay "here" (.int ((dB b r:Nat):Int)) iE)) lp=some (.lst (ps.map V.str)):=by rw [aj EO]; exact hlp1
 generalize upd H1 c.x (.ins T.bg c.dx (ay "here" (.int ((dB b r:Nat):Int)) iE))=H2 at v2 MM ⊢;obtain ⟨jJ,oR,bZ,i0,cj⟩:=v2.fld;left;refine (fI bZ cj rfl (fI bZ cj rfl (fI bZ cj rfl ⟨c.A,c.L,c.M,dB b r,c.root,sn,v2.m,rfl,rfl,v2.hz,Fv,fun H3 s3=>?_⟩)));have v3:=v2.same s3;cases sn
 ·obtain ⟨i5,oN,dZ,g7,eM⟩:=v3.fld;exact bc (mI dZ eM ⟨c,_,lf,rfl,v3,q2 rfl⟩)
 ·refine bL ?_;refine ⟨lp,ps.map V.str,rfl,aD.of (s3 _ _ MM),fun l hl=>?_⟩;have v4:=v3.same (ai.upd (o:=.lst (ps.map V.str).reverse) hl);have b4:upd H3 l (.lst (ps.map V.str).reverse) l=some (.lst ((cm ps).map du)):=by rw [aw,Iv]
  have l0:=v3.fresh hl;have FO:c.av≠l:=aH v3.oa hl;have FC:l≠c.rd:=Fa (aH v3.od hl);generalize upd H3 l (.lst (ps.map V.str).reverse)=H4 at v4 b4 ⊢;obtain ⟨qU,i9,oH,v5⟩:=v4.X0 l0 b4 FO FC;exact ⟨c.x,_,_,rfl,i9,by first | exact iY | exact oH | omega,q1 rfl l _ v5⟩
def jG (M:Hs) (L:List Ta) (root:Nat):Nat->Nat->List Str->Prop
 | n,k,ns=>∃ b r a t,L[k]?=some a/\M.ts[k]?=some t/\dv M k b r /\
  if gb root (b::r)=true then ns=[]
  else ∃ ab tb f z,L[b]?=some ab/\M.ts[b]?=some tb/\tb.bW=[(f,z)]/\match n with | 0=>False | n+1=>∃ ns',ns=ns'++[z]/\jG M L root n f ns'
def WA (CH CS CT:Addr):Sp:=sE fun x z n H Q _=>X6 fun A L M (k:Nat) (root:Nat) ns=>A7 (aJ CH CS CT H A L M) (A.a=x) (n=(k:Int)) (aM (sD M.ro) (.inr z)=some (.int (root:Int))) (∃ m,jG M L root m k ns) (ns.length<=500) (∀ l H',ai H H'->H' l=some (.lst (ns.map V.str))->Q (.ref l) H')
def RE:T.pF.k P w base 6 (WA T.aK T.aQ T.bb):=by
 refine T.pF.F.ok px (fun _ _ _ _ h=>jh h fun _ _ _ _=>rfl) fun ag A outer s H vs Q E hr h=>jh h fun x z n h=>?_;obtain ⟨AA,L,M,k,root,ns,i,rfl,rfl,hz,⟨m,hm⟩,hlen,q⟩:=h;obtain ⟨fs,c,hx,bf,sf⟩:=i.h;refine bK (b:=aV zl) ((ap (dl 3 px.nd (ge T.aN T.ko.h (zJ T) hr.m T.ko.b .nil az (ad 0) (al (ad 1) am)))
 (ap (dl 4 px.nd (li am))
 (ap (dl 5 px.nd (db (pY T) hr.m T.dX.m T.dX.F.kp T.dX.b .nil az (al (ad 0) (al (ad 2) am))))
 (ap (Dv.sG _O (im (DM (K:=K) rfl) (ad 3) (ad 5)) (ap (dl 6 px.nd (ge T.aN T.kG.h (De T) hr.m T.kG.b .nil az (ad 0) (al (ii (bP (K:=K) rfl) (ad 5) bv) am)))
 (ap (dL (sw No NE iI (ad 4) (al (ii (bP (K:=K) rfl) (ad 6) bv) am)))
 (bi (dl 5 px.nd (db (pY T) hr.m T.dX.m T.dX.F.kp T.dX.b .nil az (al (ad 0) (al (ii (bP (K:=K) rfl) (ad 6) bv) am))))))))
 (bi (cr (Dv.listRev (K:=K) rfl rfl T.nH T.Cd (ad 4))))))))) ?_
 refine stI [some (V.ref AA.a),some (V.str z),some (V.int (k:Int)),none,none,none,none] ?_;right;refine (mI hx sf ⟨AA,L,M,root,i,rfl,hz,?_⟩);right;refine ⟨fits (by simp),fun ln xN=>?_⟩;refine fX (o:=.lst []) xN fun H1 s1 b1=>?_;have i1:=i.same s1;right;obtain ⟨b,r,a,t,ha,ht,aU,dO⟩:=(by unfold jG at hm; exact hm:∃ b r a t,L[k]?=some a/\M.ts[k]?=some t/\dv M k b r/\_);refine ⟨AA,L,M,k,b,r,a,t,i1,rfl,rfl,ha,ht,aU,fun l2 H2 s2 hl20 cy=>?_⟩;have eL:=s1.trans s2;have c1:=s2 _ _ b1;obtain ⟨PV,lQ⟩:∃ PV:Nat->St->Hp->Prop,PV=fun m σ' H'=>ai H H'/\∃ (ls:Addr) (b:Nat) (r:List Nat) (cs ns':List Str) (pv:Option V),σ'=[some (V.ref AA.a),some (V.str z),some (V.int (k:Int)),some (V.int (root:Int)),some (V.ref ln),some (V.ref ls),pv]/\H' ls=some (.lst (nV (b::r)))/\H' ln=some (.lst (cs.map V.str))/\ns=ns'++cs.reverse /\
  (if gb root (b::r)=true then ns'=[]
   else ∃ ab tb f z,L[b]?=some ab/\M.ts[b]?=some tb/\tb.bW=[(f,z)]/\match m with | 0=>False | n+1=>∃ ns'',ns'=ns''++[z]/\jG M L root n f ns''):=⟨_,rfl⟩
 refine ah ⟨PV,⟨m,by rw [lQ]; exact ⟨eL,l2,b,r,[],ns,none,rfl,cy,c1,by simp,dO⟩⟩,?_⟩;clear dO ha ht aU cy hl20 c1 hm eL s2;intro m σ' H' hI;rw [lQ] at hI;obtain ⟨s',ls,b,r,cs,ns',pv,rfl,Oo,hln',eK,dO⟩:=hI;have i':=i.same s';obtain ⟨fs',c',hx',hfl',sf'⟩:=i'.h;left;refine ⟨_,.inl (aD.of Oo),rfl,by simp [cI],?_⟩;rw [tZ];cases hmem:gb root (b::r) with
 | true =>
  rw [IN hmem] at dO;subst dO;refine bc ?_;left;refine ⟨ln,_,rfl,aD.of hln',fun l hl=>?_⟩;refine q l _ (s'.trans (ai.upd hl)) ?_;rw [aw,eK,List.nil_append,List.map_reverse]
 | false =>
  rw [Id (by rw [hmem]; nofun)] at dO;obtain ⟨ab,tb,f,zz,ff,lK,bw,hn⟩:=dO;refine bL ⟨fun σ' H'=>∃ m',m' < m/\PV m' σ' H',fun σ' H' h=>h,?_⟩;right;simp only [bH,Oo,nV,Ix,gz];refine ⟨AA.a,_,_,rfl,hx',(sf' _).trans rfl,AA,L,M,b,ab,tb,i',rfl,rfl,ff,lK,.inr ⟨f,zz,bw,fun p hp=>?_⟩⟩;right;simp only [hln',bH,hp,wN];cases m with
  | zero=>exact hn.elim
  | succ m =>
   obtain ⟨ns2,hns2,hn⟩:=hn;have iZ:cs.length<=500:=by
    have:=UF List.length eK;simp at this;omega
   refine ⟨nv (by rw [At]; omega),?_⟩;have EO:p≠ln:=bQ hp hln' (by nofun);have s4:=s'.fR (o:=.lst (List.map V.str cs++[V.str zz])) xN;have b4:upd H' ln (.lst (List.map V.str cs++[V.str zz])) ln=some (.lst ((cs++[zz]).map V.str)):=by rw [aw,Tm]; rfl
   have qH:upd H' ln (.lst (List.map V.str cs++[V.str zz])) p=some (.tup [V.int (f:Int),V.str zz]):=by rw [aj EO]; exact hp
   generalize upd H' ln (.lst (List.map V.str cs++[V.str zz]))=H4 at s4 b4 qH ⊢;left;simp only [bH,qH,gz];obtain ⟨b2,r2,a2,t2,ED,jL,qG,Fj⟩:=(by unfold jG at hn; exact hn:∃ b r a t,L[f]?=some a/\M.ts[f]?=some t/\dv M f b r/\_);refine ⟨AA,L,M,f,b2,r2,a2,t2,i.same s4,rfl,rfl,ED,jL,qG,fun l5 H5 s5 hl50 hJ=>⟨m,WF m,?_⟩⟩;rw [lQ];refine ⟨s4.trans s5,l5,b2,r2,cs++[zz],ns2,_,rfl,hJ,s5 _ _ b4,?_,Fj⟩;rw [eK,hns2];simp
def sR {a b:Nat} (h:(some (V.int (a:Int)):Option V)=some (V.int (b:Int))):a=b:=by
 have h1:=PP h;injection h1 with h2;omega
def kS.uniq {M:Hs}:∀ {n m k a b:Nat},kS M n k a->kS M m k b->a=b
 | 0,0,_,_,_,h,h'=>by rw [h.2,h'.2]
 | 0,_+1,_,_,_,h,h'=>by obtain ⟨_,e,_⟩:=h'; rw [h.1] at e; cases e
 | _+1,0,_,_,_,h,h'=>by obtain ⟨_,e,_⟩:=h; rw [h'.1] at e; cases e
 | _+1,_+1,_,_,_,h,h'=>by
  obtain ⟨k1,e1,h1⟩:=h; obtain ⟨k2,e2,h2⟩:=h';rw [e1] at e2; cases sR e2; exact h1.uniq h2
def jt.uniq {M:Hs}:∀ {n m k:Nat} {a b:List Nat},jt M n k a->jt M m k b->a=b
 | 0,0,_,_,_,h,h'=>by rw [h.2,h'.2]
 | 0,_+1,_,_,_,h,h'=>by obtain ⟨_,_,e,_⟩:=h'; rw [h.1] at e; cases e
 | _+1,0,_,_,_,h,h'=>by obtain ⟨_,_,e,_⟩:=h; rw [h'.1] at e; cases e
 | _+1,_+1,_,_,_,h,h'=>by
  obtain ⟨k1,r1,e1,h1,rfl⟩:=h; obtain ⟨k2,r2,e2,h2,rfl⟩:=h';rw [e1] at e2; cases sR e2; rw [h1.uniq h2]
def dv.uniq {M:Hs} {k b b':Nat} {r r':List Nat} (h:dv M k b r) (h':dv M k b' r'):b=b'/\r=r':=by
 obtain ⟨⟨_,h1⟩,_,h2,_⟩:=h; obtain ⟨⟨_,h3⟩,_,h4,_⟩:=h';obtain rfl:=h1.uniq h3;exact ⟨rfl,h2.uniq h4⟩
inductive vy (c:Wd) (h:Nat):Nat->Prop
 | gJ {a t b r}:c.L[h]?=some a->c.M.ts[h]?=some t->dv c.M h b r->gb c.root (b::r)=true->vy c h h
 | up {a t b r ab tb f zz af tf b' r'}:c.L[h]?=some a->c.M.ts[h]?=some t->dv c.M h b r->gb c.root (b::r)=false->c.L[b]?=some ab->c.M.ts[b]?=some tb->tb.bW=[(f,zz)]->c.L[f]?=some af->c.M.ts[f]?=some tf->dv c.M f b' r'->vy c h (dB b' r')
def Yh (N:Cn):Sp:=ij fun x H Q _=>X4 fun c S lf h'=>A4 (c.x=x) (aW N c S H lf .au) (vy c.toWd S.here h') (∀ H',aW N c { S with here:=h' } H' lf .au->Q .au H')
def XB:T.rY.k P w mg base 7 (Yh T.cn):=by
 refine T.rY.F.ok Lq (fun _ _ _ _ h=>da h fun _ _=>rfl) fun ag A outer s H vs Q E hr h=>da h fun x h=>?_;obtain ⟨c,S,lf,h',rfl,v,hu,q⟩:=h;obtain ⟨fs,pv,hx,bf,sf⟩:=v.fld;refine bK (b:=aV DJ) ((ap (dl 1 Lq.nd (db (pY T) hr.m T.dX.m T.dX.F.kp T.dX.b .nil az (al (bn T.aG T.fz (ad 0)) (al (bn T.aG T.fo (ad 0)) am))))
 (bi (em (im (DM (K:=K) rfl) (bn T.aG T.rV (ad 0)) (ad 1)) (bi (f8 T.aG T.fo (ad 0) (db (wW T) hr.m T.fU.m T.fU.F.kp T.fU.b .nil az (al (bn T.aG T.fz (ad 0)) (al (ii (bP (K:=K) rfl) (ge T.aN T.kG.h (De T) hr.m T.kG.b .nil az (bn T.aG T.fz (ad 0)) (al (ii (bP (K:=K) rfl) (ad 1) bv) am)) bv) am))))) gl)))) ?_
 refine stI [some (V.ref c.x),none] ?_;obtain ⟨a,t,b,r,ha,aF,aU⟩:∃ a t b r,c.L[S.here]?=some a/\c.M.ts[S.here]?=some t/\dv c.M S.here b r:=by
  cases hu <;> exact ⟨_,_,_,_,by assumption,by assumption,by assumption⟩
 right;refine (fI hx sf rfl (fI hx sf rfl ⟨c.A,c.L,c.M,S.here,b,r,a,t,v.m,rfl,rfl,ha,aF,aU,fun l H1 s1 hl0 hl=>?_⟩));have v1:=v.same s1;obtain ⟨iE,xS,bx,iY,c9⟩:=v1.fld;left;refine (fI bx c9 rfl ⟨_,.inl (aD.of hl),rfl,by simp [cI],?_⟩);rw [tZ];cases hu with
 | gJ _ _ h1 hm =>
  obtain ⟨rfl,rfl⟩:=dv.uniq h1 aU;rw [hm];exact bc (q _ v1)
 | up _ _ h1 hm ff lK bw gI cf hst' =>
  obtain ⟨rfl,rfl⟩:=dv.uniq h1 aU;rw [hm];refine bL ?_;obtain ⟨jO,hc,hh,qR,g9⟩:=v1.m.h;simp only [bH,hl,nV,Ix,gz];refine (fI bx c9 rfl (fI bx c9 rfl (mI hh g9 ⟨c.A,c.L,c.M,_,_,_,v1.m,rfl,rfl,ff,lK,.inr ⟨_,_,bw,fun p hp=>?_⟩⟩)));simp only [hp,gz];refine ⟨c.A,c.L,c.M,_,_,_,_,_,v1.m,rfl,rfl,gI,cf,hst',fun H2 s2=>?_⟩;obtain ⟨jJ,bZ,i0,_,v2⟩:=(v1.same s2).put "here" _ { S with here:=dB _ _ } .au _;exact ⟨c.x,_,_,rfl,bZ,i0,q _ v2⟩
def Lf:T.ny.k P w mg base 3 (jE T.aK T.aQ T.bb Ad.a Jb):=by
 refine T.ny.F.ok QR (fun _ _ _ _ h=>bY h fun _ _ _=>rfl) fun ag A outer s H vs Q E hr h=>bY h fun x n h=>?_;obtain ⟨AA,L,M,k,a,t,i,rfl,rfl,ha,aF,q⟩:=h;obtain ⟨fs,c,hx,bf,sf⟩:=i.h;obtain ⟨gs,c2,ht,dN,sg⟩:=i.t;have cN:=eZ i ha aF;obtain ⟨ks,ho,je,so⟩:=cN.o;refine ⟨_,((bi (cr (bn T.dM T.Jn (pc T.ck T.dD.h (jA T) hr.m T.dD.b .nil dC (bn T.aN T.f9 (ad 0)) (al (ad 1) am)))))).h,?_⟩;refine stI [some (V.ref AA.a),some (V.int (k:Int))] ?_;left;exact ⟨AA.a,_,_,.ref AA.t,rfl,hx,(sf _).trans rfl,AA.t,_,_,rfl,ht,(sg _).trans rfl,kX i ha aF (fI ho so rfl q)⟩
def Aw {n:Nat} (h:n<=9000):n<=sizeLine:=Gc h (by decide)
def Hb (ps:List (List Nat)):PV ps=(ps.map Tx.S).map V.str:=by
 unfold PV
 first | rfl | simp [_m,Function.comp_def]
def dJ (t:List Nat):List Str:=(told (Tx.words 47 t) t).map Tx.S
def iS (S:Ws) (k:Nat) (ps:List Str) (h:Nat):Ws:={ S with read:=S.read+1,bB:=S.bB++[k],left:=(S.left++[.inl k])++cm ps,here:=h }
inductive uz (c:Wd) (S:Ws) (k:Nat):Ws->Prop
 | mk {a tc t ar tr b r}:c.L[k]?=some a->c.M.ts[k]?=some tc->tc.tx=Tx.S t->1<=t.length->t.length<=2000->(Tx.words 47 t).all b9=true->(dJ t).length<=124->c.L[c.root]?=some ar->c.M.ts[c.root]?=some tr->dv c.M c.root b r->uz c S k (iS S k (dJ t) (if bV t=true then dB b r else S.here))
def Qk (N:Cn):Sp:=iQ fun x n H Q _=>X5 fun c S lf (k:Nat) S'=>A7 (c.x=x) (n=(k:Int)) (aW N c S H lf .au) (S.left.length<=8000) (S.bB.length<=900) (uz c.toWd S k S') (∀ H',aW N c S' H' lf .au->Q .au H')
def ZA:T.uw.k P w mg base 7 (Qk T.cn):=by
 refine T.uw.F.ok LY (fun _ _ _ _ h=>bY h fun _ _ _=>rfl) fun ag A outer s H vs Q E hr h=>bY h fun x n h=>?_;obtain ⟨c,S,lf,k,S',rfl,rfl,v,hl,gD,hR,q⟩:=h;cases hR with
 | @mk a tc t ar tr b r ha eA FN h1 h2 ef jf EH iC aU =>
 refine bK (b:=aV Dd) ((ap (dl 2 LY.nd (db (jC T) hr.m T.cq.m T.cq.F.kp T.cq.b .nil az (al (ge T.aN T.ny.h (Lf T) hr.m T.ny.b .nil az (bn T.aG T.fz (ad 0)) (al (ad 1) am)) am)))
 (ap (wS T.aG T.Cu mC (ad 0) bv)
 (ap (dL (sw No NE iI (bn T.aG T.o7 (ad 0)) (al (ad 1) am)))
 (ap (dL (sw No NE iI (bn T.aG T.nF (ad 0)) (al (ad 1) am)))
 (ap (dL (sw PySem.F.slot_list_extend PySem.F.type_list_extend WN (bn T.aG T.nF (ad 0)) (al (Dv.listRev (K:=K) rfl rfl T.nH T.Cd (ii (bP (K:=K) rfl) (ad 2) bv)) am)))
 (bi (em (jp (ii (bP (K:=K) rfl) (ad 2) bv)) (bi (f8 T.aG T.fo (ad 0) (db (wW T) hr.m T.fU.m T.fU.F.kp T.fU.b .nil az (al (bn T.aG T.fz (ad 0)) (al (bn T.aG T.rV (ad 0)) am))))) gl)))))))) ?_
 refine stI [some (V.ref c.x),some (V.int (k:Int)),none] ?_;obtain ⟨fs,pv,hx,bf,sf⟩:=v.fld;obtain ⟨jO,hc,hh,qR,g9⟩:=v.m.h;right;refine (fI hx sf rfl (mI hh g9 ⟨c.A,c.L,c.M,k,a,tc,v.m,rfl,rfl,ha,eA,?_⟩));simp only [Jb];refine ⟨t,FN,h1,h2,ef,fun H1 l p s1 hl0 gP hp=>?_⟩;have v1:=v.same s1;obtain ⟨iE,bx,iY,lU,v2⟩:=v1.put "leads_read" (.int ((S.read:Int)+1)) { S with read:=S.read+1 } .au _;right;refine ⟨c.x,_,_,_,rfl,bx,lU,_,_,rfl,rfl,_,_,bx,iY,ah ?_⟩;have hpx:p≠c.x:=fun e=>by rw [e,bx] at hp; cases hp
 have hlx:l≠c.x:=fun e=>by rw [e,bx] at gP; cases gP
 have fK:upd H1 c.x (.ins T.bg c.dx (ay "leads_read" (.int ((S.read:Int)+1)) iE)) p=some (HO.tup [V.bl (bV t),V.ref l]):=by rw [aj hpx]; exact hp
 have cy:upd H1 c.x (.ins T.bg c.dx (ay "leads_read" (.int ((S.read:Int)+1)) iE)) l=some (.lst (PV (told (Tx.words 47 t) t))):=by rw [aj hlx]; exact gP
 generalize upd H1 c.x (.ins T.bg c.dx (ay "leads_read" (.int ((S.read:Int)+1)) iE))=H2 at v2 fK cy ⊢;obtain ⟨jJ,oR,bZ,i0,cj⟩:=v2.fld;left;refine (fI bZ cj rfl ?_);simp only [v2.od];have v3:=v2.TV k;refine ⟨nv (by simp; omega),ah ?_⟩;have nl0:l≠c.rd:=fun e=>by rw [e] at hl0; rw [v.od] at hl0; cases hl0
 have gW:upd H2 c.rd (.lst (nV S.bB++[V.int (k:Int)])) p=some (HO.tup [V.bl (bV t),V.ref l]):=by rw [aj (Fa (bQ v2.od fK (by nofun)))]; exact fK
 have js:upd H2 c.rd (.lst (nV S.bB++[V.int (k:Int)])) l=some (.lst (PV (told (Tx.words 47 t) t))):=by rw [aj nl0]; exact cy
 dsimp only at v3;generalize upd H2 c.rd (.lst (nV S.bB++[V.int (k:Int)]))=H3 at v3 gW js ⊢;obtain ⟨i5,oN,dZ,g7,eM⟩:=v3.fld;left;refine (fI dZ eM rfl ?_);simp only [v3.ol];have v4:=v3.aay k;refine ⟨FB (WF _) (Aw (by simp; omega)),ah ?_⟩;have qH:upd H3 lf (.lst (S.left.map du++[V.int (k:Int)])) p=some (HO.tup [V.bl (bV t),V.ref l]):=by rw [aj (Fa (bQ v3.ol gW (by nofun)))]; exact gW
 have nll:l≠lf:=fun e=>by rw [e] at hl0; rw [v.ol] at hl0; cases hl0
 have xX:upd H3 lf (.lst (S.left.map du++[V.int (k:Int)])) l=some (.lst (PV (told (Tx.words 47 t) t))):=by rw [aj nll]; exact js
 dsimp only at v4;generalize upd H3 lf (.lst (S.left.map du++[V.int (k:Int)]))=H4 at v4 qH xX ⊢;obtain ⟨qU,N2,i9,oH,oP⟩:=v4.fld;left;refine (fI i9 oP rfl ?_);simp only [v4.ol];unfold Al;left;simp only [bH,qH,wN];refine ⟨l,_,rfl,aD.of xX,fun l5 hJ=>?_⟩;rw [Hb,show (List.map V.str (List.map Tx.S (told (Tx.words 47 t) t))).reverse=(cm (dJ t)).map du from (Iv _).symm];refine fX (o:=.lst ((cm (dJ t)).map du)) hJ fun H5 s5 b5=>?_;have v5:=v4.same s5;have e5:H5 lf=some (.lst ((S.left++[Sum.inl k]).map du)):=v5.ol;simp only [e5,b5];have oS:(cm (dJ t)).length<=124:=by unfold cm; simpa using jf
 refine ⟨Aw (by simp at hl oS ⊢; omega),?_⟩;have v6:=v5.Ue (cm (dJ t));have yh:=s5 _ _ qH;have oF:upd H5 lf (.lst ((S.left++[Sum.inl k]).map du++(cm (dJ t)).map du)) p=some (HO.tup [V.bl (bV t),V.ref l]):=by rw [aj (Fa (bQ v5.ol yh (by nofun)))]; exact yh
 dsimp only at v6;generalize upd H5 lf (.lst ((S.left++[Sum.inl k]).map du++(cm (dJ t)).map du))=H6 at v6 oF ⊢;simp only [oF,gz];cases hrt:bV t with
 | false =>
  rw [hrt] at q;exact bc (q _ v6)
 | true =>
  rw [hrt] at q;refine bL ?_;obtain ⟨fs6,pv6,NG,hfl6,ML⟩:=v6.fld;refine (fI NG ML rfl (fI NG ML rfl ⟨c.A,c.L,c.M,c.root,b,r,ar,tr,v6.m,rfl,rfl,EH,iC,aU,fun H7 s7=>?_⟩));obtain ⟨fs7,FG,hfl7,_,v7⟩:=(v6.same s7).put "here" _ (iS S k (dJ t) (dB b r)) .au _;exact ⟨c.x,_,_,rfl,FG,hfl7,q _ v7⟩
def dq {b:Bool} {A B:Prop} {i:Decidable (b=true)} (h:b=false) (hb:B):if b=true then A else B:=by rw [Id (by rw [h]; decide)]; exact hb
def eB {b:Bool} {A B:Prop} {i:Decidable (b=true)} (h:b=true) (hb:A):if b=true then A else B:=by rw [IN h]; exact hb
section
variable {T:Tx K mg} {H:Hp} {A:Ad} {L:List Ta} {M:Hs}
def yT {z s:Str} {k:Nat} {t:Th} {Q:VK} {E:XK} (i:aJ T.aK T.aQ T.bb H A L M) (hz:(aM (sD M.ro) (.inr z)).isSome=true) (hs:jr (.str s)=true) (ht:M.ts[k]?=some t) (q:Q (.bl (dF s (dm t z))) H):Kx T.aK T.aQ T.bb T.qF T.uN T.qQ [.ref A.a,.str z,.int k,.str s] H Q E:=by
 refine ⟨A,L,M,i,rfl,⟨_,rfl⟩,⟨_,rfl⟩,⟨_,rfl⟩,fun h=>(by rw [h z rfl] at hz; cases hz),fun z' e _=>?_⟩;cases e;refine ⟨fun h=>(by rw [hs] at h; cases h),fun s' e _=>?_⟩;cases e;have bN:=(Do.mp ht).1;refine ⟨fun h=>absurd bN (h k rfl),fun k' t' e ht'=>?_⟩;cases e;rw [ht] at ht';cases ht';exact q
end
def Qv {k:Nat} {l:List Nat} (h:k∈l):gb k l=true:=List.any_eq_true.mpr ⟨k,h,by simp⟩
def G8 {k:Nat} {l:List Nat} (h:k ∉ l):gb k l=false:=by
 unfold gb;rw [List.any_eq_false];intro x hx e;exact h (by rw [<- eq_of_beq e]; exact hx)
inductive sv (c:Wd) (S:Ws) (k:Nat):Ws->Option Tl->Prop
 | ring:k∈S.bB->sv c S k S (some (.ring (mh (S.bB.drop (S.bB.idxOf k)))))
 | many:k ∉ S.bB->S.read=40->sv c S k S (some (.fail "many"))
 | read {S'}:k ∉ S.bB->S.read≠40->uz c S k S'->sv c S k S' none
def Wx (N:Cn):Sp:=iQ fun x n H Q _=>X6 fun c S lf (k:Nat) S' o=>A7 (c.x=x) (n=(k:Int)) (aW N c S H lf .au) (S.left.length<=8000) (S.bB.length<=400) (sv c.toWd S k S' o) (rW N c S' lf o (Q .au))
def Zj:T.tN.k P w mg base 8 (Wx T.cn):=by
 refine T.tN.F.ok YU (fun _ _ _ _ h=>bY h fun _ _ _=>rfl) fun ag A outer s H vs Q E hr h=>bY h fun x n h=>?_;obtain ⟨c,S,lf,k,S',o,rfl,rfl,v,hl,gD,hR,q⟩:=h;refine bK (b:=aV yw) ((bi (em (im (vP (K:=K) rfl) (ad 1) (bn T.aG T.o7 (ad 0))) (bi (f8 T.aG T.mH (ad 0) (xL T.Qn (Zb T) hr.m T.Rz T.rX.b .nil az (al (db (Ri T) hr.m T.qu.m T.qu.F.kp T.qu.b .nil az (al (zn (nR (K:=K) rfl) (bn T.aG T.o7 (ad 0)) (wE (sw Ja3 PySem.F.type_list_index (LI (K:=K) rfl) (bn T.aG T.o7 (ad 0)) (al (ad 1) am))) Dv.tJ) am)) am)))) (bi (em (im mj (bn T.aG T.Cu (ad 0)) (mo (.int 40) T.SO ⟨_,rfl⟩)) (bi (dL (ge T.aG T.gM.h (tm T) hr.m T.gM.b .nil az (ad 0) (al ci am)))) (bi (dL (ge T.aG T.uw.h (ZA T) hr.m T.uw.b .nil az (ad 0) (al (ad 1) am))))))))) ?_;refine stI [some (V.ref c.x),some (V.int (k:Int))] ?_;obtain ⟨fs,pv,hx,bf,sf⟩:=v.fld;left;refine (fI hx sf rfl ⟨_,.inl (aD.of v.od),rfl,by simp [cI],?_⟩);rw [tZ];cases hR with
 | many hk hm =>
  rw [G8 hk];refine bc (fI hx sf rfl ?_);refine eB (Go (by omega)) (mI hx sf ⟨c,S,lf,rfl,v,q⟩)
 | read hk hm hR =>
  rw [G8 hk];refine bc (fI hx sf rfl ?_);refine dq (Ch (by omega)) (mI hx sf ⟨c,S,lf,k,_,rfl,rfl,v,hl,by omega,hR,q.n rfl⟩)
 | ring hk =>
  rw [Qv hk];refine bL (fI hx sf rfl (fI hx sf rfl ?_));simp only [v.od];refine ⟨_,aD.of (by rw [v.od,G7]),mem_cast hk,nV S.bB,aD.of v.od,fun p hp=>?_⟩;rw [AK,Ll];have e1:List.drop (S.bB.idxOf k) (nV S.bB)=nV (S.bB.drop (S.bB.idxOf k)):=by unfold nV; rw [List.map_drop]
  rw [e1];refine fX (o:=.lst (nV (S.bB.drop (S.bB.idxOf k)))) hp fun H1 s1 b1=>?_;have hj:S.bB.idxOf k < S.bB.length:=List.idxOf_lt_length_iff.mpr hk;refine ⟨_,b1,fun e=>by have:=UF List.length e; simp at this; omega,by simp; omega,fun l2 H2 s2 l20 cy=>?_⟩;intro fd aP aS hdfd nfd;have v2:=(v.same s1).same s2;have s4:=(ai.upd (o:=.own fd) hdfd).trans (ai.upd (p:=fd) (o:=.ins T.fH aP []) (by rw [aj (Fa nfd)]; exact aS));have b4:upd (upd H2 aP (.own fd)) fd (.ins T.fH aP []) fd=some (.ins T.fH aP []):=aw;generalize upd (upd H2 aP (.own fd)) fd (.ins T.fH aP [])=H4 at s4 b4 ⊢;refine ⟨aP,_,b4,s4 _ _ cy,fun rl dP=>?_⟩;have s5:=s4.trans (ai.upd (o:=.lst (nV (mh (S.bB.drop (S.bB.idxOf k))))) dP);have b5:upd H4 rl (.lst (nV (mh (S.bB.drop (S.bB.idxOf k))))) fd=some (.ins T.fH aP []):=by rw [aj (aH b4 dP)]; exact b4
  have c5:upd H4 rl (.lst (nV (mh (S.bB.drop (S.bB.idxOf k))))) rl=some (.lst (nV (mh (S.bB.drop (S.bB.idxOf k))))):=aw;have nr:=aH b4 dP;have r0:c.H0 rl=none:=by
   cases e:c.H0 rl with
   | none=>rfl
   | some o=>rw [(v2.s.trans s4) _ _ e] at dP; cases dP
  generalize upd H4 rl (.lst (nV (mh (S.bB.drop (S.bB.idxOf k)))))=H5 at s5 b5 c5 ⊢;obtain ⟨xV,oU,hJ,v6,f0,nx⟩:=v2.tells (t:=.ring []) (F:=ay "leads" (.ref rl) []) aS s5 b5;have nrx:rl≠c.x:=fun e=>by rw [e] at c5; obtain ⟨fs7,pv7,FG,_⟩:=(v2.same s5).fld; rw [FG] at c5; cases c5
  exact ⟨rfl,c.x,_,_,rfl,oU,hJ,q.y _ rfl fd _ v6 ⟨f0,aP,rl,by rw [aj (Fa nx),aw],by rw [aj nrx,aj (Fa nr)]; exact c5,r0⟩⟩
inductive qa (c:Wd) (S:Ws) (t:Th) (p:Str):Ws->Option Tl->Prop
 | no:aM (sD t.aR) (.inr p)=none->qa c S t p { S with look:=S.look+1 } (some (.fail "none"))
 | folder {k a tc b r}:aM (sD t.aR) (.inr p)=some (.int ((k:Nat):Int))->c.L[k]?=some a->c.M.ts[k]?=some tc->tc.kd=("folder" : Str)->dv c.M k b r->qa c S t p { S with look:=S.look+1,here:=dB b r } none
 | fin {k a tc}:aM (sD t.aR) (.inr p)=some (.int ((k:Nat):Int))->c.L[k]?=some a->c.M.ts[k]?=some tc->tc.kd≠("folder" : Str)->(tc.kd=("file" : Str)\/S.left=[]/\c.last=false)->qa c S t p { S with look:=S.look+1,place:=some (S.here,p),here:=k } none
 | lead {k a tc S' o}:aM (sD t.aR) (.inr p)=some (.int ((k:Nat):Int))->c.L[k]?=some a->c.M.ts[k]?=some tc->tc.kd≠("folder" : Str)->tc.kd≠("file" : Str)->¬ (S.left=[]/\c.last=false)->sv c { S with look:=S.look+1 } k S' o->qa c S t p S' o
def AL {T:Tx K mg} {c:Wc} {S:Ws} {H:Hp} {lf:Addr} {k:Nat} {nm:Str} {v3:Option V} {R:Hp->Prop} {Q:VK} (v2:aW T.cn c S H lf .au) (q:∀ H',aW T.cn c { S with place:=some (S.here,nm),here:=k } H' lf .au->R H') :
  sP (rm T.bg "place" (lx 0) (vY (o8 (vo T.bg "here" (lx 0)) (o8 (lx 1) mT)))) (rm T.bg "here" (lx 0) (lx 2)) { nx:=fun _ H'=>R H',rt:=Q } [some (V.ref c.x),some (V.str nm),some (V.int (k:Int)),v3] H:=by
 obtain ⟨jJ,oR,bZ,i0,cj⟩:=v2.fld;right;refine (fI bZ cj rfl ⟨fits (by simp),fun p hp=>?_⟩);have w3:=v2.same (ai.upd (o:=.tup [V.int (S.here:Int),V.str nm]) hp);have b3:upd H p (.tup [V.int (S.here:Int),V.str nm]) p=some (.tup [V.int (S.here:Int),V.str nm]):=aw;have p0:=v2.fresh hp;generalize upd H p (.tup [V.int (S.here:Int),V.str nm])=H3 at w3 b3 ⊢;obtain ⟨i5,dZ,g7,v4⟩:=w3.placed p0 b3;refine ⟨c.x,_,_,rfl,dZ,g7,?_⟩;generalize upd H3 c.x _=H4 at v4 ⊢;obtain ⟨qU,i9,oH,_,v5⟩:=v4.put "here" (.int (k:Int)) { S with place:=some (S.here,nm),here:=k } .au _;exact ⟨c.x,_,_,rfl,i9,oH,q _ v5⟩
def YL (N:Cn):Sp:=ju fun x nm H Q _=>X7 fun c S lf a t S' o=>vW (c.x=x) (aW N c S H lf .au) (c.L[S.here]?=some a) (c.M.ts[S.here]?=some t) (fE (.str nm)=true) (nm.length<=1000) (S.left.length<=8000) (S.bB.length<=400) (qa c.toWd S t nm S' o) (rW N c S' lf o (Q .au))
def Vx:T.rg.k P w mg base 9 (YL T.cn):=by
 refine T.rg.F.ok y8 (fun _ _ _ _ h=>eQ h fun _ _ _=>rfl) fun ag A outer s H vs Q E hr h=>eQ h fun x nm h=>?_;obtain ⟨c,S,lf,a,t,S',o,rfl,v,ha,aF,hn,mX,uU,gD,hb,q⟩:=h;refine bK (b:=aV zL) ((ap (wS T.aG T.Ha mC (ad 0) bv)
 (ap (dl 2 y8.nd (ge T.aN T.nu.h (HQ T) hr.m T.nu.b .nil az (bn T.aG T.fz (ad 0)) (al (bn T.aG T.fo (ad 0)) (al (ad 1) am))))
 (ap (em (im tE (ad 2) ul) (ap (dL (ge T.aG T.gM.h (tm T) hr.m T.gM.b .nil az (ad 0) (al ci am)))
 (bi Dv.LA)) gl)
 (ap (dl 3 y8.nd (ge T.aN T.iN.h (vQ T) hr.m T.iN.b .nil az (bn T.aG T.fz (ad 0)) (al (ad 2) am)))
 (bi (em (im mj (ad 3) (mo (.str "folder") T.we ⟨_,rfl⟩)) (bi (f8 T.aG T.fo (ad 0) (db (wW T) hr.m T.fU.m T.fU.F.kp T.fU.b .nil az (al (bn T.aG T.fz (ad 0)) (al (ad 2) am))))) (bi (em (sB (ut (im mj (ad 3) (mo (.str "file") T.yG ⟨_,rfl⟩)) (wn (sB (Dv.w_and (im (P4 (K:=K) rfl hr.pe) (bn T.aG T.nF (ad 0)) (li am)) (Dv.Ba (lv (jp (bn T.aG T.KI (ad 0)))))))))) (ap (f8 T.aG T.vH (ad 0) (pp (al (bn T.aG T.fo (ad 0)) (al (ad 1) am))))
 (bi (f8 T.aG T.fo (ad 0) (ad 2)))) (bi (dL (ge T.aG T.tN.h (Zj T) hr.m T.tN.b .nil az (ad 0) (al (ad 2) am))))))))))))) ?_
 refine stI [some (V.ref c.x),some (V.str nm),none,none] ?_;obtain ⟨fs,hx,bf,lU,v1⟩:=v.put "looked_up" (.int ((S.look:Int)+1)) { S with look:=S.look+1 } .au _;right;refine ⟨c.x,_,_,_,rfl,hx,lU,_,_,rfl,rfl,_,_,hx,bf,ah ?_⟩;generalize upd H c.x (.ins T.bg c.dx (ay "looked_up" (.int ((S.look:Int)+1)) fs))=H1 at v1 ⊢;obtain ⟨iE,xS,bx,iY,c9⟩:=v1.fld;obtain ⟨jO,hc,hh,qR,g9⟩:=v1.m.h;left;refine (fI bx c9 rfl (mI hh g9 (fI bx c9 rfl ⟨c.A,c.L,c.M,S.here,a,t,v1.m,rfl,rfl,ha,aF,hn,mX,fun H2 s2=>?_⟩)));have v2:=v1.same s2;obtain ⟨jJ,oR,bZ,i0,cj⟩:=v2.fld;obtain ⟨hfs2,FF,Ob,hhl2,hsf2⟩:=v2.m.h;by_cases jd:aM (sD t.aR) (.inr nm)=none
 ·have he:S'={ S with look:=S.look+1 }/\o=some (.fail "none"):=by
   cases hb with
   | no _=>exact ⟨rfl,rfl⟩
   | folder h1=>rw [jd] at h1; cases h1
   | fin h1=>rw [jd] at h1; cases h1
   | lead h1=>rw [jd] at h1; cases h1
  obtain ⟨rfl,rfl⟩:=he;rw [jd];right;refine ⟨by trivial,bL ?_⟩;right;exact (mI bZ cj ⟨c,_,lf,rfl,v2,q⟩)
 obtain ⟨k,ak,tc,hv,gH,eA⟩:∃ k a tc,aM (sD t.aR) (.inr nm)=some (.int ((k:Nat):Int))/\c.L[k]?=some a/\c.M.ts[k]?=some tc:=by
  cases hb with
  | no h=>exact absurd h jd
  | folder h1 h2 h3=>exact ⟨_,_,_,h1,h2,h3⟩
  | fin h1 h2 h3=>exact ⟨_,_,_,h1,h2,h3⟩
  | lead h1 h2 h3=>exact ⟨_,_,_,h1,h2,h3⟩
 rw [hv];right;refine ⟨by trivial,?_⟩;rw [Ch (by nofun)];refine bc ?_;right;refine (fI bZ cj rfl (mI Ob hsf2 ⟨c.A,c.L,c.M,k,ak,tc,v2.m,rfl,rfl,gH,eA,?_⟩));simp only [vA];cases hb with
 | no h=>exact absurd h jd
 | folder h1 h2 h3 bu aU =>
  rw [hv] at h1; cases sR h1; rw [eA] at h3; cases h3;simp only [bu,decide_true];left;refine (fI bZ cj rfl ⟨c.A,c.L,c.M,k,_,_,ak,_,v2.m,rfl,rfl,gH,eA,aU,fun H3 s3=>?_⟩);obtain ⟨i5,dZ,g7,_,v3⟩:=(v2.same s3).put "here" _ { S with look:=S.look+1,here:=dB _ _ } .au _;exact ⟨c.x,_,_,rfl,dZ,g7,q.n rfl _ v3⟩
 | fin h1 h2 h3 bu hf =>
  rw [hv] at h1; cases sR h1; rw [eA] at h3; cases h3;rw [Ch bu];refine bc ?_;left;rcases hf with hf | ⟨hle,hla⟩
  ·exact eB (Go hf) ((IN trivial).mpr (AL v2 (q.n rfl)))
  ·by_cases hf:tc.kd=("file" : Str)
   ·exact eB (Go hf) ((IN trivial).mpr (AL v2 (q.n rfl)))
   refine dq (Ch hf) (fI bZ cj rfl ⟨fits (by simp),fun d hd=>?_⟩);have v3:=v2.same (ai.upd (o:=.lst []) hd);have b3:upd H2 d (.lst []) d=some (.lst []):=aw;generalize upd H2 d (.lst [])=H3 at v3 b3 ⊢;obtain ⟨i5,oN,dZ,g7,eM⟩:=v3.fld;refine ⟨_,[],aD.of v3.ol,aD.of b3,.inl ⟨rfl,?_⟩⟩;refine eB (by rw [show ({ S with look:=S.look+1 }:Ws).left=[] from hle]; rfl) (fI dZ eM rfl (eB (by rw [hla]; rfl) (AL v3 (q.n rfl))))
 | lead h1 h2 h3 bu jc mX hm =>
  rw [hv] at h1; cases sR h1; rw [eA] at h3; cases h3;rw [Ch bu];refine bc ?_;left;refine dq (Ch jc) (fI bZ cj rfl ⟨fits (by simp),fun d hd=>?_⟩);have v3:=v2.same (ai.upd (o:=.lst []) hd);have b3:upd H2 d (.lst []) d=some (.lst []):=aw;generalize upd H2 d (.lst [])=H3 at v3 b3 ⊢;obtain ⟨i5,oN,dZ,g7,eM⟩:=v3.fld;refine ⟨_,[],aD.of v3.ol,aD.of b3,.inl ⟨rfl,?_⟩⟩;by_cases hle:S.left=[]
  ·refine eB (by rw [show ({ S with look:=S.look+1 }:Ws).left=[] from hle]; rfl) (fI dZ eM rfl ?_);refine dq (by cases hb:c.last with | false=>exact absurd ⟨hle,hb⟩ mX | true=>rfl) ?_;exact (mI dZ eM ⟨c,_,lf,k,S',o,rfl,rfl,v3,uU,gD,hm,q⟩)
  ·refine dq (by cases h:S.left with | nil=>exact absurd h hle | cons _ _=>rfl) (bc ?_);exact (mI dZ eM ⟨c,_,lf,k,S',o,rfl,rfl,v3,uU,gD,hm,q⟩)
structure vc (c:Wd) (S:Ws) (t:Th):Prop where
 l:∃ a,c.L[S.here]?=some a
 e:c.M.ts[S.here]?=some t
 k:t.kd=("folder" : Str)
 g:dF ("g" : Str) (dm t c.z)=true
def cW (S:Ws):Ws:={ S with step:=S.step+1,asked:=S.asked++[S.here] }
inductive dU (c:Wd) (S:Ws) (p:Str):Ws->Option Tl->Prop
 | flat {a t}:c.L[S.here]?=some a->c.M.ts[S.here]?=some t->t.kd≠("folder" : Str)->dU c S p { S with step:=S.step+1 } (some (.fail "flat"))
 | fZ {a t}:c.L[S.here]?=some a->c.M.ts[S.here]?=some t->t.kd=("folder" : Str)->dF ("g" : Str) (dm t c.z)=false->dU c S p (cW S) (some (.fail "shut"))
 | dot {t}:vc c S t->p=("." : Str)->dU c S p (cW S) none
 | up {t h}:vc c S t->p=(".." : Str)->vy c S.here h->dU c S p { cW S with here:=h } none
 | go {t S' o}:vc c S t->p≠(".." : Str)->p≠("." : Str)->fE (.str p)=true->p.length<=1000->qa c (cW S) t p S' o->dU c S p S' o
def V3 (N:Cn):Sp:=ju fun x p H Q _=>X5 fun c S lf S' o=>A7 (c.x=x) (aW N c S H lf .au) (S.asked.length<=8000) (S.left.length<=8000) (S.bB.length<=400) (dU c.toWd S p S' o) (rW N c S' lf o (Q .au))
def Vg:T.tq.k P w mg base 10 (V3 T.cn):=by
 refine T.tq.F.ok Xf (fun _ _ _ _ h=>eQ h fun _ _ _=>rfl) fun ag A outer s H vs Q E hr h=>eQ h fun x p h=>?_;obtain ⟨c,S,lf,S',o,rfl,v,hn,uU,gD,hp,q⟩:=h;obtain ⟨a,t,ha,aF⟩:∃ a t,c.L[S.here]?=some a/\c.M.ts[S.here]?=some t:=by
  cases hp with
  | flat h1 h2=>exact ⟨_,_,h1,h2⟩
  | fZ h1 h2=>exact ⟨_,_,h1,h2⟩
  | dot h=>obtain ⟨a,e⟩:=h.l; exact ⟨a,_,e,h.e⟩
  | up h=>obtain ⟨a,e⟩:=h.l; exact ⟨a,_,e,h.e⟩
  | go h=>obtain ⟨a,e⟩:=h.l; exact ⟨a,_,e,h.e⟩
 refine bK (b:=aV B6) ((ap (wS T.aG T.AJ mC (ad 0) bv)
 (ap (em (im ki (ge T.aN T.iN.h (vQ T) hr.m T.iN.b .nil az (bn T.aG T.fz (ad 0)) (al (bn T.aG T.fo (ad 0)) am)) (mo (.str "folder") T.we ⟨_,rfl⟩)) (ap (dL (ge T.aG T.gM.h (tm T) hr.m T.gM.b .nil az (ad 0) (al ci am)))
 (bi Dv.LA)) gl)
 (ap (dL (sw No NE iI (bn T.aG T.yH (ad 0)) (al (bn T.aG T.fo (ad 0)) am)))
 (bi (em (lv (jp (pc T.aN T.kg.h (Bu T) hr.m T.kg.b .nil dC (bn T.aG T.fz (ad 0)) (al (bn T.aG T.uk (ad 0)) (al (bn T.aG T.fo (ad 0)) (al ci am)))))) (bi (dL (ge T.aG T.gM.h (tm T) hr.m T.gM.b .nil az (ad 0) (al ci am)))) (bi (em (im mj (ad 1) ci) (bi (dL (Dv.sC T.aG T.rY.h (XB T) hr.m T.rY.b .nil az (ad 0)))) (bi (em (im ki (ad 1) ci) (bi (dL (ge T.aG T.rg.h (Vx T) hr.m T.rg.b .nil az (ad 0) (al (ad 1) am)))) gl)))))))))) ?_
 refine stI [some (V.ref c.x),some (V.str p)] ?_;obtain ⟨fs,hx,bf,lU,v1⟩:=v.put "step" (.int ((S.step:Int)+1)) { S with step:=S.step+1 } .au _;right;refine ⟨c.x,_,_,_,rfl,hx,lU,_,_,rfl,rfl,_,_,hx,bf,ah ?_⟩;generalize upd H c.x (.ins T.bg c.dx (ay "step" (.int ((S.step:Int)+1)) fs))=H1 at v1 ⊢;obtain ⟨iE,xS,bx,iY,c9⟩:=v1.fld;obtain ⟨jO,hc,hh,qR,g9⟩:=v1.m.h;left;refine (fI bx c9 rfl (mI hh g9 (fI bx c9 rfl ⟨c.A,c.L,c.M,S.here,a,t,v1.m,rfl,rfl,ha,aF,?_⟩)));simp only [vA];by_cases bu:t.kd=("folder" : Str)
 ·simp only [bu,decide_true];refine bc ?_;right;refine (fI bx c9 rfl ?_);simp only [v1.oa];refine (fI bx c9 rfl ?_);have v2:=v1.PK S.here;refine ⟨FB (WF _) (Aw (by simp; omega)),?_⟩;dsimp only at v2;generalize upd H1 c.av (.lst (nV S.asked++[.int (S.here:Int)]))=H2 at v2 ⊢;obtain ⟨jJ,oR,bZ,i0,cj⟩:=v2.fld;obtain ⟨lR,gc,gh,oT,en⟩:=v2.m.h;refine (fI bZ cj rfl (mI gh en (fI bZ cj rfl (fI bZ cj rfl (yT v2.m (by rw [v2.hz]; rfl) (by decide +kernel) aF ?_)))));cases hp with
  | flat h1 h2 h3=>rw [aF] at h2; cases h2; exact absurd bu h3
  | fZ h1 h2 h3 h4 =>
   rw [aF] at h2; cases h2;rw [h4];exact bL (mI bZ cj ⟨c,_,lf,rfl,v2,q⟩)
  | dot hA h5 =>
   have h2:=hA.e; rw [aF] at h2; cases h2;subst h5;rw [hA.g];exact bc (dq (Ch (by decide +kernel)) (dq (by rw [Go rfl]; rfl) (q.n rfl _ v2)))
  | up hA h5 hu =>
   have h2:=hA.e; rw [aF] at h2; cases h2;subst h5;rw [hA.g];exact bc (eB (Go rfl) (mI bZ cj ⟨c,_,lf,_,rfl,v2,hu,q.n rfl⟩))
  | go hA h5 h6 h7 h8 hb =>
   have h2:=hA.e; rw [aF] at h2; cases h2;rw [hA.g];exact bc (dq (Ch h5) (eB (by rw [Ch h6]; rfl) (mI bZ cj ⟨c,_,lf,a,_,_,_,rfl,v2,ha,aF,h7,h8,uU,gD,hb,q⟩)))
 ·refine eB (by rw [Ch bu]; rfl) ?_;right;have hf:S'={ S with step:=S.step+1 }/\o=some (.fail "flat"):=by
   cases hp with
   | flat h1 h2 h3=>exact ⟨rfl,rfl⟩
   | fZ h1 h2 h3 h4=>rw [aF] at h2; cases h2; exact absurd h3 bu
   | dot hA=>have h2:=hA.e; rw [aF] at h2; cases h2; exact absurd hA.k bu
   | up hA=>have h2:=hA.e; rw [aF] at h2; cases h2; exact absurd hA.k bu
   | go hA=>have h2:=hA.e; rw [aF] at h2; cases h2; exact absurd hA.k bu
  obtain ⟨rfl,rfl⟩:=hf;exact (mI bx c9 ⟨c,_,lf,rfl,v1,q⟩)
def BO (c:Nat):∀ (ns:List Str) (n:Nat),(∀ s∈ns,s.length<=8)->ns.foldl (fun n z=>n+z.length+c) n<=n+(8+c) * ns.length
 | [],n,_=>by simp
 | y::r,n,h=>by
  have h1:=h y (by simp);have h2:=BO c r (n+y.length+c) fun s hs=>h s (by simp [hs]);rw [List.foldl_cons,Os,Nat.mul_add];omega
def P0 {ns:List Str} (h:∀ s∈ns,s.length<=8) (hl:ns.length<=100):ns.foldl (fun n z=>n+z.length+(Str.ofString "/").length) 0<=900/\(Str.join (Str.ofString "/") ns).length<=900:=by
 have lj:(Str.ofString "/").length=1:=by decide +kernel
 have h1:=BO 1 ns 0 h;have h2:=StrLaws.join_length_le (Str.ofString "/") ns;have h3:(ns.map (·.length)).sum<=8 * ns.length:=by
  clear h1 h2 hl
  induction ns with
  | nil=>simp
  | cons y r ih =>
   have:=ih fun s hs=>h s (by simp [hs]);have h4:=h y (by simp);rw [Ix,List.sum_cons,Os];omega
 rw [lj] at h2 ⊢;omega
def yO (ns:List Str):Str:=Str.ofString "/" ++ Str.join (Str.ofString "/") ns
def Pz (N:Cn):Sp:=ij fun x H Q _=>X9 fun c S lf (f:Nat) (a:Ta) (t:Th) (ns:List Str) (cF:List Str) (told:V)=>A9 (c.x=x) (aW N c S H lf told) (c.L[S.here]?=some a) (c.M.ts[S.here]?=some t) (t.kd=("folder" : Str)/\f=S.here/\cF=[]\/t.kd≠("folder" : Str)/\∃ nm:Str,S.place=some (f,nm)/\cF=[nm]/\nm.length<=8) (∃ m,jG c.M c.L c.root m f ns) (ns.length<=99) (∀ s∈ns,s.length<=8) (∀ H',ai H H'->Q (.str (yO (ns++cF))) H')
def Xm:T.rk.k P w mg base 7 (Pz T.cn):=by
 refine T.rk.F.ok rT (fun _ _ _ _ h=>da h fun _ _=>rfl) fun ag A outer s H vs Q E hr h=>da h fun x h=>?_;obtain ⟨c,S,lf,f,a,t,ns,cF,told,rfl,v,ha,aF,hk,eK,hl100,hn8,q⟩:=h;refine bK (b:=aV DG) ((ap (dl 1 rT.nd (li am))
 (ap (dl 2 rT.nd (bn T.aG T.fo (ad 0)))
 (ap (em (im ki (ge T.aN T.iN.h (vQ T) hr.m T.iN.b .nil az (bn T.aG T.fz (ad 0)) (al (bn T.aG T.fo (ad 0)) am)) (mo (.str "folder") T.we ⟨_,rfl⟩)) (ap (dl 2 rT.nd (ii (bP (K:=K) rfl) (bn T.aG T.vH (ad 0)) bv))
 (bi (dl 1 rT.nd (li (al (ii (bP (K:=K) rfl) (bn T.aG T.vH (ad 0)) bv) am))))) gl)
 (bi (cr (io fT ci (tz _Q _R (ve (K:=K) rfl) ci (al (io fT (db (RE T) hr.m T.pF.m T.pF.F.kp T.pF.b .nil az (al (bn T.aG T.fz (ad 0)) (al (bn T.aG T.uk (ad 0)) (al (ad 2) am)))) (ad 1)) am))))))))) ?_
 refine stI [some (V.ref c.x),none,none] ?_;right;refine ⟨fits (by simp),fun ln xN=>?_⟩;refine fX (o:=.lst []) xN fun H1 s1 b1=>?_;have v1:=v.same s1;obtain ⟨fs,pv,hx,bf,Of,sf⟩:=v1.o;obtain ⟨jO,hc,hh,qR,g9⟩:=v1.m.h;right;refine (fI hx sf rfl ?_);refine jY (fun σ' H'=>∃ ln',σ'=[some (V.ref c.x),some (V.ref ln'),some (V.int (f:Int))]/\ai H H'/\H' ln'=some (.lst (cF.map V.str))/\cF.length<=1/\∀ s∈cF,s.length<=8) ?_ ?_
 ·left;refine (fI hx sf rfl (mI hh g9 (fI hx sf rfl ⟨c.A,c.L,c.M,S.here,a,t,v1.m,rfl,rfl,ha,aF,?_⟩)));simp only [vA];rcases hk with ⟨bu,rfl,rfl⟩ | ⟨bu,nm,bw,rfl,bX⟩
  ·refine dq (by rw [Go bu]; rfl) ?_;exact ⟨ln,rfl,s1,b1,by simp,fun s hs=>(by cases hs)⟩
  ·refine eB (by rw [Ch bu]; rfl) ?_;rw [bw] at Of;obtain ⟨p,rfl,p0,hp⟩:=Of;right;refine (fI hx sf rfl ?_);simp only [bH,hp,gz];refine (fI hx sf rfl ?_);simp only [hp,wN];exact ⟨fits (by simp),fun p2 fK=>⟨p2,rfl,s1.trans (ai.upd fK),by rw [aw]; rfl,by simp,fun s hs=>by rw [KM.mp hs]; exact bX⟩⟩
 rintro σ' H2 ⟨l2,rfl,s2,b2,gP,h8⟩;have v2:=v.same s2;obtain ⟨jJ,oR,bZ,i0,cj⟩:=v2.fld;left;refine (fI bZ cj rfl (fI bZ cj rfl ⟨c.A,c.L,c.M,f,c.root,ns,v2.m,rfl,rfl,v2.hz,eK,by omega,fun l H3 s3 hl=>?_⟩));have c3:=s3 _ _ b2;simp only [hl,c3];have hn8':∀ s∈ns++cF,s.length<=8:=fun s hs=>by
  rcases TW.mp hs with hs | hs
  ·exact hn8 s hs
  ·exact h8 s hs
 obtain ⟨qP,xO⟩:=P0 hn8' (by rw [Da]; omega);have lj:(Str.ofString "/").length=1:=by decide +kernel
 refine ⟨fits (by simp only [At]; omega),fun p hp=>?_⟩;refine ⟨_,aD.of aw,ns++cF,by simp,?_⟩;exact ⟨fits (by omega),fits (by omega),q _ ((s2.trans s3).trans (ai.upd hp))⟩
structure Bd (S:Ws):Prop where
 a:S.asked.length<=S.step
 p:S.step+S.left.length+125 * (40 - S.read)<=8000
 r:S.bB.length<=S.read
 q:S.read<=40
def Au (ps:List Str):(cm ps).length=ps.length:=by unfold cm; simp
def uz.bd {c:Wd} {S S':Ws} {k:Nat} (h:uz c S k S') (a:S.asked.length<=S.step) (p:S.step+S.left.length+125 * (40 - S.read)<=8000) (r:S.bB.length<=S.read) (q:S.read < 40):Bd S':=by
 cases h with
 | @mk _ _ t _ _ _ _ h1 h2 h3 h4 h5 h6 h7 _ _ _ =>
  have e:=Au (dJ t);refine ⟨a,?_,by unfold iS; simp; omega,by unfold iS; simp; omega⟩;unfold iS;simp only [Da,Os,_M,e];omega
def dU.bd0 {c:Wd} {S S1:Ws} {p:Str} {o:Option Tl} (ba:S.asked.length<=S.step) (bp:S.step+1+S.left.length+125 * (40 - S.read)<=8000) (br:S.bB.length<=S.read) (bq:S.read<=40) (h:dU c S p S1 o):Bd S1:=by
 cases h with
 | flat=>exact ⟨by dsimp only; omega,by dsimp only; omega,br,bq⟩
 | fZ=>exact ⟨by unfold cW; simp; omega,by unfold cW; dsimp only; omega,br,bq⟩
 | dot=>exact ⟨by unfold cW; simp; omega,by unfold cW; dsimp only; omega,br,bq⟩
 | up=>exact ⟨by unfold cW; simp; omega,by unfold cW; dsimp only; omega,br,bq⟩
 | go _ _ _ _ _ hb =>
  have a2:(cW S).asked.length<=(cW S).step:=by unfold cW; simp; omega
  have p2:(cW S).step+(cW S).left.length+125 * (40 - (cW S).read)<=8000:=by unfold cW; dsimp only; omega
  cases hb with
  | no=>exact ⟨a2,p2,br,bq⟩
  | folder=>exact ⟨a2,p2,br,bq⟩
  | fin=>exact ⟨a2,p2,br,bq⟩
  | lead _ _ _ _ _ _ hm =>
   cases hm with
   | ring=>exact ⟨a2,p2,br,bq⟩
   | many=>exact ⟨a2,p2,br,bq⟩
   | read _ h40 hr=>exact hr.bd a2 p2 br (Nat.lt_of_le_of_ne bq h40)
def dU.bd {c:Wd} {S S1:Ws} {l:List (Sum Nat Str)} {p:Str} {o:Option Tl} (b:Bd S) (e:S.left=l++[.inr p]) (h:dU c { S with left:=l } p S1 o):Bd S1:=by
 have bp:=b.p;rw [e,Da] at bp;have e1:[Sum.inr (α:=Nat) p].length=1:=rfl;exact dU.bd0 (S:={ S with left:=l }) b.a (by dsimp only; omega) b.r b.q h
inductive dG (c:Wd):Nat->Ws->Ws->Option Tl->Prop
 | done {S}:S.left=[]->dG c 0 S S none
 | pop {n S k l r j S' o}:S.left=l++[.inl k]->S.bB=r++[j]->dG c n { S with left:=l,bB:=r } S' o->dG c (n+1) S S' o
 | step {n S p l S1 S' o}:S.left=l++[.inr p]->dU c { S with left:=l } p S1 none->dG c n S1 S' o->dG c (n+1) S S' o
 | fail {S p l S1 y}:S.left=l++[.inr p]->dU c { S with left:=l } p S1 (some y)->dG c 0 S S1 (some y)
abbrev Cv (k:Nat) (ns:List Str):List (Str×V):=ay "way" (.str (yO ns)) (ay "number" (.int (k:Int)) [])
def vt (M:Hs) (L:List Ta) (root:Nat) (S:Ws) (ns cF:List Str):Prop:=∃ (f:Nat) (a:Ta) (t:Th),L[S.here]?=some a/\M.ts[S.here]?=some t /\
   (t.kd=("folder" : Str)/\f=S.here/\cF=[]\/t.kd≠("folder" : Str)/\∃ nm:Str,S.place=some (f,nm)/\cF=[nm]/\nm.length<=8)/\(∃ m,jG M L root m f ns)/\ns.length<=99/\(∀ s∈ns,s.length<=8)
def Pb (N:Cn):Sp:=ij fun x H Q _=>X6 fun c S lf n S' o=>A6 (c.x=x) (aW N c S H lf .au) (Bd S) (dG c.toWd n S S' o) (∀ y,o=some y->∀ fd H',aW N c S' H' lf (.ref fd)->sS N c.H0 H' S'.step fd y->Q .au H') (o=none->∃ ns cF,vt c.M c.L c.root S' ns cF/\∀ fd aP H',aW N c S' H' lf (.ref fd)->c.H0 fd=none->H' fd=some (.ins N.CG aP (Cv S'.here (ns++cF)))->Q .au H')
def Wf:T.tQ.k P w mg base 11 (Pb T.cn):=by
 refine T.tQ.F.ok Kf (fun _ _ _ _ h=>da h fun _ _=>rfl) fun ag A outer s H vs Q E hr h=>da h fun x h=>?_;obtain ⟨c,S,lf,n,S',o,rfl,v,fL,jR,q1,q2⟩:=h;refine bK (b:=aV Bg) ((ap (Dv.sG _O (sB (Dv.w_and (im tE (bn T.aG T.mH (ad 0)) ul) (Dv.Ba (im (GZ (K:=K) rfl hr.pe) (bn T.aG T.nF (ad 0)) (li am))))) (ap (dl 1 Kf.nd (Dv.yB PySem.F.slot_list_pop PySem.F.type_list_pop GI (bn T.aG T.nF (ad 0))))
 (bi (em (jp (db (KZ T) hr.m T.jU.m T.jU.F.kp T.jU.b .nil az (al (ad 1) am))) (bi (dL (Dv.yB PySem.F.slot_list_pop PySem.F.type_list_pop GI (bn T.aG T.o7 (ad 0))))) (bi (dL (ge T.aG T.tq.h (Vg T) hr.m T.tq.b .nil az (ad 0) (al (ad 1) am))))))))
 (bi (em (im tE (bn T.aG T.mH (ad 0)) ul) (bi (f8 T.aG T.mH (ad 0) (xL T.TH (Vt T) hr.m T.vN T.rN.b .nil az (al (bn T.aG T.fo (ad 0)) (al (Dv.sC T.aG T.rk.h (Xm T) hr.m T.rk.b .nil az (ad 0)) am))))) gl)))) ?_
 refine stI [some (V.ref c.x),none] ?_;obtain ⟨PV,lQ⟩:∃ PV:Nat->St->Hp->Prop,PV=fun m σ' H'=>∃ pv:Option V,σ'=[some (V.ref c.x),pv] /\
   ((∃ n S,m=n+1/\aW T.cn c S H' lf .au/\Bd S/\dG c.toWd n S S' o) \/
     (∃ y fd,m=0/\o=some y/\aW T.cn c S' H' lf (.ref fd)/\sS T.cn c.H0 H' S'.step fd y)):=⟨_,rfl⟩
 refine ah ?_;refine ⟨PV,⟨n+1,by rw [lQ]; exact ⟨none,rfl,.inl ⟨n,S,rfl,v,fL,jR⟩⟩⟩,?_⟩;clear v fL jR;intro m σ' H' hI;rw [lQ] at hI;obtain ⟨pv,rfl,⟨n,S,hm,v1,fL,jR⟩ | ⟨y,fd,hm,ho,v1,aS⟩⟩:=hI
 ·left;obtain ⟨iE,xS,bx,iY,c9⟩:=v1.fld;refine (fI bx c9 rfl ⟨by trivial,bL ?_⟩);refine (fI bx c9 rfl ⟨fits (by simp),fun d hd=>?_⟩);have v2:=v1.same (ai.upd (o:=.lst []) hd);have b2:upd H' d (.lst []) d=some (.lst []):=aw;generalize upd H' d (.lst [])=H2 at v2 b2 ⊢;obtain ⟨jJ,oR,bZ,i0,cj⟩:=v2.fld;refine ⟨_,[],aD.of v2.ol,aD.of b2,.inl ⟨rfl,?_⟩⟩;cases jR with
  | done hle =>
   refine dq (by rw [hle]; rfl) ?_;refine (fI bZ cj rfl ⟨by trivial,bL ?_⟩);obtain ⟨ns,cF,⟨f,a,t,h1,h2,h3,h4,h5,h6⟩,q⟩:=q2 rfl;refine (fI bZ cj rfl (mI bZ cj ⟨c,_,lf,f,a,t,ns,cF,_,rfl,v2,h1,h2,h3,h4,h5,h6,fun H3 s3=>?_⟩));intro fd aP aS hdfd nfd;have s4:=(ai.upd (o:=.own fd) hdfd).trans (ai.upd (p:=fd) (o:=.ins T.dE aP []) (by rw [aj (Fa nfd)]; exact aS));have b4:upd (upd H3 aP (.own fd)) fd (.ins T.dE aP []) fd=some (.ins T.dE aP []):=aw;generalize upd (upd H3 aP (.own fd)) fd (.ins T.dE aP [])=H4 at s4 b4 ⊢;refine ⟨aP,b4,rfl,?_⟩;obtain ⟨xV,oU,hJ,v6,f0,nx⟩:=(v2.same s3).tells (t:=.ring []) (F:=Cv S'.here (ns++cF)) aS s4 b4;exact ⟨c.x,_,_,rfl,oU,hJ,q fd aP _ v6 f0 (by rw [aj (Fa nx)]; exact aw)⟩
  | @pop n _ k l r j _ _ hle hV jR =>
   refine eB (by rw [hle]; cases l <;> rfl) ⟨_,fun _ _ h=>h,?_⟩;right;refine (fI bZ cj rfl ?_);simp only [v2.ol];refine ⟨l.map du,V.int (k:Int),by rw [hle,Tm]; rfl,?_⟩;have v3:=v2.sj l;generalize upd H2 lf (.lst (l.map du))=H3 at v3 ⊢;obtain ⟨i5,oN,dZ,g7,eM⟩:=v3.fld;refine ⟨⟨_,rfl⟩,bL ?_⟩;refine (fI dZ eM rfl ?_);simp only [v3.od];refine ⟨nV r,V.int (j:Int),by rw [hV,nT]; rfl,n+1,by omega,?_⟩;have v4:=v3.GD r;dsimp only at v4;rw [lQ];have ba:=fL.a; have bp:=fL.p; have br:=fL.r; have bq:=fL.q;rw [hle,Da] at bp;rw [hV,Da] at br;exact ⟨_,rfl,.inl ⟨n,_,rfl,v4,⟨ba,by dsimp only; omega,by dsimp only; omega,bq⟩,jR⟩⟩
  | @step n _ p l S1 _ _ hle aU jR =>
   refine eB (by rw [hle]; cases l <;> rfl) ⟨_,fun _ _ h=>h,?_⟩;right;refine (fI bZ cj rfl ?_);simp only [v2.ol];refine ⟨l.map du,V.str p,by rw [hle,Tm]; rfl,?_⟩;have v3:=v2.sj l;generalize upd H2 lf (.lst (l.map du))=H3 at v3 ⊢;obtain ⟨i5,oN,dZ,g7,eM⟩:=v3.fld;refine ⟨⟨_,rfl⟩,bc ?_⟩;have ba:=fL.a; have bp:=fL.p; have br:=fL.r; have bq:=fL.q;rw [hle,Da] at bp;refine (mI dZ eM ⟨c,_,lf,_,_,rfl,v3,by dsimp only; omega,by dsimp only; omega,by dsimp only; omega,aU,fun _ H4 v4=>⟨n+1,by omega,?_⟩,fun y hy=>by cases hy⟩);rw [lQ];exact ⟨_,rfl,.inl ⟨n,S1,rfl,v4,aU.bd fL hle,jR⟩⟩
  | @fail _ p l _ y hle aU =>
   refine eB (by rw [hle]; cases l <;> rfl) ⟨_,fun _ _ h=>h,?_⟩;right;refine (fI bZ cj rfl ?_);simp only [v2.ol];refine ⟨l.map du,V.str p,by rw [hle,Tm]; rfl,?_⟩;have v3:=v2.sj l;generalize upd H2 lf (.lst (l.map du))=H3 at v3 ⊢;obtain ⟨i5,oN,dZ,g7,eM⟩:=v3.fld;refine ⟨⟨_,rfl⟩,bc ?_⟩;have ba:=fL.a; have bp:=fL.p; have br:=fL.r; have bq:=fL.q;rw [hle,Da] at bp;refine (mI dZ eM ⟨c,_,lf,_,_,rfl,v3,by dsimp only; omega,by dsimp only; omega,by dsimp only; omega,aU,(fun z=>by cases z),fun y' hy fd H4 v4 hf=>⟨0,by omega,?_⟩⟩);cases hy;rw [lQ];exact ⟨_,rfl,.inr ⟨y,fd,rfl,rfl,v4,hf⟩⟩
 ·left;obtain ⟨iE,xS,bx,iY,c9⟩:=v1.fld;refine (fI bx c9 rfl ⟨by trivial,?_⟩);refine dq (Ch (by nofun)) ?_
  first
   | exact (fI bx c9 rfl ⟨by trivial,dq (Ch (by nofun)) (q1 y ho fd _ v1 aS)⟩)
   | exact bc (fI bx c9 rfl ⟨by trivial,dq (Ch (by nofun)) (q1 y ho fd _ v1 aS)⟩)
   | (left; exact (fI bx c9 rfl ⟨by trivial,dq (Ch (by nofun)) (q1 y ho fd _ v1 aS)⟩))
inductive Res
 | found (k:Nat) (ns:List Str)
 | failed (k:Nat) (y:Str)
 | ring (ns:List Nat)
structure End where
 asked:List Nat
 res:Res
def gm (N:Cn) (H0 H:Hp) (fd:Addr):Res->Prop
 | .found k ns=>∃ aP,H fd=some (.ins N.CG aP (Cv k ns))
 | .failed k y=>∃ aP,H fd=some (.ins N.CF aP (vk k y))
 | .ring ns=>∃ aP rl,H fd=some (.ins N.CR aP (ay "leads" (.ref rl) []))/\H rl=some (.lst (nV ns))/\H0 rl=none
def gm.same {N:Cn} {H0 H H':Hp} {fd:Addr} (s:ai H H'):∀ {r:Res},gm N H0 H fd r->gm N H0 H' fd r
 | .found _ _,⟨d,e⟩=>⟨d,s _ _ e⟩
 | .failed _ _,⟨d,e⟩=>⟨d,s _ _ e⟩
 | .ring _,⟨d,l,e,f,g⟩=>⟨d,l,s _ _ e,s _ _ f,g⟩
def tU {H H':Hp} {x:Addr} (s:ai H H') (h:H' x=none):H x=none:=by
 cases e:H x with
 | none=>rfl
 | some o=>rw [s _ _ e] at h; cases h
def gm.fr {N:Cn} {H0 H1 H:Hp} {fd:Addr} (s:ai H0 H1):∀ {r:Res},gm N H1 H fd r->gm N H0 H fd r
 | .found _ _,e=>e
 | .failed _ _,e=>e
 | .ring _,⟨d,l,e,f,g⟩=>⟨d,l,e,f,tU s g⟩
def Bk (step:Nat):Tl->Res
 | .fail y=>.failed step y
 | .ring ns=>.ring ns
def sS.r {N:Cn} {H0 H:Hp} {k:Nat} {fd:Addr}:∀ {t:Tl},sS N H0 H k fd t->gm N H0 H fd (Bk k t)
 | .fail _,⟨_,d,e⟩=>⟨d,e⟩
 | .ring _,⟨_,d,l,e,f,g⟩=>⟨d,l,e,f,g⟩
structure pK (d:Wd) (fr:Bool) (h:Nat):Prop where
 z:aM (sD d.M.ro) (.inr d.z)=some (.int (d.root:Int))
 ex:∃ (st b:Nat) (r:List Nat) (a:Ta) (t:Th),(fr=true/\st=d.root\/fr=false/\aM (sD d.M.st) (.inr d.z)=some (.int (st:Int)))/\d.L[st]?=some a/\d.M.ts[st]?=some t/\dv d.M st b r/\(∃ m,kx d.M d.L d.root m (dB b r) true)/\h=dB b r
inductive cL (d:Wd) (fr:Bool) (ps:List Str):End->Prop
 | told {h n S' t}:pK d fr h->ps.length<=2500->dG d n ⟨h,none,0,[],cm ps,[],0,0⟩ S' (some t)->cL d fr ps ⟨S'.asked,Bk S'.step t⟩
 | found {h n S' ns cF}:pK d fr h->ps.length<=2500->dG d n ⟨h,none,0,[],cm ps,[],0,0⟩ S' none->vt d.M d.L d.root S' ns cF->cL d fr ps ⟨S'.asked,.found S'.here (ns++cF)⟩
def rO (N:Cn) (H H':Hp) (e:End) (x:Addr):Prop:=ai H H'/\∃ dx gs fd av,H' x=some (.ins N.CW dx gs)/\gs.lookup ("told" : Str)=some (.ref fd)/\gm N H H' fd e.res/\gs.lookup ("asked" : Str)=some (.ref av)/\H' av=some (.lst (nV e.asked))
def rO.of {N:Cn} {H H1 H2:Hp} {e:End} {x:Addr} (s:ai H H1) (h:rO N H1 H2 e x):rO N H H2 e x:=⟨s.trans h.1,let ⟨dx,gs,fd,av,a,b,c,d⟩:=h.2; ⟨dx,gs,fd,av,a,b,gm.fr s c,d⟩⟩
def Te (N:Cn):Sp:=KC fun h z fr lp last H Q _=>X6 fun A L M root ps e=>A5 (aJ N.CH N.CS N.CT H A L M) (A.a=h) (H lp=some (.lst (ps.map V.str))) (cL ⟨L,M,z,last,root⟩ fr ps e) (∀ x H',rO N H H' e x->Q (.ref x) H')
def K2:T.ke.k P w base 12 (Te T.cn):=by
 refine T.ke.F.ok GA (fun _ _ _ _ h=>KS h fun _ _ _ _ _ _=>rfl) fun ag A outer s H vs Q E hr h=>KS h fun hh z fr lp last h=>?_;obtain ⟨AA,L,M,root,ps,e,i,rfl,oS,g,q⟩:=h;obtain ⟨ng,bz,hb,jf,n,S',o,jR,f1,f2⟩:∃ h,aM (sD M.ro) (.inr z)=some (.int (root:Int))/\pK ⟨L,M,z,last,root⟩ fr h/\ps.length<=2500/\∃ n S' o,dG ⟨L,M,z,last,root⟩ n ⟨h,none,0,[],cm ps,[],0,0⟩ S' o/\(∀ y,o=some y->e=⟨S'.asked,Bk S'.step y⟩)/\(o=none->∃ ns cF,vt M L root S' ns cF/\e=⟨S'.asked,.found S'.here (ns++cF)⟩):=by
  cases g with
  | told b hp hr=>exact ⟨_,b.z,b,hp,_,_,_,hr,fun y hy=>(by cases hy; rfl),fun z=>(by cases z)⟩
  | found b hp hr ht=>exact ⟨_,b.z,b,hp,_,_,_,hr,fun y hy=>(by cases hy),fun _=>⟨_,_,ht,rfl⟩⟩
 obtain ⟨st,b,r,a,t,aU,ha,ht,uF,Fv,rfl⟩:=hb.ex;refine bK (b:=aV yF) ((ap (dl 5 GA.nd (xL T.Uj (T8 T) hr.m T.Xs T.ur.b .nil az (al (ad 0) (al (ad 1) (al (ad 4) am)))))
 (ap (dL (ge T.aG T.rn.h (U8 T) hr.m T.rn.b .nil az (ad 5) (al (ad 2) (al (ad 3) am))))
 (ap (dL (Dv.sC T.aG T.tQ.h (Wf T) hr.m T.tQ.b .nil az (ad 5)))
 (bi (cr (ad 5))))))) ?_
 refine stI [some (V.ref AA.a),some (V.str z),some (V.bl fr),some (V.ref lp),some (V.bl last),none] ?_;right;intro x dx hx lS ndx;have s1:=(ai.upd (o:=.own x) lS).trans (ai.upd (p:=x) (o:=.ins T.bg dx []) (by rw [aj (Fa ndx)]; exact hx));have b1:upd (upd H dx (.own x)) x (.ins T.bg dx []) x=some (.ins T.bg dx []):=aw;generalize upd (upd H dx (.own x)) x (.ins T.bg dx [])=H1 at s1 b1 ⊢;refine ⟨AA,L,M,dx,H,root,i,rfl,b1,s1,hx,bz,fun av lf rd H2 v2=>?_⟩;refine ⟨rfl,ah ?_⟩;left;obtain ⟨jJ,oR,bZ,i0,cj⟩:=v2.fld;refine (mI bZ cj ⟨_,_,lf,st,b,ps,r,a,t,true,rfl,v2,v2.s _ _ oS,aU,ha,ht,uF,Fv,fun _ lf' H3 v3=>ah ?_,fun z=>by cases z⟩);left;obtain ⟨i5,oN,dZ,g7,eM⟩:=v3.fld;refine (mI dZ eM ⟨_,_,lf',n,S',o,rfl,v3,⟨GT _,by have:=Au ps; dsimp only; omega,GT _,GT _⟩,jR,fun y hy fd H4 v4 aS=>?_,fun ho=>?_⟩)
 ·obtain ⟨qU,N2,i9,oH,oP⟩:=v4.fld;have he:=f1 y hy;exact q x H4 ⟨v4.s,dx,qU,fd,av,i9,(oP _).trans rfl,by rw [he]; exact aS.r,(oP _).trans rfl,by rw [he]; exact v4.oa⟩
 ·obtain ⟨ns,cF,ht,he⟩:=f2 ho;refine ⟨ns,cF,ht,fun fd aP H4 v4 f0 aS=>?_⟩;obtain ⟨qU,N2,i9,oH,oP⟩:=v4.fld;exact q x H4 ⟨v4.s,dx,qU,fd,av,i9,(oP _).trans rfl,by rw [he]; exact ⟨aP,aS⟩,(oP _).trans rfl,by rw [he]; exact v4.oa⟩
structure fq (d:Wd) (t:List Nat) (e:End):Prop where
 l1:1<=t.length
 l2:t.length<=2000
 all:(Tx.words 47 t).all b9=true
 g:cL d (bV t) (dJ t) e
def fq.hz {d:Wd} {t:List Nat} {e:End} (p:fq d t e):(aM (sD d.M.ro) (.inr d.z)).isSome=true:=by
 cases p.g with
 | told b=>rw [b.z]; rfl
 | found b=>rw [b.z]; rfl
def ZD (N:Cn):Sp:=vO fun h z pt last H Q _=>X6 fun A L M root t e=>A5 (pt=Tx.S t) (aJ N.CH N.CS N.CT H A L M) (A.a=h) (fq ⟨L,M,z,last,root⟩ t e) (∀ x H',rO N H H' e x->Q (.ref x) H')
def Ko:T.ly.k P w base 13 (ZD T.cn):=by
 refine T.ly.F.ok FX (fun _ _ _ _ h=>pz h fun _ _ _ _ _=>rfl) fun ag A outer s H vs Q E hr h=>pz h fun hh z pt last h=>?_;obtain ⟨AA,L,M,root,t,e,rfl,i,rfl,pg,q⟩:=h;obtain ⟨jO,hc,hh,qR,g9⟩:=i.h;refine bK (b:=aV AQ) ((ap (dL (pc T.aN T.dY.h (kD T) hr.m T.dY.b .nil dC (ad 0) (al (ad 1) am)))
 (ap (dl 4 FX.nd (db (jC T) hr.m T.cq.m T.cq.F.kp T.cq.b .nil az (al (ad 2) am)))
 (bi (cr (db (K2 T) hr.m T.ke.m T.ke.F.kp T.ke.b .nil az (al (ad 0) (al (ad 1) (al (ii (bP (K:=K) rfl) (ad 4) bv) (al (ii (bP (K:=K) rfl) (ad 4) bv) (al (ad 3) am))))))))))) ?_
 refine stI [some (V.ref AA.a),some (V.str z),some (V.str (Tx.S t)),some (V.bl last),none] ?_;right;refine (mI hh g9 (my i pg.hz (ah ?_)));left;refine ⟨t,rfl,pg.l1,pg.l2,pg.all,fun H1 l p s1 _ hl hp=>?_⟩;simp only [bH,hp];left;rw [show cM [V.bl (bV t),V.ref l] 0=some (V.bl (bV t)) from rfl,show cM [V.bl (bV t),V.ref l] 1=some (V.ref l) from rfl];rw [Hb] at hl;exact ⟨AA,L,M,root,_,e,i.same s1,rfl,hl,pg.g,fun x H2 f=>q x H2 (f.of s1)⟩
def WE (N:Cn):Sp:=vO fun h z pt last H Q _=>X6 fun A L M root t e=>A5 (pt=Tx.S t) (aJ N.CH N.CS N.CT H A L M) (A.a=h) (fq ⟨L,M,z,last,root⟩ t e) (∀ fd H',ai H H'->gm N H H' fd e.res->Q (.ref fd) H')
def Kw:aB P w K mg base aI 14 T.FU T.yk ["house","asker","path","last"] (WE T.cn):=by
 refine T.tR.ok QL (fun vs H Q E h=>?_) (fun ag A outer s H vs Q E hr h=>?_)
 ·exact pz h fun _ _ _ _ _=>rfl
 ·refine pz h fun hh z pt last h=>?_;obtain ⟨AA,L,M,root,t,e,rfl,i,rfl,pg,q⟩:=h;refine bK (b:=aV sQ) ((bi (cr (bn T.aG T.mH (db (Ko T) hr.m T.ly.m T.ly.F.kp T.ly.b .nil az (al (ad 0) (al (ad 1) (al (ad 2) (al (ad 3) am))))))))) ?_;refine stI [some (V.ref AA.a),some (V.str z),some (V.str (Tx.S t)),some (V.bl last)] ?_;left;refine ⟨AA,L,M,root,t,e,rfl,i,rfl,pg,fun x H1 ⟨s1,dx,gs,fd,av,hx,xF,aS,qe,jI⟩=>?_⟩;exact ⟨x,_,_,_,rfl,hx,xF,q fd H1 s1 aS⟩
def S0 (N:Cn):Sp:=vO fun h z pt last H Q _=>X6 fun A L M root t e=>A5 (pt=Tx.S t) (aJ N.CH N.CS N.CT H A L M) (A.a=h) (fq ⟨L,M,z,last,root⟩ t e) (∀ av H',ai H H'->H' av=some (.lst (nV e.asked))->Q (.ref av) H')
def OP:aB P w K mg base aI 14 T.DZ T.yv ["house","asker","path","last"] (S0 T.cn):=by
 refine T.xm.ok YH (fun vs H Q E h=>?_) (fun ag A outer s H vs Q E hr h=>?_)
 ·exact pz h fun _ _ _ _ _=>rfl
 ·refine pz h fun hh z pt last h=>?_;obtain ⟨AA,L,M,root,t,e,rfl,i,rfl,pg,q⟩:=h;refine bK (b:=aV se) ((bi (cr (bn T.aG T.yH (db (Ko T) hr.m T.ly.m T.ly.F.kp T.ly.b .nil az (al (ad 0) (al (ad 1) (al (ad 2) (al (ad 3) am))))))))) ?_;refine stI [some (V.ref AA.a),some (V.str z),some (V.str (Tx.S t)),some (V.bl last)] ?_;left;refine ⟨AA,L,M,root,t,e,rfl,i,rfl,pg,fun x H1 ⟨s1,dx,gs,fd,av,hx,xF,aS,qe,jI⟩=>?_⟩;exact ⟨x,_,_,_,rfl,hx,qe,q av H1 s1 jI⟩
inductive Rf
 | cK (y:Str)
 | way (r:Res)
def dS (N:Cn) (H:Hp) (E:XK):Rf->Prop
 | .cK y=>∀ d H',ai H H'->H' d=some (.xd [("reason",.str y)])->E (.ref N.CD) (some d) H'
 | .way r=>∀ fd d H',ai H H'->gm N H H' fd r->H' d=some (.xd [("told",.ref fd)])->E (.ref N.CN) (some d) H'
def dS.of {N:Cn} {H H1:Hp} {E:XK} {r:Rf} (s:ai H H1) (h:dS N H E r):dS N H1 E r:=by
 cases r with
 | cK y=>exact fun d H' s' e=>h d H' (s.trans s') e
 | way k=>exact fun fd d H' s' e1 e2=>h fd d H' (s.trans s') (gm.fr s e1) e2
def dS.raise {N:Cn} {H H1:Hp} {E:XK} {y:Str} {d:Addr} (h:dS N H E (.cK y)) (s:ai H H1) (hd:H1 d=none):E (.ref N.CD) (some d) (upd H1 d (.xd [("reason",.str y)])):=h d _ (s.trans (ai.upd hd)) aw
def Ak:T.nB.k P w mg base 1 (mx T.eU "reason"):=by
 refine T.nB.F.ok aaS (fun vs H Q E h=>?_) (fun ag A outer s H vs Q E hr h=>?_)
 ·unfold mx at h;split at h
  ·rfl
  ·exact h.elim
 ·unfold mx at h;split at h
  ·rename_i ea y;obtain ⟨he,q⟩:=h;refine ⟨_,((bi (Dv.Hk T.sy (ad 0) (ad 1)))).h,?_⟩;refine stI [some (.ref ea),some y] ?_;walk_at "rd";exact ⟨ea,rfl,he,q⟩
  ·exact h.elim
def S8:T.rB.k P w mg base 1 (mx T.eT "told"):=by
 refine T.rB.F.ok O6 (fun vs H Q E h=>?_) (fun ag A outer s H vs Q E hr h=>?_)
 ·unfold mx at h;split at h
  ·rfl
  ·exact h.elim
 ·unfold mx at h;split at h
  ·rename_i ea y;obtain ⟨he,q⟩:=h;refine ⟨_,((bi (Dv.Hk T.An (ad 0) (ad 1)))).h,?_⟩;refine stI [some (.ref ea),some y] ?_;walk_at "rd";exact ⟨ea,rfl,he,q⟩
  ·exact h.elim
def ZT (N:Cn):Sp:=ij fun fd H Q E=>X2 fun r H0=>A4 (ai H0 H) (gm N H0 H fd r) (∀ k ns,r=.found k ns->Q (.int (k:Int)) H) ((∀ k ns,r≠.found k ns)->dS N H0 E (.way r))
def JZ:aB P w K mg base (bj P w) 3 T.kZ.f T.kZ.d ["told"] (ZT T.cn):=by
 refine T.kZ.F.eg SK (fun _ _ _ _ h=>da h fun _ _=>rfl) fun ag A outer s H vs Q E hr h=>da h fun fd h=>?_;obtain ⟨r,H0,s0,aS,q1,q2⟩:=h;refine bK (b:=aV zi) ((ap (em (lv (jp (kt (tP (K:=K) rfl) T.gu gC (al (ad 0) (al (mo (.ref T.dE) T.vN rfl) am))))) (bi (Dv.wz xj rfl rfl T.KJ T.An T.XA (S8 T) hr.m T.rB.b (al (ad 0) am))) gl)
 (bi (cr (bn T.lb T.v9 (ad 0)))))) ?_
 refine stI [some (V.ref fd)] ?_;right;cases r with
 | found k ns =>
  obtain ⟨aP,hf⟩:=aS;exact ⟨_,_,_,.of (.ins hf T.lb T.q1 T.q2 T.q3 T.q4),.cls T.q5,bc ⟨fd,aP,_,_,rfl,hf,rfl,q1 k ns rfl⟩⟩
 | failed k y =>
  obtain ⟨aP,hf⟩:=id aS;exact ⟨_,_,_,.of (.ins hf T.kR T.q6 T.q2 T.q3 T.q7),.cls T.q8,bL ⟨_,rfl,fun d hd=>q2 (by nofun) fd d _ (s0.trans (ai.upd hd)) (aS.same (ai.upd hd)) aw⟩⟩
 | ring ns =>
  obtain ⟨aP,rl,hf,hl,_⟩:=id aS;exact ⟨_,_,_,.of (.ins hf T.jV T.sx T.q2 T.q3 T.ua),.cls T.C3,bL ⟨_,rfl,fun d hd=>q2 (by nofun) fd d _ (s0.trans (ai.upd hd)) (aS.same (ai.upd hd)) aw⟩⟩
def TC (N:Cn):Sp:=mR fun h z pt H Q E=>X6 fun A L M root t e=>A6 (pt=Tx.S t) (aJ N.CH N.CS N.CT H A L M) (A.a=h) (fq ⟨L,M,z,true,root⟩ t e) (∀ k ns,e.res=.found k ns->∀ H',ai H H'->Q (.int (k:Int)) H') ((∀ k ns,e.res≠.found k ns)->dS N H E (.way e.res))
def Sr:aB P w K mg base (bj P w) 15 T.pE.f T.pE.d ["house","asker","path"] (TC T.cn):=by
 refine T.pE.F.eg Ss (fun _ _ _ _ h=>gx h fun _ _ _ _=>rfl) fun ag A outer s H vs Q E hr h=>gx h fun hh z pt h=>?_;obtain ⟨AA,L,M,root,t,e,rfl,i,rfl,pg,q1,q2⟩:=h;refine bK (b:=aV B1) ((bi (cr (lm (JZ T) hr.m T.kZ.m T.kZ.F.kp T.kZ.b .nil cS (al (db (Kw T) hr.m T.Iy T.tR.kp T.xo (.cons (show RelV (.bl true) _ from rfl) .nil) az (al (ad 0) (al (ad 1) (al (ad 2) am)))) am))))) ?_;refine stI [some (V.ref AA.a),some (V.str z),some (V.str (Tx.S t))] ?_;left;refine ⟨AA,L,M,root,t,e,rfl,i,rfl,pg,fun fd H1 s1 aS=>?_⟩;exact ⟨e.res,H,s1,aS,fun k ns he=>q1 k ns he H1 s1,q2⟩
inductive dQ (ps:List (List Nat)):Option (List (List Nat)×List Nat)->Prop
 | nil:ps=[]->dQ ps none
 | eO {q nm}:ps=q++[nm]->isNm nm=false->nm.length<=8->dQ ps none
 | BD {q nm}:ps=q++[nm]->isNm nm=true->dQ ps (some (q,nm))
structure eP (t:List Nat):Prop where
 l1:1<=t.length
 l2:t.length<=2000
 all:(Tx.words 47 t).all b9=true
def Rn (N:Cn):Sp:=km fun pt H Q E=>X2 fun t r=>A5 (pt=Tx.S t) (eP t) (dQ (told (Tx.words 47 t) t) r) (∀ x,r=some x->∀ H',ai H H'->Q .au H') (r=none->dS N H E (.cK "dots"))
def wB {w:List Nat} (h:isNm w=true):47 ∉ w/\w≠[]/\1<=w.length/\w.length<=8:=by
 have hp:b9 w=true:=by unfold b9; rw [h]; simp
 obtain ⟨h1,h2,_⟩:=Gb h;exact ⟨(iH hp).1,(iH hp).2.1,h1,h2⟩
def Lp {w:List Nat} {b:Bool} (h:isNm w=b):fE (.str (Tx.S w))=b:=by
 show isNm (Tx.S w).cps.toList=b;rw [Tx.mD]; exact h
def yP {w:List Nat} (h:isNm w=true):fE (.str (Tx.S w))=true:=Lp h
def Gm:aB P w K mg base (bj P w) 4 T.lC.f T.lC.d ["path"] (Rn T.cn):=by
 refine T.lC.F.eg F4 (fun _ _ _ _ h=>fD h fun _ _=>rfl) fun ag A outer s H vs Q E hr h=>fD h fun pt h=>?_;obtain ⟨t,r,rfl,sp,hs,q1,q2⟩:=h;refine bK (b:=aV AX) ((ap (dl 1 F4.nd (ii (bP (K:=K) rfl) (db (jC T) hr.m T.cq.m T.cq.F.kp T.cq.b .nil az (al (ad 0) am)) bv))
 (bi (em (sB (ut (im (Io hr.pe) (ad 1) (li am)) (wn (lv (jp (db (BF T) hr.m T.ia.m T.ia.F.kp T.ia.b .nil az (al (ii (bP (K:=K) rfl) (ad 1) (ww kY bv)) am))))))) (bi (Dv.wz xj rfl rfl T.wA T.sy T.BE (Ak T) hr.m T.nB.b (al ci am))) gl)))) ?_
 refine stI [some (V.str (Tx.S t)),none] ?_;right;refine ⟨t,rfl,sp.l1,sp.l2,sp.all,fun H1 l p s1 _ hl hp=>?_⟩;simp only [bH,hp];rw [show cM [V.bl (bV t),V.ref l] 1=some (V.ref l) from rfl];refine ⟨fits (by simp),fun d hd=>?_⟩;refine fX (o:=.lst []) hd fun H2 s2 b2=>?_;have cy:=s2 _ _ hl;cases hs with
 | nil e =>
  rw [e] at cy;exact ⟨[],[],cy,b2,eB (Go rfl) ⟨_,rfl,fun d' hd'=>(q2 rfl).raise (s1.trans s2) hd'⟩⟩
 | @eO qs nm e hn uU =>
  rw [e] at cy;have js:H2 l=some (.lst (PV qs++[V.str (Tx.S nm)])):=by rw [cy]; simp [PV]
  refine ⟨qs.map Tx.S++[Tx.S nm],[],by rw [js]; simp [PV],b2,?_⟩;rw [Ch (by simp)];refine bc ?_;simp only [js,mS];refine ⟨⟨_,rfl⟩,by show (Tx.S nm).length<=1000; rw [Tx.cw]; omega,fun H3 s3=>?_⟩;rw [Lp hn];exact bL ⟨_,rfl,fun d' hd'=>(q2 rfl).raise ((s1.trans s2).trans s3) hd'⟩
 | @BD qs nm e hn =>
  rw [e] at cy;obtain ⟨h1,h2,h3,h4⟩:=wB hn;have js:H2 l=some (.lst (PV qs++[V.str (Tx.S nm)])):=by rw [cy]; simp [PV]
  refine ⟨qs.map Tx.S++[Tx.S nm],[],by rw [js]; simp [PV],b2,?_⟩;rw [Ch (by simp)];refine bc ?_;simp only [js,mS];refine ⟨⟨_,rfl⟩,by show (Tx.S nm).length<=1000; rw [Tx.cw]; omega,fun H3 s3=>?_⟩;rw [yP hn];exact bc (q1 _ rfl _ ((s1.trans s2).trans s3))
abbrev xi (f:Nat) (nm:List Nat):List (Str×V):=ay "name" (.str (Tx.S nm)) (ay "folder" (.int (f:Int)) [])
inductive gB (d:Wd) (t:List Nat):Sum Rf (Nat×List Nat)->Prop
 | eO:dQ (told (Tx.words 47 t) t) none->gB d t (.inl (.cK "dots"))
 | way {q nm e}:dQ (told (Tx.words 47 t) t) (some (q,nm))->q.length<=900->cL d (bV t) (q.map Tx.S++[("." : Str)]) e->(∀ k ns,e.res≠.found k ns)->gB d t (.inl (.way e.res))
 | vF {q nm e f ns}:dQ (told (Tx.words 47 t) t) (some (q,nm))->q.length<=900->cL d (bV t) (q.map Tx.S++[("." : Str)]) e->e.res=.found f ns->gB d t (.inr (f,nm))
def Zv (N:Cn):Sp:=mR fun h z pt H Q E=>X6 fun A L M root t r=>A7 (pt=Tx.S t) (eP t) (aJ N.CH N.CS N.CT H A L M) (A.a=h) (gB ⟨L,M,z,true,root⟩ t r) (∀ x,r=.inl x->dS N H E x) (∀ f nm,r=.inr (f,nm)->∀ x dx H',H x=none->ai H H'->H' x=some (.ins N.CE dx (xi f nm))->Q (.ref x) H')
def B5:aB P w K mg base (bj P w) 13 T.h9.f T.h9.d ["house","asker","path"] (Zv T.cn):=by
 refine T.h9.F.eg Dn (fun _ _ _ _ h=>gx h fun _ _ _ _=>rfl) fun ag A outer s H vs Q E hr h=>gx h fun hh z pt h=>?_;obtain ⟨AA,L,M,root,t,r,rfl,sp,i,rfl,g,q1,q2⟩:=h;refine bK (b:=aV zt) ((ap (dL (lm (Gm T) hr.m T.lC.m T.lC.F.kp T.lC.b .nil cS (al (ad 2) am)))
 (ap (dl 3 Dn.nd (db (jC T) hr.m T.cq.m T.cq.F.kp T.cq.b .nil az (al (ad 2) am)))
 (ap (dl 4 Dn.nd (db (K2 T) hr.m T.ke.m T.ke.F.kp T.ke.b .nil az (al (ad 0) (al (ad 1) (al (ii (bP (K:=K) rfl) (ad 3) bv) (al (io fT (zn (nR (K:=K) rfl) (ii (bP (K:=K) rfl) (ad 3) bv) Dv.tJ (wE (ww kY bv))) (li (al ci am))) (al ss am)))))))
 (bi (cr (xL T.Vi (Ra T) hr.m T.Q5 T.tu.b .nil az (al (lm (JZ T) hr.m T.kZ.m T.kZ.F.kp T.kZ.b .nil cS (al (bn T.aG T.mH (ad 4)) am)) (al (ii (bP (K:=K) rfl) (ii (bP (K:=K) rfl) (ad 3) bv) (ww kY bv)) am))))))))) ?_
 refine stI [some (V.ref AA.a),some (V.str z),some (V.str (Tx.S t)),none,none] ?_;right;have hs:(r=.inl (.cK "dots")/\dQ (told (Tx.words 47 t) t) none)\/∃ qs nm e,dQ (told (Tx.words 47 t) t) (some (qs,nm))/\qs.length<=900/\cL ⟨L,M,z,true,root⟩ (bV t) (qs.map Tx.S++[("." : Str)]) e/\((∀ k ns,e.res≠.found k ns)->r=.inl (.way e.res))/\∀ f ns,e.res=.found f ns->r=.inr (f,nm):=by
  cases g with
  | eO h=>exact .inl ⟨rfl,h⟩
  | way h1 h2 h3 h4=>exact .inr ⟨_,_,_,h1,h2,h3,fun _=>rfl,fun f ns e=>absurd e (h4 f ns)⟩
  | vF h1 h2 h3 h4=>exact .inr ⟨_,_,_,h1,h2,h3,fun k=>absurd h4 (k _ _),fun f ns e=>by rw [h4] at e; cases e; rfl⟩
 rcases hs with ⟨rfl,hs⟩ | ⟨qs,nm,e,hs,hq,g,r1,r2⟩
 ·exact ⟨t,none,rfl,sp,hs,(fun x e=>by cases e),fun _=>q1 _ rfl⟩
 refine ⟨t,_,rfl,sp,hs,fun x _ H1 s1=>ah ?_,fun e=>by cases e⟩;have he:told (Tx.words 47 t) t=qs++[nm]:=by cases hs; assumption
 left;refine ⟨t,rfl,sp.l1,sp.l2,sp.all,fun H2 l p s2 _ hl hp=>ah ?_⟩;rw [he,show PV (qs++[nm])=PV qs++[V.str (Tx.S nm)] from by simp [PV]] at hl;left;simp only [bH,hp];rw [show cM [V.bl (bV t),V.ref l] 1=some (V.ref l) from rfl,show cM [V.bl (bV t),V.ref l] 0=some (V.bl (bV t)) from rfl]
 try dsimp only
 refine ⟨_,aD.of hl,fun p1 xB=>?_⟩;rw [Bs];refine ⟨fits (by simp),fun p2 fK=>?_⟩;have s3:=(ai.upd (o:=.lst (PV qs)) xB).trans (ai.upd (o:=.lst [V.str (Str.ofString ".")]) fK);have yg:p1≠p2:=aH (aw (o:=.lst (PV qs))) fK;have b3:upd (upd H2 p1 (.lst (PV qs))) p2 (.lst [V.str (Str.ofString ".")]) p1=some (.lst (PV qs)):=by rw [aj yg,aw]
 have b4:upd (upd H2 p1 (.lst (PV qs))) p2 (.lst [V.str (Str.ofString ".")]) p2=some (.lst [V.str (Str.ofString ".")]):=aw;generalize upd (upd H2 p1 (.lst (PV qs))) p2 (.lst [V.str (Str.ofString ".")])=H3 at s3 b3 b4 ⊢;simp only [b3,b4];refine ⟨fits (by simp; omega),fun p3 gW=>?_⟩;have s4:=s3.trans (ai.upd (o:=.lst (PV qs++[V.str (Str.ofString ".")])) gW);have b5:upd H3 p3 (.lst (PV qs++[V.str (Str.ofString ".")])) p3=some (.lst (PV qs++[V.str (Str.ofString ".")])):=aw;generalize upd H3 p3 (.lst (PV qs++[V.str (Str.ofString ".")]))=H4 at s4 b5 ⊢;refine ⟨AA,L,M,root,qs.map Tx.S++[("." : Str)],e,i.same ((s1.trans s2).trans s4),rfl,by rw [b5]; simp [PV],g,?_⟩;rintro x H5 ⟨s5,dx,gs,fd,av,hx,xF,aS,qe,jI⟩;have Oc:=((s1.trans s2).trans s4).trans s5;refine ⟨x,_,_,_,rfl,hx,xF,_,H4,s5,aS,fun k ns hk=>?_,fun hk=>(q1 _ (r1 hk)).of ((s1.trans s2).trans s4)⟩
 ·have yh:=(s4.trans s5) _ _ hp;have hJ:=(s4.trans s5) _ _ hl;simp only [yh];rw [show cM [V.bl (bV t),V.ref l] 1=some (V.ref l) from rfl];simp only [hJ,mS]
  try dsimp only
  intro y dy hy hdy ndy;refine ⟨dy,aw,rfl,?_⟩;rw [md];exact q2 _ _ (r2 _ _ hk) y dy _ (tU Oc hy) (Oc.trans ((ai.upd (o:=.own y) hdy).trans (ai.upd (p:=y) (by rw [aj (Fa ndy)]; exact hy)))) aw
def Qz (N:Cn):Sp:=Ki fun h z n r y H Q E=>X5 fun A L M t (k:Nat)=>A8 (n=(k:Int)) (aJ N.CH N.CS N.CT H A L M) (A.a=h) ((aM (sD M.ro) (.inr z)).isSome=true) (jr (.str r)=true) (M.ts[k]?=some t) (dF r (dm t z)=true->Q .au H) (dF r (dm t z)=false->dS N H E (.cK y))
def PN:aB P w K mg base (bj P w) 4 T.pL.f T.pL.d ["house","asker","number","right","reason"] (Qz T.cn):=by
 refine T.pL.F.eg YQ (fun _ _ _ _ h=>Lx h fun _ _ _ _ _ _=>rfl) fun ag A outer s H vs Q E hr h=>Lx h fun hh z n r rs h=>?_;obtain ⟨AA,L,M,t,k,rfl,i,rfl,hz,gZ,ht,q1,q2⟩:=h;obtain ⟨lR,gc,gh,oT,en⟩:=i.h;refine bK (b:=aV CK) ((bi (em (lv (jp (pc T.aN T.kg.h (Bu T) hr.m T.kg.b .nil cS (ad 0) (al (ad 1) (al (ad 2) (al (ad 3) am)))))) (bi (Dv.wz xj rfl rfl T.wA T.sy T.BE (Ak T) hr.m T.nB.b (al (ad 4) am))) gl))) ?_;refine stI [some (V.ref AA.a),some (V.str z),some (V.int (k:Int)),some (V.str r),some (V.str rs)] ?_;left;refine (mI gh en (yT i hz gZ ht ?_));cases hm:dF r (dm t z) with
 | true=>exact bc (q1 hm)
 | false=>exact bL ⟨_,rfl,fun d hd=>(q2 hm).raise (fun _ _ e=>e) hd⟩
def Qu (N:Cn):Sp:=sE fun h z n H Q E=>X5 fun A L M t (k:Nat)=>A7 (n=(k:Int)) (aJ N.CH N.CS N.CT H A L M) (A.a=h) ((aM (sD M.ro) (.inr z)).isSome=true) (M.ts[k]?=some t) (dF ("w" : Str) (dm t z)=true->Q .au H) (dF ("w" : Str) (dm t z)=false->dS N H E (.cK "kept"))
def VQ:aB P w K mg base (bj P w) 5 T.pf.f T.pf.d ["house","asker","folder"] (Qu T.cn):=by
 refine T.pf.F.eg We (fun _ _ _ _ h=>jh h fun _ _ _ _=>rfl) fun ag A outer s H vs Q E hr h=>jh h fun hh z n h=>?_;obtain ⟨AA,L,M,t,k,rfl,i,rfl,hz,ht,q1,q2⟩:=h;refine bK (b:=aV AY) ((bi (dL (lm (PN T) hr.m T.pL.m T.pL.F.kp T.pL.b .nil cS (al (ad 0) (al (ad 1) (al (ad 2) (al ci (al ci am))))))))) ?_;refine stI [some (V.ref AA.a),some (V.str z),some (V.int (k:Int))] ?_;left;exact ⟨AA,L,M,t,k,rfl,i,rfl,hz,by decide +kernel,ht,q1,q2⟩
def Wy (N:Cn):Sp:=sU fun h x H Q _=>X8 fun A L M a t dx nm (k:Nat)=>A7 (aJ N.CH N.CS N.CT H A L M) (A.a=h) (H x=some (.ins N.CE dx (xi k nm))) (isNm nm=true) (L[k]?=some a) (M.ts[k]?=some t) (∀ H',ai H H'->Q ((aM (sD t.aR) (.inr (Tx.S nm))).getD .au) H')
def Q2:T.qd.k P w base 5 (Wy T.cn):=by
 refine T.qd.F.ok Sf (fun _ _ _ _ h=>mG h fun _ _ _=>rfl) fun ag A outer s H vs Q E hr h=>mG h fun hh x h=>?_;obtain ⟨AA,L,M,a,t,dx,nm,k,i,rfl,hx,hn,ha,ht,q⟩:=h;obtain ⟨lR,gc,gh,oT,en⟩:=i.h;obtain ⟨h1,h2,h3,h4⟩:=wB hn;refine bK (b:=aV yW) ((bi (cr (ge T.aN T.nu.h (HQ T) hr.m T.nu.b .nil az (ad 0) (al (bn T.nY T.xc (ad 1)) (al (bn T.nY T.B9 (ad 1)) am)))))) ?_;refine stI [some (V.ref AA.a),some (V.ref x)] ?_;left;exact (mI gh en ⟨x,_,_,_,rfl,hx,rfl,x,_,_,_,rfl,hx,rfl,AA,L,M,k,a,t,i,rfl,rfl,ha,ht,yP hn,by rw [Tx.cw]; omega,q⟩)
def Zl (N:Cn):Sp:=sU fun h x H Q E=>X8 fun A L M a t dx nm (k:Nat)=>A8 (aJ N.CH N.CS N.CT H A L M) (A.a=h) (H x=some (.ins N.CE dx (xi k nm))) (isNm nm=true) (L[k]?=some a) (M.ts[k]?=some t) (aM (sD t.aR) (.inr (Tx.S nm))=none->∀ H',ai H H'->Q .au H') (∀ c:Int,aM (sD t.aR) (.inr (Tx.S nm))=some (.int c)->dS N H E (.cK "there"))
def Ms {l:List (Str×Nat)} {z:Key} {v:V} (h:aM (sD l) z=some v):∃ c:Nat,v=.int (c:Int):=by
 unfold aM at h;obtain ⟨kv,h1,rfl⟩:=Ja6.mp h;obtain ⟨e,_,rfl⟩:=LE.mp (List.mem_of_find?_eq_some h1);exact ⟨_,rfl⟩
def aa3:aB P w K mg base (bj P w) 6 T.pC.f T.pC.d ["house","seat"] (Zl T.cn):=by
 refine T.pC.F.eg XE (fun _ _ _ _ h=>mG h fun _ _ _=>rfl) fun ag A outer s H vs Q E hr h=>mG h fun hh x h=>?_;obtain ⟨AA,L,M,a,t,dx,nm,k,i,rfl,hx,hn,ha,ht,q1,q2⟩:=h;refine bK (b:=aV zu) ((bi (em (im LL (db (Q2 T) hr.m T.qd.m T.qd.F.kp T.qd.b .nil az (al (ad 0) (al (ad 1) am))) ul) (bi (Dv.wz xj rfl rfl T.wA T.sy T.BE (Ak T) hr.m T.nB.b (al ci am))) gl))) ?_;refine stI [some (V.ref AA.a),some (V.ref x)] ?_;left;refine ⟨AA,L,M,a,t,dx,nm,k,i,rfl,hx,hn,ha,ht,fun H1 s1=>?_⟩;cases hv:aM (sD t.aR) (.inr (Tx.S nm)) with
 | none=>exact ⟨by trivial,bc (q1 hv H1 s1)⟩
 | some v =>
  obtain ⟨c,rfl⟩:=Ms hv;exact ⟨by trivial,bL ⟨_,rfl,fun d hd=>(q2 _ hv).raise s1 hd⟩⟩
inductive oh (d:Wd) (t:List Nat):Sum Rf (Nat×List Nat)->Prop
 | no {x}:gB d t (.inl x)->oh d t (.inl x)
 | kept {f nm tf}:gB d t (.inr (f,nm))->d.M.ts[f]?=some tf->dF ("w" : Str) (dm tf d.z)=false->oh d t (.inl (.cK "kept"))
 | there {f nm a tf c}:gB d t (.inr (f,nm))->isNm nm=true->d.L[f]?=some a->d.M.ts[f]?=some tf->dF ("w" : Str) (dm tf d.z)=true->aM (sD tf.aR) (.inr (Tx.S nm))=some (.int (c:Int))->oh d t (.inl (.cK "there"))
 | free {f nm a tf}:gB d t (.inr (f,nm))->isNm nm=true->d.L[f]?=some a->d.M.ts[f]?=some tf->dF ("w" : Str) (dm tf d.z)=true->aM (sD tf.aR) (.inr (Tx.S nm))=none->oh d t (.inr (f,nm))
def Qe (N:Cn):Sp:=mR fun h z pt H Q E=>X6 fun A L M root t r=>A8 (pt=Tx.S t) (eP t) (aJ N.CH N.CS N.CT H A L M) (A.a=h) ((aM (sD M.ro) (.inr z)).isSome=true) (oh ⟨L,M,z,true,root⟩ t r) (∀ x,r=.inl x->dS N H E x) (∀ f nm,r=.inr (f,nm)->∀ x dx H',H x=none->ai H H'->H' x=some (.ins N.CE dx (xi f nm))->Q (.ref x) H')
def As:aB P w K mg base (bj P w) 14 T.iy.f T.iy.d ["house","asker","path"] (Qe T.cn):=by
 refine T.iy.F.eg Kg (fun _ _ _ _ h=>gx h fun _ _ _ _=>rfl) fun ag A outer s H vs Q E hr h=>gx h fun hh z pt h=>?_;obtain ⟨AA,L,M,root,t,r,rfl,sp,i,rfl,DW,g,q1,q2⟩:=h;refine bK (b:=aV Aq) ((ap (dl 3 Kg.nd (lm (B5 T) hr.m T.h9.m T.h9.F.kp T.h9.b .nil cS (al (ad 0) (al (ad 1) (al (ad 2) am)))))
 (ap (dL (lm (VQ T) hr.m T.pf.m T.pf.F.kp T.pf.b .nil cS (al (ad 0) (al (ad 1) (al (bn T.nY T.xc (ad 3)) am)))))
 (ap (dL (lm (aa3 T) hr.m T.pC.m T.pC.F.kp T.pC.b .nil cS (al (ad 0) (al (ad 3) am))))
 (bi (cr (ad 3))))))) ?_
 refine stI [some (V.ref AA.a),some (V.str z),some (V.str (Tx.S t)),none] ?_;right;cases g with
 | no g=>exact ⟨AA,L,M,root,t,_,rfl,sp,i,rfl,g,fun x e=>(by cases e; exact q1 _ rfl),fun f nm e=>by cases e⟩
 | kept g oM hw =>
  refine ⟨AA,L,M,root,t,_,rfl,sp,i,rfl,g,fun x e=>(by cases e),fun f nm e=>?_⟩;cases e;intro x dx H1 fx s1 hx;right;exact ⟨x,_,_,_,rfl,hx,rfl,AA,L,M,_,_,rfl,i.same s1,rfl,DW,oM,fun e=>(by rw [hw] at e; cases e),fun _=>(q1 _ rfl).of s1⟩
 | there g hn E6 oM hw hv =>
  refine ⟨AA,L,M,root,t,_,rfl,sp,i,rfl,g,fun x e=>(by cases e),fun f nm e=>?_⟩;cases e;intro x dx H1 fx s1 hx;right;refine ⟨x,_,_,_,rfl,hx,rfl,AA,L,M,_,_,rfl,i.same s1,rfl,DW,oM,fun _=>ah ?_,fun e=>by rw [hw] at e; cases e⟩;left;exact ⟨AA,L,M,_,_,dx,_,_,i.same s1,rfl,hx,hn,E6,oM,fun e=>(by rw [hv] at e; cases e),fun _ _=>(q1 _ rfl).of s1⟩
 | free g hn E6 oM hw hv =>
  refine ⟨AA,L,M,root,t,_,rfl,sp,i,rfl,g,fun x e=>(by cases e),fun f nm e=>?_⟩;cases e;intro x dx H1 fx s1 hx;right;refine ⟨x,_,_,_,rfl,hx,rfl,AA,L,M,_,_,rfl,i.same s1,rfl,DW,oM,fun _=>ah ?_,fun e=>by rw [hw] at e; cases e⟩;left;exact ⟨AA,L,M,_,_,dx,_,_,i.same s1,rfl,hx,hn,E6,oM,fun _ H2 s2=>q2 _ _ rfl x dx H2 fx (s1.trans s2) (s2 _ _ hx),fun _ e=>by rw [hv] at e; cases e⟩
def Pq:Sp:=km fun z H Q _=>z.length<=60/\Q (.bl true) H
def Y8:Sp:=km fun z H Q _=>z.length<=60/\Q .au H
def YJ:T.o9.k P w base 1 Pq:=by
 refine T.o9.F.ok aaM (fun _ _ _ _ h=>fD h fun _ _=>rfl) fun ag A outer s H vs Q E hr h=>fD h fun z h=>?_;obtain ⟨hz,q⟩:=h;refine ⟨_,((bi (cr (Dv.qh (kt j3 T.gu gC (al (ad 0) (al (wf (.ty "str") T.qb qm rfl) am))) (AC (u8 qp (kt (lV (K:=K) rfl) T.kN _e (al (ad 0) am)) (mo (.int 60) T.aau ⟨_,rfl⟩))))))).h,?_⟩;refine stI [some (V.str z)] ?_;left;refine ⟨by decide,bL ⟨fits (by omega),?_⟩⟩;rw [Go (show (z.length:Int)<=60 by omega)];exact q
def WB:T.pU.k P w base 2 Y8:=by
 refine T.pU.F.ok QF (fun _ _ _ _ h=>fD h fun _ _=>rfl) fun ag A outer s H vs Q E hr h=>fD h fun z h=>?_;obtain ⟨hz,q⟩:=h;refine ⟨_,((bi (em (lv (jp (db (YJ T) hr.m T.o9.m T.o9.F.kp T.o9.b .nil az (al (ad 0) am)))) (bi pi) gl))).h,?_⟩;refine stI [some (V.str z)] ?_;left;exact ⟨hz,bc q⟩
def Uy:T.sL.k P w mg base 4 (Tz T.aQ T.bb):=by
 refine T.sL.F.ok Tc (fun _ _ _ _ h=>KH h fun _ _ _ _ _ _=>rfl) fun ag A outer s H vs Q E hr h=>KH h fun x ow tx mi re h=>?_;obtain ⟨dt,ml,rs,at',dP,q⟩:=h;obtain ⟨fs,c,hx,bf,sf⟩:=at'.o;refine ⟨_,((bi (cr (ge T.ck T.kW.h (AR T) hr.m T.kW.b .nil az (ad 0) (al (mo (.str "file") T.yG ⟨_,rfl⟩) (al (ad 1) (al (ad 3) (al (ad 4) (al (ad 2) am))))))))).h,?_⟩;refine stI [some (.ref x),some ow,some tx,some mi,some re] ?_;left;exact ⟨x,dt,fs,rfl,hx,(sf _).trans rfl,dt,ml,rs,at',dP,q⟩
section
variable {CH CS CT:Addr} {H H':Hp} {A:Ad} {L:List Ta} {M:Hs}
def aJ.some (i:aJ CH CS CT H A L M):∀ b∈A.w++L.flatMap Ta.l,∃ o,H b=.some o:=fun b hb=>by
 rcases TW.mp hb with h | h
 ·simp only [Ad.w,AT,EQ,KB] at h;rcases h with rfl | rfl | rfl | rfl | rfl | rfl | rfl | rfl
  ·obtain ⟨_,_,e,_⟩:=i.h; exact ⟨_,e⟩
  ·obtain ⟨_,_,e,_⟩:=i.t; exact ⟨_,e⟩
  ·exact ⟨_,i.ml⟩
  ·exact ⟨_,i.ro⟩
  ·exact ⟨_,i.st⟩
  ·exact ⟨_,i.tr⟩
  ·exact ⟨_,i.ov⟩
  ·exact ⟨_,i.un⟩
 ·obtain ⟨a,ha,hb⟩:=List.mem_flatMap.mp h;obtain ⟨k,hk⟩:=List.getElem?_of_mem ha;have bN:k < M.ts.length:=by rw [<- i.len]; exact (Do.mp hk).1
  obtain ⟨a',e1,t⟩:=i.th k _ (Db bN);rw [hk] at e1;cases e1;simp only [Ta.l,AT,EQ,KB] at hb;rcases hb with rfl | rfl | rfl
  ·obtain ⟨_,e,_⟩:=t.o; exact ⟨_,e⟩
  ·exact ⟨_,t.nm⟩
  ·exact ⟨_,t.pl⟩
def aJ.add {th dw nm pl:Addr} {ks:List (Str×V)} {kd ow mi re tx:Str} (i:aJ CH CS CT H A L M) (f1:H th=none) (f2:H nm=none) (f3:H pl=none) (at':jW CS H' A.t A.dt A.ml ((L.map fun a=>V.ref a.th)++[.ref th])) (aF:H' th=Option.some (.ins CT dw ks)) (kl:ks.length<=40)
  (sk:c7 ks (ra (.int (L.length:Nat)) (.str kd) (.str ow) (.str mi) (.str re) (.str tx) (.ref nm) (.ref pl))) (bX:H' nm=Option.some (.dK [])) (bw:H' pl=Option.some (.dT [])) (kp:Kp [A.t,A.ml] H H') :
  aJ CH CS CT H' A (L++[⟨th,dw,nm,pl⟩]) { M with ts:=M.ts++[⟨kd,ow,mi,re,tx,[],[]⟩] }:=by
 have nd:=i.nd;have sm:=i.some;have nw:∀ b∈A.w++L.flatMap Ta.l,b≠th/\b≠nm/\b≠pl:=fun b hb=>by
  obtain ⟨o,e⟩:=sm b hb;exact ⟨aH e f1,aH e f2,aH e f3⟩
 have h12:th≠nm:=bQ aF bX (by nofun);have h13:th≠pl:=bQ aF bw (by nofun);have h23:nm≠pl:=bQ bX bw (by nofun);have n0:=nd;rw [Sc] at n0;obtain ⟨n1,n2,n3⟩:=n0;simp only [Ad.w,KK,AT,EQ,KB,_P] at n1;have kA:∀ b∈[A.a,A.ro,A.st,A.tr,A.ov,A.un],b ∉ [A.t,A.ml]:=by
  intro b hb hm;simp only [AT,EQ,KB] at hb hm;rcases hb with rfl | rfl | rfl | rfl | rfl | rfl <;> rcases hm with h | h
  ·exact n1.1.1 h
  ·exact n1.1.2.1 h
  ·exact n1.2.1.2.1 h.symm
  ·exact n1.2.2.1.1 h.symm
  ·exact n1.2.1.2.2.1 h.symm
  ·exact n1.2.2.1.2.1 h.symm
  ·exact n1.2.1.2.2.2.1 h.symm
  ·exact n1.2.2.1.2.2.1 h.symm
  ·exact n1.2.1.2.2.2.2.1 h.symm
  ·exact n1.2.2.1.2.2.2.1 h.symm
  ·exact n1.2.1.2.2.2.2.2 h.symm
  ·exact n1.2.2.1.2.2.2.2 h.symm
 refine ⟨?_,at'.o,?_,by simp [i.len],fun j t e=>?_,kp _ _ (kA _ (by simp)) i.ro,kp _ _ (kA _ (by simp)) i.st,kp _ _ (kA _ (by simp)) i.tr,kp _ _ (kA _ (by simp)) i.ov,kp _ _ (kA _ (by simp)) i.un,?_⟩
 ·obtain ⟨fs,c,e,r⟩:=i.h;exact ⟨fs,c,kp _ _ (kA _ (by simp)) e,r⟩
 ·rw [at'.ml]; simp
 ·have e':(M.ts++[(⟨kd,ow,mi,re,tx,[],[]⟩:Th)])[j]?=.some t:=e;by_cases hj:j < M.ts.length
  ·rw [Re hj] at e';obtain ⟨a,e1,h1⟩:=i.th j t e';refine ⟨a,by rw [Re (by rw [i.len]; exact hj)]; exact e1,h1.keep kp fun b hb hm=>?_⟩;have gj:=mw e1 hb;simp only [AT,EQ,KB] at hm;rcases hm with rfl | rfl
   ·exact n3 _ (by simp [Ad.w]) _ gj rfl
   ·exact n3 _ (by simp [Ad.w]) _ gj rfl
  ·rw [Ps (by omega)] at e';have Ed:j - M.ts.length=0:=by
    rcases Nat.eq_zero_or_pos (j - M.ts.length) with h | h
    ·exact h
    ·rw [Jae (by simp; omega)] at e'; cases e'
   rw [Ed] at e';cases e';have yr:j=L.length:=by rw [i.len]; omega
   subst yr;exact ⟨_,by rw [Ps (Ev _),Nat.sub_self]; rfl,⟨⟨ks,aF,kl,sk⟩,bX,bw⟩⟩
 ·rw [List.flatMap_append,<- List.append_assoc,Sc];refine ⟨nd,?_,fun b hb c hc e=>?_⟩
  ·simp only [_g,List.flatMap_nil,_h,Ta.l,KK,AT,EQ,KB,_P,Ja9,Ja7,and_true];exact ⟨⟨h12,h13⟩,h23⟩
  ·obtain ⟨q1,q2,q3⟩:=nw b hb;simp only [_g,List.flatMap_nil,_h,Ta.l,AT,EQ,KB] at hc;rcases hc with h | h | h
   ·exact q1 (e.trans h)
   ·exact q2 (e.trans h)
   ·exact q3 (e.trans h)
end
def LK (CH CS CT CE:Addr):Sp:=K0 fun h x n H Q _=>Gq fun A L M (f:Nat) (k:Nat) af tf ak tk dx nm=>Bn (aJ CH CS CT H A L M) (A.a=h) (H x=some (.ins CE dx (ay "name" (.str nm) (ay "folder" (.int (f:Int)) [])))) (n=(k:Int)) (L[f]?=some af) (M.ts[f]?=some tf) (L[k]?=some ak) (M.ts[k]?=some tk) (f≠k) (aM (sD tf.aR) (.inr nm)=none) (tf.aR.length<=500) (tk.bW=[]) (∀ H',aJ CH CS CT H' A L { M with ts:=(M.ts.set f { tf with aR:=tf.aR++[(nm,k)] }).set k { tk with bW:=[(f,nm)] } }->Kp [A.t,af.nm,ak.pl] H H'->Q (.int (k:Int)) H')
def y9:T.hZ.k P w base 6 (LK T.aK T.aQ T.bb T.lT):=by
 refine T.hZ.F.ok Tb (fun _ _ _ _ h=>Lh h fun _ _ _ _=>rfl) fun ag A outer s H vs Q E hr h=>Lh h fun hh x n h=>?_;obtain ⟨AA,L,M,f,k,af,tf,ak,tk,dx,nm,i,rfl,hx,rfl,gI,cf,iA,gg,cQ,hv,hl,bw,q⟩:=h;obtain ⟨lR,gc,gh,oT,en⟩:=i.h;obtain ⟨gs,c2,ht,dN,sg⟩:=i.t;refine bK (b:=aV yN) ((ap (dL (ge T.ck T.rD.h (UZ T) hr.m T.rD.b .nil az (bn T.aN T.f9 (ad 0)) (al (bn T.nY T.xc (ad 1)) (al (bn T.nY T.B9 (ad 1)) (al (ad 2) am)))))
 (bi (cr (ad 2))))) ?_
 refine stI [some (V.ref AA.a),some (V.ref x),some (V.int (k:Int))] ?_;right;exact (fI gh en rfl (mI ht sg ⟨x,_,_,_,rfl,hx,rfl,x,_,_,_,rfl,hx,rfl,AA,L,M,f,k,af,tf,ak,tk,i,rfl,rfl,rfl,gI,cf,iA,gg,cQ,hv,hl,bw,q⟩))
def rZ (CH CS CT:Addr) (A:Ad) (L:List Ta) (M:Hs) (f:Nat) (t0:Th) (a0:Ta) (nm kd ow mi re tx:Str) (H:Hp) (Q:VK):Prop :=
 ∀ a H',aJ CH CS CT H' A (L++[a]) { M with ts:=M.ts.set f { t0 with aR:=t0.aR++[(nm,M.ts.length)] }++[⟨kd,ow,mi,re,tx,[],[(f,nm)]⟩] }->Kp [A.t,A.ml,a0.nm] H H'->Q (.int (M.ts.length:Nat)) H'
def MJ {α:Type} {y b:α}:∀ r:List α,(r++[y]).set r.length b=r++[b]
 | []=>rfl
 | c::r=>by simp only [List.cons_append,Os,List.set_cons_succ]; rw [MJ r]
def ZC {α:Type}:∀ {xs:List α} {f:Nat} {y a b:α},f < xs.length->((xs++[y]).set f a).set xs.length b=xs.set f a++[b]:=fun {xs f y a b} h=>by
 rw [List.set_append_left _ _ h];have:=MJ (y:=y) (b:=b) (xs.set f a)
 rwa [List.length_set] at this
def zD {CH CS CT CE:Addr} {H:Hp} {A:Ad} {L:List Ta} {M:Hs} {f:Nat} {z nm kd mi re tx:Str} {a0:Ta} {t0:Th} {x dx:Addr} {Q:VK} {E:XK} (i:aJ CH CS CT H A L M) (iG:L[f]?=some a0) (gG:M.ts[f]?=some t0) (hx:H x=some (.ins CE dx (ay "name" (.str nm) (ay "folder" (.int (f:Int)) [])))) (hv:aM (sD t0.aR) (.inr nm)=none) (hl:t0.aR.length<=400)
  (nx1:x≠A.t) (mp:rZ CH CS CT A L M f t0 a0 nm kd z mi re tx H Q):um CS CT A.t A.dt A.ml (L.map fun a=>V.ref a.th) (.str kd) (.str z) (.str mi) (.str re) (.str tx) H (fun v H'=>LK CH CS CT CE [.ref A.a,.ref x,v] H' Q E):=by
 intro th dw nm' pl ks H' f1 f2 f3 at' aF kl sk bX bw kp;have nx2:x≠A.ml:=bQ hx i.ml (by nofun);have hlen:(L.map fun a=>V.ref a.th).length=L.length:=At _;rw [hlen] at sk ⊢;have i2:=i.add f1 f2 f3 at' aF kl sk bX bw kp;have h0:f < M.ts.length:=(Do.mp gG).1;have EF:=i.len;have e0:(M.ts++[(⟨kd,z,mi,re,tx,[],[]⟩:Th)])[f]?=some t0:=by rw [Re h0]; exact gG
 have ek:(M.ts++[(⟨kd,z,mi,re,tx,[],[]⟩:Th)])[L.length]?=some ⟨kd,z,mi,re,tx,[],[]⟩:=by rw [EF,Ps (Ev _),Nat.sub_self]; rfl
 refine ⟨A,L++[⟨th,dw,nm',pl⟩],_,f,L.length,a0,t0,⟨th,dw,nm',pl⟩,⟨kd,z,mi,re,tx,[],[]⟩,dx,nm,i2,rfl,kp _ _ (by simp [nx1,nx2]) hx,rfl,by rw [Re (by omega)]; exact iG,e0,by rw [Ps (Ev _),Nat.sub_self]; rfl,ek,by omega,hv,by omega,rfl,fun H2 i3 k3=>?_⟩;have:=mp ⟨th,dw,nm',pl⟩ H2 (by
  have e:=i3;dsimp only at e;rw [EF] at e;rw [ZC h0] at e;exact e) (fun b o hb e=>?_)
 ·rw [EF]; exact this
 ·simp only [AT,EQ,KB,_P] at hb;have nbp:b≠pl:=aH e f3;exact k3 _ _ (by simp [hb.1,hb.2.2,nbp]) (kp _ _ (by simp [hb.1,hb.2.1]) e)
def Bv {CH CS CT:Addr} {H:Hp} {A:Ad} {L:List Ta} {M:Hs} (i:aJ CH CS CT H A L M):jW CS H A.t A.dt A.ml (L.map fun a=>V.ref a.th):=⟨i.t,i.ml⟩
def rZ.of {CH CS CT:Addr} {H H1:Hp} {A:Ad} {L:List Ta} {M:Hs} {f:Nat} {t0:Th} {a0:Ta} {nm kd ow mi re tx:Str} {Q:VK} (s:ai H H1) (m:rZ CH CS CT A L M f t0 a0 nm kd ow mi re tx H Q):rZ CH CS CT A L M f t0 a0 nm kd ow mi re tx H1 Q:=fun a H' i k=>m a H' i ((Kp.of s).trans k)
def VX (K:PySem.W.Frag):Sp:=km fun pt H Q _=>X1 fun t=>A4 (pt=Tx.S t) (eP t) (t.length<=120) (∀ H',ai H H'->Q .au H')
def Tt:T.ql.k P w base 4 (VX K):=by
 refine T.ql.F.ok RJ (fun _ _ _ _ h=>fD h fun _ _=>rfl) fun ag A outer s H vs Q E hr h=>fD h fun pt h=>?_;obtain ⟨t,rfl,pt,hl,q⟩:=h;refine bK (b:=aV CM) ((ap (dL (db (jC T) hr.m T.cq.m T.cq.F.kp T.cq.b .nil az (al (ad 0) am)))
 (bi (em (im Br (kt (lV (K:=K) rfl) T.kN _e (al (ad 0) am)) (mo (.int 120) T.Z8 ⟨_,rfl⟩)) (bi pi) gl)))) ?_
 refine stI [some (V.str (Tx.S t))] ?_;right;refine ⟨t,rfl,pt.l1,pt.l2,pt.all,fun H1 l p s1 _ _ _=>?_⟩;left;refine ⟨by rw [Tx.cw]; exact fits (by omega),?_⟩;rw [Tx.cw,Ch (show ¬ (t.length:Int) > 120 by omega)];exact bc (q _ s1)
def UJ:T.rJ.k P w mg base 4 (XO T.aQ T.bb):=by
 refine T.rJ.F.ok Tn (fun _ _ _ _ h=>mM h fun _ _ _ _=>rfl) fun ag A outer s H vs Q E hr h=>mM h fun x ow tx h=>?_;obtain ⟨dt,ml,rs,at',dP,q⟩:=h;obtain ⟨fs,c,hx,bf,sf⟩:=at'.o;refine ⟨_,((bi (cr (ge T.ck T.kW.h (AR T) hr.m T.kW.b .nil az (ad 0) (al (mo (.str "lead") T.Ph ⟨_,rfl⟩) (al (ad 1) (al ci (al ci (al (ad 2) am))))))))).h,?_⟩;refine stI [some (.ref x),some ow,some tx] ?_;left;exact ⟨x,dt,fs,rfl,hx,(sf _).trans rfl,dt,ml,rs,at',dP,q⟩
structure tw (N:Cn) (H:Hp) (A:Ad) (L:List Ta) (M:Hs) (z:Str) (t:List Nat) (kd mi re tx:Str) (Q:VK) (E:XK):Prop where
 i:aJ N.CH N.CS N.CT H A L M
 p:eP t
 hz:(aM (sD M.ro) (.inr z)).isSome=true
 pP:mi∈jm
 hV:re∈jm
 hL:L.length<=400
 hl:∀ (f:Nat) t0,M.ts[f]?=some t0->t0.aR.length<=400
 r:∃ root r,oh ⟨L,M,z,true,root⟩ t r/\(∀ x,r=.inl x->dS N H E x)/\∀ f nm a0 t0,r=.inr (f,nm)->L[f]?=some a0->M.ts[f]?=some t0->rZ N.CH N.CS N.CT A L M f t0 a0 (Tx.S nm) kd z mi re tx H Q
def zm (N:Cn):Sp:=F5 fun h z pt mi re H Q E=>X4 fun A L M t=>A3 (pt=Tx.S t) (tw N H A L M z t "folder" mi re "" Q E) (A.a=h)
def Ax (N:Cn):Sp:=Mx fun h z pt tx mi re H Q E=>X4 fun A L M t=>A4 (pt=Tx.S t) (tw N H A L M z t "file" mi re tx Q E) (A.a=h) (tx.length<=60)
def Kb:aB P w K mg base (bj P w) 15 T.EG T.uQ ["house","asker","path","mine","rest"] (zm T.cn):=by
 refine T.tH.eg LS (fun vs H Q E h=>?_) (fun ag A outer s H vs Q E hr h=>?_)
 ·exact Gy h fun _ _ _ _ _ _=>rfl
 ·refine Gy h fun hh z pt mi re h=>?_;obtain ⟨AA,L,M,t,rfl,pr,rfl⟩:=h;obtain ⟨lR,gc,gh,oT,en⟩:=pr.i.h;obtain ⟨root,r,gZ,q1,q2⟩:=pr.r;refine bK (b:=aV pM) ((ap (dL (pc T.aN T.dY.h (kD T) hr.m T.dY.b .nil cS (ad 0) (al (ad 1) am)))
  (ap (dL (db (jC T) hr.m T.cq.m T.cq.F.kp T.cq.b .nil az (al (ad 2) am)))
  (ap (dL (db (wG T) hr.m T.gf.m T.gf.F.kp T.gf.b .nil az (al (ad 3) am)))
  (ap (dL (db (wG T) hr.m T.gf.m T.gf.F.kp T.gf.b .nil az (al (ad 4) am)))
  (ap (dl 5 LS.nd (lm (As T) hr.m T.iy.m T.iy.F.kp T.iy.b .nil cS (al (ad 0) (al (ad 1) (al (ad 2) am)))))
  (bi (cr (db (y9 T) hr.m T.hZ.m T.hZ.F.kp T.hZ.b .nil az (al (ad 0) (al (ad 5) (al (ge T.ck T.ou.h (Gi T) hr.m T.ou.b .nil az (bn T.aN T.f9 (ad 0)) (al (ad 1) (al (ad 3) (al (ad 4) am)))) am)))))))))))) ?_
  refine stI [some (V.ref AA.a),some (V.str z),some (V.str (Tx.S t)),some (V.str mi),some (V.str re),none] ?_;right;refine (mI gh en (my pr.i pr.hz (ah ?_)));left;refine ⟨t,rfl,pr.p.l1,pr.p.l2,pr.p.all,fun H1 l p s1 _ hl hp=>ah ?_⟩;left;refine ⟨pr.pP,ah ?_⟩;left;refine ⟨pr.hV,ah ?_⟩;left;refine ⟨AA,L,M,root,t,r,rfl,pr.p,pr.i.same s1,rfl,pr.hz,gZ,fun x e=>(q1 x e).of s1,fun f nm e x dx H2 fx s2 hx=>?_⟩;left;have i2:=pr.i.same (s1.trans s2);obtain ⟨Nm,NP,uJ,MX,uR⟩:=i2.h;obtain ⟨gs,c2,ht,dN,sg⟩:=i2.t;obtain ⟨_,_,gT,_⟩:=(pr.i.same s1).t;subst e;cases gZ with
  | free g hn iG gG hw hv =>
   refine (fI uJ uR rfl (mI ht sg ⟨AA.dt,AA.ml,_,Bv i2,by rw [At]; have:=pr.hL; omega,zD i2 iG gG hx hv (pr.hl _ _ gG) (Fa (aH gT fx)) ((q2 _ _ _ _ rfl iG gG).of (s1.trans s2))⟩))
def G5:aB P w K mg base (bj P w) 15 T.D6 T.uH ["house","asker","path","text","mine","rest"] (Ax T.cn):=by
 refine T.rH.eg Lg (fun vs H Q E h=>?_) (fun ag A outer s H vs Q E hr h=>?_)
 ·exact HC h fun _ _ _ _ _ _ _=>rfl
 ·refine HC h fun hh z pt tx mi re h=>?_;obtain ⟨AA,L,M,t,rfl,pr,rfl,FN⟩:=h;obtain ⟨lR,gc,gh,oT,en⟩:=pr.i.h;obtain ⟨root,r,gZ,q1,q2⟩:=pr.r;refine bK (b:=aV qc) ((ap (dL (pc T.aN T.dY.h (kD T) hr.m T.dY.b .nil cS (ad 0) (al (ad 1) am)))
  (ap (dL (db (jC T) hr.m T.cq.m T.cq.F.kp T.cq.b .nil az (al (ad 2) am)))
  (ap (dL (db (wG T) hr.m T.gf.m T.gf.F.kp T.gf.b .nil az (al (ad 4) am)))
  (ap (dL (db (wG T) hr.m T.gf.m T.gf.F.kp T.gf.b .nil az (al (ad 5) am)))
  (ap (dL (db (WB T) hr.m T.pU.m T.pU.F.kp T.pU.b .nil az (al (ad 3) am)))
  (ap (dl 6 Lg.nd (lm (As T) hr.m T.iy.m T.iy.F.kp T.iy.b .nil cS (al (ad 0) (al (ad 1) (al (ad 2) am)))))
  (bi (cr (db (y9 T) hr.m T.hZ.m T.hZ.F.kp T.hZ.b .nil az (al (ad 0) (al (ad 6) (al (ge T.ck T.sL.h (Uy T) hr.m T.sL.b .nil az (bn T.aN T.f9 (ad 0)) (al (ad 1) (al (ad 3) (al (ad 4) (al (ad 5) am))))) am))))))))))))) ?_
  refine stI [some (V.ref AA.a),some (V.str z),some (V.str (Tx.S t)),some (V.str tx),some (V.str mi),some (V.str re),none] ?_;right;refine (mI gh en (my pr.i pr.hz (ah ?_)));left;refine ⟨t,rfl,pr.p.l1,pr.p.l2,pr.p.all,fun H1 l p s1 _ hl hp=>ah ?_⟩;left;refine ⟨pr.pP,ah ?_⟩;left;refine ⟨pr.hV,ah ?_⟩;left;refine ⟨FN,ah ?_⟩;left;refine ⟨AA,L,M,root,t,r,rfl,pr.p,pr.i.same s1,rfl,pr.hz,gZ,fun x e=>(q1 x e).of s1,fun f nm e x dx H2 fx s2 hx=>?_⟩;left;have i2:=pr.i.same (s1.trans s2);obtain ⟨Nm,NP,uJ,MX,uR⟩:=i2.h;obtain ⟨gs,c2,ht,dN,sg⟩:=i2.t;obtain ⟨_,_,gT,_⟩:=(pr.i.same s1).t;subst e;cases gZ with
  | free g hn iG gG hw hv =>
   refine (fI uJ uR rfl (mI ht sg ⟨AA.dt,AA.ml,_,Bv i2,by rw [At]; have:=pr.hL; omega,zD i2 iG gG hx hv (pr.hl _ _ gG) (Fa (aH gT fx)) ((q2 _ _ _ _ rfl iG gG).of (s1.trans s2))⟩))
def BX (N:Cn):Sp:=zU fun h z pt tx H Q E=>X5 fun A L M t tl=>A6 (pt=Tx.S t) (tx=Tx.S tl) (tw N H A L M z t "lead" "" "" tx Q E) (A.a=h) (eP tl) (tl.length<=120)
def Jj:aB P w K mg base (bj P w) 15 T.kf.f T.kf.d ["house","asker","path","lead"] (BX T.cn):=by
 refine T.kf.F.eg HF (fun _ _ _ _ h=>vq h fun _ _ _ _ _=>rfl) fun ag A outer s H vs Q E hr h=>vq h fun hh z pt tx h=>?_;obtain ⟨AA,L,M,t,tl,rfl,rfl,pr,rfl,uD,hl120⟩:=h;obtain ⟨lR,gc,gh,oT,en⟩:=pr.i.h;obtain ⟨root,r,gZ,q1,q2⟩:=pr.r;refine bK (b:=aV zI) ((ap (dL (pc T.aN T.dY.h (kD T) hr.m T.dY.b .nil cS (ad 0) (al (ad 1) am)))
 (ap (dL (db (jC T) hr.m T.cq.m T.cq.F.kp T.cq.b .nil az (al (ad 2) am)))
 (ap (dL (db (Tt T) hr.m T.ql.m T.ql.F.kp T.ql.b .nil az (al (ad 3) am)))
 (ap (dl 4 HF.nd (lm (As T) hr.m T.iy.m T.iy.F.kp T.iy.b .nil cS (al (ad 0) (al (ad 1) (al (ad 2) am)))))
 (bi (cr (db (y9 T) hr.m T.hZ.m T.hZ.F.kp T.hZ.b .nil az (al (ad 0) (al (ad 4) (al (ge T.ck T.rJ.h (UJ T) hr.m T.rJ.b .nil az (bn T.aN T.f9 (ad 0)) (al (ad 1) (al (ad 3) am))) am))))))))))) ?_
 refine stI [some (V.ref AA.a),some (V.str z),some (V.str (Tx.S t)),some (V.str (Tx.S tl)),none] ?_;right;refine (mI gh en (my pr.i pr.hz (ah ?_)));left;refine ⟨t,rfl,pr.p.l1,pr.p.l2,pr.p.all,fun H1 l p s1 _ hl hp=>ah ?_⟩;left;refine ⟨tl,rfl,uD,hl120,fun H1' s1'=>ah ?_⟩
 replace s1:=s1.trans s1'
 clear hl hp;generalize H1'=H1 at s1 ⊢;left;refine ⟨AA,L,M,root,t,r,rfl,pr.p,pr.i.same s1,rfl,pr.hz,gZ,fun x e=>(q1 x e).of s1,fun f nm e x dx H2 fx s2 hx=>?_⟩;left;have i2:=pr.i.same (s1.trans s2);obtain ⟨Nm,NP,uJ,MX,uR⟩:=i2.h;obtain ⟨gs,c2,ht,dN,sg⟩:=i2.t;obtain ⟨_,_,gT,_⟩:=(pr.i.same s1).t;subst e;cases gZ with
 | free g hn iG gG hw hv =>
  refine (fI uJ uR rfl (mI ht sg ⟨AA.dt,AA.ml,_,Bv i2,by rw [At]; have:=pr.hL; omega,zD i2 iG gG hx hv (pr.hl _ _ gG) (Fa (aH gT fx)) ((q2 _ _ _ _ rfl iG gG).of (s1.trans s2))⟩))
inductive zG (d:Wd) (t:List Nat):Sum Rf Nat->Prop
 | way {e}:fq d t e->(∀ k ns,e.res≠.found k ns)->zG d t (.inl (.way e.res))
 | file {e k ns a th}:fq d t e->e.res=.found k ns->d.L[k]?=some a->d.M.ts[k]?=some th->th.kd≠("folder" : Str)->zG d t (.inl (.cK "file"))
 | ok {e k ns a th}:fq d t e->e.res=.found k ns->d.L[k]?=some a->d.M.ts[k]?=some th->th.kd=("folder" : Str)->zG d t (.inr k)
inductive AN (d:Wd) (t:List Nat):Sum Rf Nat->Prop
 | way {e}:fq d t e->(∀ k ns,e.res≠.found k ns)->AN d t (.inl (.way e.res))
 | abk {e k ns a th}:fq d t e->e.res=.found k ns->d.L[k]?=some a->d.M.ts[k]?=some th->th.ow≠d.z->AN d t (.inl (.cK "mine"))
 | ok {e k ns a th}:fq d t e->e.res=.found k ns->d.L[k]?=some a->d.M.ts[k]?=some th->th.ow=d.z->AN d t (.inr k)
def AS:List Str:=["own","guest"]
inductive fN (M:Hs) (r:Nat):Nat->Prop
 | refl:fN M r r
 | up {k f nm t}:M.ts[k]?=some t->t.bW=[(f,nm)]->fN M r f->fN M r k
structure uy (M:Hs) (k:Nat) (t:Th):Prop where
 nl:t.aR.length<=M.ts.length
 kd:t.kd=("folder" : Str)\/t.kd=("file" : Str)\/t.kd=("lead" : Str)
 ld:t.kd=("lead" : Str)->∃ tl,t.tx=Tx.S tl/\eP tl/\tl.length<=120
 pl:k=0/\t.bW=[]\/∃ (f:Nat) (nm:Str) (tf:Th),f < k/\t.bW=[(f,nm)]/\nm.length<=8/\M.ts[f]?=some tf/\tf.kd=("folder" : Str)
 ch:∀ z v,aM (sD t.aR) (.inr z)=some v->∃ (c:Nat) (tc:Th),v=.int (c:Int)/\M.ts[c]?=some tc/\tc.bW=[(k,z)]
structure Qa (M:Hs) (z:Str) (r k:Nat):Prop where
 ro:aM (sD M.ro) (.inr z)=some (.int (r:Int))
 st:aM (sD M.st) (.inr z)=some (.int (k:Int))
 b:fN M r k
 tr:∃ t,M.ts[r]?=some t/\t.kd=("folder" : Str)
 tk:∃ t,M.ts[k]?=some t/\t.kd=("folder" : Str)
structure Gd (M:Hs):Prop where
 tr:M.tr=[(("main" : Str),0)]
 ov:M.ov=[]
 un:M.un=[]
 as:∀ z∈AS,∃ r k,Qa M z r k
 rl:M.ro.length<=3
 sl:M.st.length<=3
 t0:∃ t,M.ts[0]?=some t/\t.kd=("folder" : Str)
 th:∀ k t,M.ts[k]?=some t->uy M k t
def pR (p:Str):Prop:=p=("." : Str)\/p=(".." : Str)\/fE (.str p)=true/\p.length<=8
def zV {wd:List Nat} (h:b9 wd=true):pR (Tx.S wd):=by
 unfold b9 at h;simp only [Jar,_f] at h;rcases h with (rfl | rfl) | h
 ·exact .inl (by decide +kernel)
 ·exact .inr (.inl (by decide +kernel))
 ·exact .inr (.inr ⟨yP h,by rw [Tx.cw]; exact (wB h).2.2.2⟩)
section
variable {M:Hs} {L:List Ta} {z:Str} {r:Nat}
def adr (hL:L.length=M.ts.length) {k:Nat} {t:Th} (h:M.ts[k]?=some t):∃ a,L[k]?=some a :=
 ⟨_,Db (by rw [hL]; exact (Do.mp h).1)⟩
def Gd.dj (g:Gd M) (k:Nat):dv M k k [] :=
 ⟨⟨0,by unfold kS; rw [g.un]; exact ⟨rfl,rfl⟩⟩,0,by unfold jt; rw [g.ov]; exact ⟨rfl,rfl⟩,GT _⟩
def Gd.Q7 (g:Gd M) {k b:Nat} {r:List Nat} (h:dv M k b r):b=k/\r=[]:=by
 obtain ⟨⟨n,h1⟩,n2,h2,_⟩:=h;refine ⟨?_,?_⟩
 ·cases n with
  | zero=>exact h1.2
  | succ n=>obtain ⟨k',e,_⟩:=h1; rw [g.un] at e; cases e
 ·cases n2 with
  | zero=>exact h2.2
  | succ n=>obtain ⟨k',r,e,_⟩:=h2; rw [g.ov] at e; cases e
def rS {k:Nat}:gb r [k]=decide (k=r):=by
 unfold gb;by_cases h:k=r
 ·simp [h]
 ·simp [h]
def Gd.par (g:Gd M) {k:Nat} {t:Th} (ht:M.ts[k]?=some t) (hb:fN M r k) (hk:k≠r):∃ (f:Nat) (nm:Str) (tf:Th),f < k/\t.bW=[(f,nm)]/\nm.length<=8/\M.ts[f]?=some tf/\tf.kd=("folder" : Str)/\fN M r f:=by
 cases hb with
 | refl=>exact absurd rfl hk
 | up h1 h2 h3 =>
  rw [ht] at h1; cases h1;rcases (g.th k t ht).pl with ⟨_,e⟩ | ⟨f,nm,tf,hf,hp,hl,cf,jc⟩
  ·rw [e] at h2; cases h2
  ·rw [hp] at h2; cases h2;exact ⟨_,_,tf,hf,hp,hl,cf,jc,h3⟩
def Gd.seen (g:Gd M) (hL:L.length=M.ts.length):∀ (n k:Nat) (t:Th),k<=n->M.ts[k]?=some t->fN M r k->kx M L r n k true
 | n,k,t,hk,ht,hb=>by
  obtain ⟨a,ha⟩:=adr hL ht;unfold kx;refine ⟨k,[],a,t,ha,ht,g.dj k,?_⟩;rw [IN (show k=dB k [] from rfl),rS];by_cases h0:k=r
  ·rw [IN (Go h0)]
  ·rw [Id (by rw [Ch h0]; nofun)];obtain ⟨f,nm,tf,hf,hp,_,cf,_,hb'⟩:=g.par ht hb h0;refine ⟨a,t,ha,ht,.inr ⟨f,nm,hp,?_⟩⟩
   match n,hk with
   | 0,hk=>omega
   | n+1,hk=>exact g.seen hL n f tf (by omega) cf hb'
def Gd.nm (g:Gd M) (hL:L.length=M.ts.length):∀ (n k:Nat) (t:Th),k<=n->M.ts[k]?=some t->fN M r k->∃ ns,jG M L r n k ns/\ns.length<=k/\∀ s∈ns,s.length<=8
 | n,k,t,hk,ht,hb=>by
  obtain ⟨a,ha⟩:=adr hL ht;by_cases h0:k=r
  ·refine ⟨[],?_,GT _,fun _ h=>by cases h⟩;unfold jG;exact ⟨k,[],a,t,ha,ht,g.dj k,by rw [rS,IN (Go h0)]⟩
  ·obtain ⟨f,nm,tf,hf,hp,hl,cf,_,hb'⟩:=g.par ht hb h0
   match n,hk with
   | 0,hk=>omega
   | n+1,hk =>
    obtain ⟨ns,h1,h2,h3⟩:=g.nm hL n f tf (by omega) cf hb';refine ⟨ns++[nm],?_,by rw [Da]; simp; omega,fun s hs=>?_⟩
    ·unfold jG;refine ⟨k,[],a,t,ha,ht,g.dj k,?_⟩;rw [rS,Id (by rw [Ch h0]; nofun)];exact ⟨a,t,f,nm,ha,ht,hp,ns,rfl,h1⟩
    ·rcases TW.mp hs with hs | hs
     ·exact h3 s hs
     ·rw [KM.mp hs]; exact hl
def J6:fE (.str ("." : Str))=false/\fE (.str (".." : Str))=false:=by decide +kernel
end
def Val (M:Hs) (r:Nat) (S:Ws):Prop:=∃ t,M.ts[S.here]?=some t/\(t.kd=("folder" : Str)/\fN M r S.here\/t.kd≠("folder" : Str)/\∃ (f:Nat) (nm:Str) (tf:Th),S.place=some (f,nm)/\nm.length<=8/\M.ts[f]?=some tf/\fN M r f)
def fk:List (Sum Nat Str)->Nat
 | []=>0
 | .inl _::r=>fk r+1
 | .inr _::r=>fk r
def tX:∀ (a b:List (Sum Nat Str)),fk (a++b)=fk a+fk b
 | [],b=>by simp [fk]
 | .inl _::a,b=>by show fk (a++b)+1=fk a+1+fk b; rw [tX a b]; omega
 | .inr _::a,b=>tX a b
def GG (c:Nat) (t:List Nat):(Tx.words c t).length<=t.length+1:=Gc (Jad _ _) (Tx.vT c t)
def Ml:∀ ps:List Str,fk (ps.map Sum.inr)=0
 | []=>rfl
 | _::r=>Ml r
def HB (ps:List Str):fk (cm ps)=0:=by
 unfold cm;rw [<- List.map_reverse];exact Ml _
structure C6 (d:Wd) (S:Ws):Prop where
 v:Val d.M d.root S
 ps:∀ p,Sum.inr p∈S.left->pR p
 cn:fk S.left=S.bB.length
 rl:S.read<=40
def mu (S:Ws):Nat:=126 * (40 - S.read)+S.left.length
def Lk {t:List Nat} (h:(Tx.words 47 t).all b9=true):∀ p∈dJ t,pR p:=fun p hp=>by
 obtain ⟨x,hx,rfl⟩:=LE.mp hp;exact zV (GM.mp (sJ (t:=t) h) x hx)
def Km {ps:List Str} {p:Str} (h:Sum.inr p∈cm ps):p∈ps:=by
 unfold cm at h;obtain ⟨q,hq,e⟩:=LE.mp (List.mem_reverse.mp h);cases e; exact hq
section
variable {d:Wd}
def RU (g:Gd d.M) (hL:d.L.length=d.M.ts.length) (hr:∃ t,d.M.ts[d.root]?=some t/\t.kd=("folder" : Str)) {S:Ws} {p:Str} (w:C6 d S) (hp:pR p):∃ S' o,dU d S p S' o/\(o=none->C6 d S'/\mu S'<=mu S):=by
 obtain ⟨t,ht,hk⟩:=w.v;obtain ⟨a,ha⟩:=adr hL ht;by_cases bu:t.kd=("folder" : Str)
 ·have hb:fN d.M d.root S.here:=by
   rcases hk with h | h
   ·exact h.2
   ·exact absurd bu h.1
  cases hm:dF ("g" : Str) (dm t d.z) with
  | false=>exact ⟨_,_,.fZ ha ht bu hm,nofun⟩
  | true =>
   have hA:vc d S t:=⟨⟨a,ha⟩,ht,bu,hm⟩;rcases hp with hp | hp | ⟨hp,FE⟩
   ·exact ⟨_,_,.dot hA hp,fun _=>⟨⟨⟨t,ht,.inl ⟨bu,hb⟩⟩,w.ps,w.cn,w.rl⟩,Ev _⟩⟩
   ·by_cases h0:S.here=d.root
    ·exact ⟨_,_,.up hA hp (.gJ ha ht (g.dj _) (by rw [rS]; exact Go h0)),fun _=>⟨⟨⟨t,ht,.inl ⟨bu,hb⟩⟩,w.ps,w.cn,w.rl⟩,Ev _⟩⟩
    ·obtain ⟨f,nm,tf,hf,bw,hl,cf,jc,hb'⟩:=g.par ht hb h0;obtain ⟨af,gI⟩:=adr hL cf;exact ⟨_,_,.up hA hp (.up ha ht (g.dj _) (by rw [rS]; exact Ch h0) ha ht bw gI cf (g.dj f)),fun _=>⟨⟨⟨tf,cf,.inl ⟨jc,hb'⟩⟩,w.ps,w.cn,w.rl⟩,Ev _⟩⟩
   ·have n1:p≠(".." : Str):=fun e=>by rw [e,J6.2] at hp; cases hp
    have n2:p≠("." : Str):=fun e=>by rw [e,J6.1] at hp; cases hp
    cases hv:aM (sD t.aR) (.inr p) with
    | none=>exact ⟨_,_,.go hA n1 n2 hp (by omega) (.no hv),nofun⟩
    | some u =>
     obtain ⟨k,tc,rfl,eA,hpc⟩:=(g.th _ t ht).ch _ _ hv;obtain ⟨ac,gH⟩:=adr hL eA;by_cases m4:tc.kd=("folder" : Str)
     ·exact ⟨_,_,.go hA n1 n2 hp (by omega) (.folder hv gH eA m4 (g.dj k)),fun _=>⟨⟨⟨tc,eA,.inl ⟨m4,.up eA hpc hb⟩⟩,w.ps,w.cn,w.rl⟩,Ev _⟩⟩
     by_cases hf:tc.kd=("file" : Str)\/S.left=[]/\d.last=false
     ·exact ⟨_,_,.go hA n1 n2 hp (by omega) (.fin hv gH eA m4 hf),fun _=>⟨⟨⟨tc,eA,.inr ⟨m4,_,_,t,rfl,FE,ht,hb⟩⟩,w.ps,w.cn,w.rl⟩,Ev _⟩⟩
     have jH:tc.kd=("lead" : Str):=by
      rcases (g.th _ tc eA).kd with h | h | h
      ·exact absurd h m4
      ·exact absurd (.inl h) hf
      ·exact h
     have cG:tc.kd≠("file" : Str):=fun z=>hf (.inl z);have mX:¬ (S.left=[]/\d.last=false):=fun z=>hf (.inr z);by_cases hm1:k∈S.bB
     ·exact ⟨_,_,.go hA n1 n2 hp (by omega) (.lead hv gH eA m4 cG mX (.ring hm1)),nofun⟩
     by_cases qE:S.read=40
     ·exact ⟨_,_,.go hA n1 n2 hp (by omega) (.lead hv gH eA m4 cG mX (.many hm1 qE)),nofun⟩
     obtain ⟨tl,e1,e2,e3⟩:=(g.th _ tc eA).ld jH;obtain ⟨tr,iC,Fe⟩:=hr;obtain ⟨ar,EH⟩:=adr hL iC;have hlen:(dJ tl).length<=124:=by
      have h1:=@vC (Tx.words 47 tl) tl;have h2:=GG 47 tl;unfold dJ;rw [At];omega
     have qw:=Au (dJ tl);have dP:=w.rl;refine ⟨_,_,.go hA n1 n2 hp (by omega) (.lead hv gH eA m4 cG mX (.read hm1 qE (.mk gH eA e1 e2.l1 e2.l2 e2.all hlen EH iC (g.dj _)))),fun _=>⟨⟨?_,fun q hq=>?_,?_,?_⟩,?_⟩⟩
     ·unfold iS;by_cases hrt:bV tl=true
      ·rw [IN hrt];exact ⟨tr,iC,.inl ⟨Fe,.refl⟩⟩
      ·rw [Id hrt];exact ⟨t,ht,.inl ⟨bu,hb⟩⟩
     ·unfold iS at hq;rcases TW.mp hq with hq | hq
      ·rcases TW.mp hq with hq | hq
       ·exact w.ps q hq
       ·cases KM.mp hq
      ·exact Lk e2.all q (Km hq)
     ·unfold iS;show fk ((S.left++[.inl k])++cm (dJ tl))=(S.bB++[k]).length;rw [tX,tX,HB,w.cn,Da];rfl
     ·unfold iS;show S.read+1<=40;omega
     ·unfold iS mu cW;simp only [Da,Os,_M,qw];omega
 ·exact ⟨_,_,.flat ha ht bu,nofun⟩
def B2 (g:Gd d.M) (hL:d.L.length=d.M.ts.length) (hr:∃ t,d.M.ts[d.root]?=some t/\t.kd=("folder" : Str)):∀ (n:Nat) {S:Ws},mu S<=n->C6 d S->∃ m S' o,dG d m S S' o/\(o=none->Val d.M d.root S')
 | n,S,hn,w=>by
  rcases Jag S.left with e | ⟨l,x,e⟩
  ·exact ⟨_,_,_,.done e,fun _=>w.v⟩
  rw [Jah] at e;have hlen:S.left.length=l.length+1:=by rw [e,Da]; rfl
  have jf:∀ p,Sum.inr p∈l->pR p:=fun p hp=>w.ps p (by rw [e]; exact _a _ hp);have jg:=w.cn;rw [e,tX] at jg
  match n,hn with
  | 0,hn=>unfold mu at hn; omega
  | n+1,hn =>
   cases x with
   | inl k =>
    have h1:fk [Sum.inl (β:=Str) k]=1:=rfl;rw [h1] at jg;rcases Jag S.bB with er | ⟨r,j,er⟩
    ·rw [er] at jg; simp at jg
    rw [Jah] at er;rw [er,Da] at jg;obtain ⟨m,S',o,h2,h3⟩:=B2 g hL hr n (S:={ S with left:=l,bB:=r }) (by unfold mu at hn ⊢; dsimp only; omega) ⟨w.v,jf,by show fk l=r.length; simp at jg; omega,w.rl⟩;exact ⟨_,_,_,.pop e er h2,h3⟩
   | inr p =>
    have h1:fk [Sum.inr (α:=Nat) p]=0:=rfl;rw [h1] at jg;obtain ⟨S1,o,h2,h3⟩:=RU g hL hr (S:={ S with left:=l }) (p:=p) ⟨w.v,jf,jg,w.rl⟩ (w.ps p (by rw [e]; simp));cases o with
    | some y=>exact ⟨_,_,_,.fail e h2,nofun⟩
    | none =>
     obtain ⟨w1,hm⟩:=h3 rfl;obtain ⟨m,S',o,h4,h5⟩:=B2 g hL hr n (S:=S1) (by unfold mu at hn hm ⊢; dsimp only at hm; omega) w1;exact ⟨_,_,_,.step e h2 h4,h5⟩
def dU.R1 {S S':Ws} {p:Str} {o:Option Tl} {x:Sum Nat Str} {r:List (Sum Nat Str)} (h:dU d S p S' o) (e:S.left=x::r):∃ r',S'.left=x::r':=by
 cases h with
 | flat=>exact ⟨_,e⟩
 | fZ=>exact ⟨_,e⟩
 | dot=>exact ⟨_,e⟩
 | up=>exact ⟨_,e⟩
 | go _ _ _ _ _ hb =>
  cases hb with
  | no=>exact ⟨_,e⟩
  | folder=>exact ⟨_,e⟩
  | fin=>exact ⟨_,e⟩
  | lead _ _ _ _ _ _ hm =>
   cases hm with
   | ring=>exact ⟨_,e⟩
   | many=>exact ⟨_,e⟩
   | read _ _ hr =>
    cases hr;unfold iS;dsimp only;exact ⟨_,by rw [show (cW S).left=x::r from e]; rfl⟩
def TY {n:Nat} {S S':Ws} {o:Option Tl} (h:dG d n S S' o):o=none->∀ {r},S.left=.inr ("." : Str)::r->∃ t,d.M.ts[S'.here]?=some t/\t.kd=("folder" : Str):=by
 induction h with
 | done e=>intro _ r e'; rw [e] at e'; cases e'
 | @pop n S k l r j S' o e er _ ih =>
  intro ho r' e';rw [e] at e'
  match l,e' with
  | [],e'=>cases e'
  | y::l,e' =>
   rw [List.cons_append] at e';injection e' with e1 e2;exact ih ho (by rw [e1])
 | @step n S p l S1 S' o e hs hr ih =>
  intro ho r' e';rw [e] at e'
  match l,e' with
  | [],e' =>
   have ep:p=("." : Str):=by injection e' with e1 e2; exact Sum.inr.inj e1
   subst ep;cases hs with
   | dot hA _ =>
    cases hr with
    | done _=>exact ⟨_,hA.e,hA.k⟩
    | pop e1=>exact absurd e1 (by unfold cW; simp)
    | step e1=>exact absurd e1 (by unfold cW; simp)
    | fail e1=>exact absurd e1 (by unfold cW; simp)
   | up _ h5=>exact absurd h5 (by decide +kernel)
   | go _ _ h6=>exact absurd rfl h6
  | y::l,e' =>
   rw [List.cons_append] at e';injection e' with e1 e2;obtain ⟨r2,e3⟩:=hs.R1 (x:=y) (r:=l) rfl;exact ih ho (by rw [e3,e1])
 | fail=>intro ho; cases ho
def Xb (g:Gd d.M) (hL:d.L.length=d.M.ts.length) (hn:d.M.ts.length<=90) {S:Ws} (v:Val d.M d.root S):∃ ns cF,vt d.M d.L d.root S ns cF:=by
 obtain ⟨t,ht,hk⟩:=v;obtain ⟨a,ha⟩:=adr hL ht;rcases hk with ⟨bu,hb⟩ | ⟨bu,f,nm,tf,hp,h8,cf,hb⟩
 ·obtain ⟨ns,h1,h2,h3⟩:=g.nm hL S.here S.here t (Ev _) ht hb;have:=(Do.mp ht).1;exact ⟨ns,[],S.here,a,t,ha,ht,.inl ⟨bu,rfl,rfl⟩,⟨_,h1⟩,by omega,h3⟩
 ·obtain ⟨ns,h1,h2,h3⟩:=g.nm hL f f tf (Ev _) cf hb;have:=(Do.mp cf).1;exact ⟨ns,[nm],f,a,t,ha,ht,.inr ⟨bu,nm,hp,rfl,h8⟩,⟨_,h1⟩,by omega,h3⟩
end
def IB (M:Hs) (r:Nat) (e:End):Prop:=∀ k ns,e.res=.found k ns->∃ t,M.ts[k]?=some t/\(t.kd=("folder" : Str)->fN M r k)
section
variable {M:Hs} {L:List Ta} {z:Str} {r:Nat} {last:Bool}
def Dc (g:Gd M) (hL:L.length=M.ts.length) (hn:M.ts.length<=90) (hz:z∈AS) (last:Bool) {fr:Bool} {ps:List Str} (jf:∀ p∈ps,pR p) (hl:ps.length<=2500) :
  ∃ r e,aM (sD M.ro) (.inr z)=some (.int ((r:Nat):Int))/\cL ⟨L,M,z,last,r⟩ fr ps e/\IB M r e/\∀ qs,ps=qs++[("." : Str)]->∀ k ns,e.res=.found k ns->∃ t,M.ts[k]?=some t/\t.kd=("folder" : Str):=by
 obtain ⟨r,k0,ga⟩:=g.as z hz;obtain ⟨st,t,aU,ht,bu,hb⟩:∃ (st:Nat) (t:Th),(fr=true/\st=r\/fr=false/\aM (sD M.st) (.inr z)=some (.int (st:Int)))/\M.ts[st]?=some t/\t.kd=("folder" : Str)/\fN M r st:=by
  cases fr with
  | true=>obtain ⟨t,h1,h2⟩:=ga.tr; exact ⟨r,t,.inl ⟨rfl,rfl⟩,h1,h2,.refl⟩
  | false=>obtain ⟨t,h1,h2⟩:=ga.tk; exact ⟨k0,t,.inr ⟨rfl,ga.st⟩,h1,h2,ga.b⟩
 obtain ⟨a,ha⟩:=adr hL ht;obtain ⟨n,S',o,hr,hv⟩:=B2 (d:=⟨L,M,z,last,r⟩) g hL ga.tr _ (S:=⟨st,none,0,[],cm ps,[],0,0⟩) (Ev _) ⟨⟨t,ht,.inl ⟨bu,hb⟩⟩,fun p hp=>jf p (Km hp),HB ps,GT _⟩;have hB:pK ⟨L,M,z,last,r⟩ fr st:=⟨ga.ro,st,st,[],a,t,aU,ha,ht,g.dj st,⟨st,g.seen hL st st t (Ev _) ht hb⟩,rfl⟩;cases o with
 | some y=>exact ⟨r,_,ga.ro,.told hB hl hr,fun k ns e=>(by cases y <;> cases e),fun qs _ k ns e=>by cases y <;> cases e⟩
 | none =>
  obtain ⟨ns,cF,iC⟩:=Xb (d:=⟨L,M,z,last,r⟩) g hL hn (hv rfl);refine ⟨r,_,ga.ro,.found hB hl hr iC,fun k ns' e=>?_,fun qs hq k ns' e=>?_⟩
  ·cases e;obtain ⟨t',h,hh⟩:=hv rfl;refine ⟨t',h,fun hf=>?_⟩;rcases hh with hh | hh
   ·exact hh.2
   ·exact absurd hf hh.1
  ·cases e;exact TY hr rfl (r:=cm qs |>.map id) (by rw [hq]; unfold cm; simp)
def WT (g:Gd M) (hL:L.length=M.ts.length) (hn:M.ts.length<=90) (hz:z∈AS) (last:Bool) {t:List Nat} (p:eP t):∃ r e,aM (sD M.ro) (.inr z)=some (.int ((r:Nat):Int))/\fq ⟨L,M,z,last,r⟩ t e/\IB M r e:=by
 have hw:=@vC (Tx.words 47 t) t;have h2:=GG 47 t;have h3:=p.l2;obtain ⟨r,e,h0,h1,h2,_⟩:=Dc g hL hn hz last (fr:=bV t) (Lk p.all) (by unfold dJ; rw [At]; omega);exact ⟨r,e,h0,⟨p.l1,p.l2,p.all,h1⟩,h2⟩
def Jl {ps:List (List Nat)} (h:ps.all b9=true):∃ r,dQ ps r:=by
 rcases Jag ps with e | ⟨q,nm,e⟩
 ·exact ⟨none,.nil e⟩
 ·rw [Jah] at e;cases hn:isNm nm with
  | true=>exact ⟨_,.BD e hn⟩
  | false=>exact ⟨none,.eO e hn (iH (GM.mp h nm (by rw [e]; simp))).2.2⟩
def Qw (g:Gd M) (hL:L.length=M.ts.length) (hn:M.ts.length<=90) (hz:z∈AS) {t:List Nat} (p:eP t) (hl:(Tx.words 47 t).length<=300) :
  ∃ root r,oh ⟨L,M,z,true,root⟩ t r/\∀ f nm,r=.inr (f,nm)->∃ tf,M.ts[f]?=some tf/\tf.kd=("folder" : Str)/\isNm nm=true/\aM (sD tf.aR) (.inr (Tx.S nm))=none:=by
 have hw:=@vC (Tx.words 47 t) t;obtain ⟨r,hr⟩:=Jl (sJ (t:=t) p.all);cases r with
 | none=>exact ⟨0,_,.no (.eO hr),fun f nm e=>by cases e⟩
 | some qn =>
  obtain ⟨q,nm⟩:=qn;have he:told (Tx.words 47 t) t=q++[nm]:=by cases hr; assumption
  have bX:isNm nm=true:=by cases hr; assumption
  have ef:=sJ (t:=t) p.all;rw [he,_9,IR] at ef;have hq:q.length<=900:=by rw [he,Da] at hw; omega
  obtain ⟨root,e,_,h1,h2,h3⟩:=Dc g hL hn hz true (fr:=bV t) (ps:=q.map Tx.S++[("." : Str)]) (fun x hx=>by
   rcases TW.mp hx with hx | hx
   ·obtain ⟨y,hy,rfl⟩:=LE.mp hx;exact zV (GM.mp ef.1 y hy)
   ·exact .inl (KM.mp hx)) (by simp; omega)
  by_cases hf:∃ f ns,e.res=.found f ns
  ·obtain ⟨f,ns,qA⟩:=hf;have hs:gB ⟨L,M,z,true,root⟩ t (.inr (f,nm)):=.vF hr hq h1 qA;obtain ⟨tf,cf,jc⟩:=h3 _ rfl f ns qA;obtain ⟨a,ha⟩:=adr hL cf;cases hm:dF ("w" : Str) (dm tf z) with
   | false=>exact ⟨root,_,.kept hs cf hm,fun f nm e=>by cases e⟩
   | true =>
    cases hv:aM (sD tf.aR) (.inr (Tx.S nm)) with
    | some v =>
     obtain ⟨c,rfl⟩:=Ms hv;exact ⟨root,_,.there hs bX ha cf hm hv,fun f nm e=>by cases e⟩
    | none=>exact ⟨root,_,.free hs bX ha cf hm hv,fun f' nm' e=>by cases e; exact ⟨tf,cf,jc,bX,hv⟩⟩
  ·exact ⟨root,_,.no (.way hr hq h1 fun k ns hk=>hf ⟨k,ns,hk⟩),fun f nm e=>by cases e⟩
def Gd.lift {M':Hs} (g:Gd M) (h1:M'.ro=M.ro) (h2:M'.st=M.st) (h3:M'.tr=M.tr) (h4:M'.ov=M.ov) (h5:M'.un=M.un) (old:∀ (k:Nat) (t:Th),M.ts[k]?=some t->∃ t':Th,M'.ts[k]?=some t'/\t'.kd=t.kd/\t'.bW=t.bW) (th:∀ k t,M'.ts[k]?=some t->uy M' k t):Gd M':=by
 have bl:∀ {r k},fN M r k->fN M' r k:=fun {r k} b=>by
  induction b with
  | refl=>exact .refl
  | up a1 a2 _ ih =>
   obtain ⟨t',e1,_,e3⟩:=old _ _ a1;exact .up e1 (e3.trans a2) ih
 refine ⟨h3.trans g.tr,h4.trans g.ov,h5.trans g.un,fun z hz=>?_,by rw [h1]; exact g.rl,by rw [h2]; exact g.sl,?_,th⟩
 ·obtain ⟨r,k,a⟩:=g.as z hz;refine ⟨r,k,by rw [h1]; exact a.ro,by rw [h2]; exact a.st,bl a.b,?_,?_⟩
  ·obtain ⟨t,e1,e2⟩:=a.tr;obtain ⟨t',e3,e4,_⟩:=old _ _ e1;exact ⟨t',e3,e4.trans e2⟩
  ·obtain ⟨t,e1,e2⟩:=a.tk;obtain ⟨t',e3,e4,_⟩:=old _ _ e1;exact ⟨t',e3,e4.trans e2⟩
 ·obtain ⟨t,e1,e2⟩:=g.t0;obtain ⟨t',e3,e4,_⟩:=old _ _ e1;exact ⟨t',e3,e4.trans e2⟩
def uy.lift {M':Hs} {k:Nat} {t t':Th} (h:uy M k t) (hl:M.ts.length<=M'.ts.length) (e1:t'.kd=t.kd) (e2:t'.bW=t.bW) (e3:t'.aR=t.aR) (e4:t'.tx=t.tx) (old:∀ (k:Nat) (t:Th),M.ts[k]?=some t->∃ t':Th,M'.ts[k]?=some t'/\t'.kd=t.kd/\t'.bW=t.bW):uy M' k t':=by
 refine ⟨by rw [e3]; exact Gc h.nl hl,by rw [e1]; exact h.kd,by rw [e1,e4]; exact h.ld,?_,fun z v hv=>?_⟩
 ·rcases h.pl with ⟨a,b⟩ | ⟨f,nm,tf,a1,a2,a3,a4,a5⟩
  ·exact .inl ⟨a,e2.trans b⟩
  ·obtain ⟨t2,b1,b2,_⟩:=old _ _ a4;exact .inr ⟨f,nm,t2,a1,e2.trans a2,a3,b1,b2.trans a5⟩
 ·rw [e3] at hv;obtain ⟨c,tc,a1,a2,a3⟩:=h.ch z v hv;obtain ⟨t2,b1,_,b3⟩:=old _ _ a2;exact ⟨c,t2,a1,b1,b3.trans a3⟩
def Gd.make (g:Gd M) {f:Nat} {tf:Th} {nm kd mi re tx:Str} (cf:M.ts[f]?=some tf) (jc:tf.kd=("folder" : Str)) (bX:nm.length<=8) (hvf:aM (sD tf.aR) (.inr nm)=none) (hk:kd=("folder" : Str)\/kd=("file" : Str)\/kd=("lead" : Str)) (FP:kd=("lead" : Str)->∃ tl,tx=Tx.S tl/\eP tl/\tl.length<=120) :
  Gd { M with ts:=M.ts.set f { tf with aR:=tf.aR++[(nm,M.ts.length)] }++[⟨kd,z,mi,re,tx,[],[(f,nm)]⟩] }:=by
 have hf:=(Do.mp cf).1;have hlen:(M.ts.set f { tf with aR:=tf.aR++[(nm,M.ts.length)] }).length=M.ts.length:=List.length_set;have old:∀ (k:Nat) (t:Th),M.ts[k]?=some t->∃ t':Th,(M.ts.set f { tf with aR:=tf.aR++[(nm,M.ts.length)] }++[(⟨kd,z,mi,re,tx,[],[(f,nm)]⟩:Th)])[k]?=some t'/\t'.kd=t.kd/\t'.bW=t.bW:=fun k t ht=>by
  have hk:=(Do.mp ht).1;rw [Re (by rw [hlen]; exact hk)];by_cases e:k=f
  ·subst e;rw [Wp hk];rw [cf] at ht; cases ht;exact ⟨_,rfl,rfl,rfl⟩
  ·rw [Uf (Fa e)];exact ⟨t,ht,rfl,rfl⟩
 have new:(M.ts.set f { tf with aR:=tf.aR++[(nm,M.ts.length)] }++[(⟨kd,z,mi,re,tx,[],[(f,nm)]⟩:Th)])[M.ts.length]?=some ⟨kd,z,mi,re,tx,[],[(f,nm)]⟩:=by
  rw [Ps (by rw [hlen]; exact Ev _),hlen,Nat.sub_self]; rfl
 have ll:M.ts.length<=(M.ts.set f { tf with aR:=tf.aR++[(nm,M.ts.length)] }++[(⟨kd,z,mi,re,tx,[],[(f,nm)]⟩:Th)]).length:=by rw [Da,hlen]; omega
 refine g.lift rfl rfl rfl rfl rfl old fun k t ht=>?_;have ht':(M.ts.set f { tf with aR:=tf.aR++[(nm,M.ts.length)] }++[(⟨kd,z,mi,re,tx,[],[(f,nm)]⟩:Th)])[k]?=some t:=ht;by_cases hk':k < M.ts.length
 ·rw [Re (by rw [hlen]; exact hk')] at ht';by_cases e:k=f
  ·subst e;rw [Wp hk'] at ht';cases ht';have h0:=g.th k tf cf;have h:=h0.lift (M':={ M with ts:=M.ts.set k { tf with aR:=tf.aR++[(nm,M.ts.length)] }++[⟨kd,z,mi,re,tx,[],[(k,nm)]⟩] }) (t':=tf) ll rfl rfl rfl rfl old;refine ⟨by show (tf.aR++[(nm,M.ts.length)]).length<=_; rw [Da,Da,hlen]; have:=h0.nl; simp; omega,h.kd,h.ld,h.pl,fun y v hv=>?_⟩;have e:sD (tf.aR++[(nm,M.ts.length)])=sD tf.aR++[(.inr nm,.int ((M.ts.length:Nat):Int))]:=by unfold sD; rw [Tm]; rfl
   have hv':aM (sD (tf.aR++[(nm,M.ts.length)])) (.inr y)=some v:=hv;rw [e,Kz _ _ _ _ hvf] at hv';split at hv'
   ·rename_i he;cases hv';injection he with he;exact ⟨M.ts.length,_,rfl,new,by rw [he]⟩
   ·exact h.ch y v hv'
  ·rw [Uf (Fa e)] at ht';exact (g.th k t ht').lift ll rfl rfl rfl rfl old
 ·have xD:k < M.ts.length+1:=by
   have:=(Do.mp ht').1;rw [Da,hlen] at this; exact this
  have:k=M.ts.length:=by omega
  subst this;rw [new] at ht';cases ht';obtain ⟨t',e1,e2,_⟩:=old _ _ cf;exact ⟨by show 0<=_; exact GT _,hk,FP,.inr ⟨f,nm,t',hf,rfl,bX,e1,e2.trans jc⟩,fun y v hv=>by cases hv⟩
end
def Y3:T.rC.k P w mg base 3 (jE T.aK T.aQ T.bb Ad.t LQ):=by
 refine T.rC.F.ok O3 (fun _ _ _ _ h=>bY h fun _ _ _=>rfl) fun ag A outer s H vs Q E hr h=>bY h fun x n h=>?_;obtain ⟨AA,L,M,k,a,t,i,rfl,rfl,ha,aF,q⟩:=h;obtain ⟨fs,c,hx,bf,sf⟩:=i.h;obtain ⟨gs,c2,ht,dN,sg⟩:=i.t;have cN:=eZ i ha aF;obtain ⟨ks,ho,je,so⟩:=cN.o;refine ⟨_,((bi (cr (kt (Sd (K:=K) rfl rfl) T.GQ Ka (al (bn T.dM T.u0 (pc T.ck T.dD.h (jA T) hr.m T.dD.b .nil dC (ad 0) (al (ad 1) am))) am))))).h,?_⟩;refine stI [some (V.ref AA.t),some (V.int (k:Int))] ?_;left;refine (mI ht sg (kX i ha aF ⟨a.th,_,_,.ref a.nm,rfl,ho,(so _).trans rfl,.inr (.inl ⟨a.nm,_,t.aR.map (·.1),rfl,cN.nm,by unfold sD; rw [_m,_m]; rfl,by rw [At]; exact q.1,q.2⟩)⟩))
def XH:T.uc.k P w mg base 4 (jE T.aK T.aQ T.bb Ad.a LQ):=by
 refine T.uc.F.ok Yn (fun _ _ _ _ h=>bY h fun _ _ _=>rfl) fun ag A outer s H vs Q E hr h=>bY h fun x n h=>?_;obtain ⟨AA,L,M,k,a,t,i,rfl,rfl,ha,aF,q⟩:=h;obtain ⟨fs,c,hx,bf,sf⟩:=i.h;obtain ⟨gs,c2,ht,dN,sg⟩:=i.t;have cN:=eZ i ha aF;obtain ⟨ks,ho,je,so⟩:=cN.o;refine ⟨_,((bi (cr (ge T.ck T.rC.h (Y3 T) hr.m T.rC.b .nil az (bn T.aN T.f9 (ad 0)) (al (ad 1) am))))).h,?_⟩;refine stI [some (V.ref AA.a),some (V.int (k:Int))] ?_;left;exact ⟨AA.a,_,_,.ref AA.t,rfl,hx,(sf _).trans rfl,AA.t,_,_,rfl,ht,(sg _).trans rfl,AA,L,M,k,a,t,i,rfl,rfl,ha,aF,q⟩
abbrev Dq:kb:=fun _ _ _ _ _ t H Q=>(t.bW=[]/\∀ l,H l=none->Q (.ref l) (upd H l (.lst [])))\/∃ f z,t.bW=[(f,z)]/\∀ y l,H y=some (.tup [.int (f:Nat),.str z])->H l=none->Q (.ref l) (upd H l (.lst [.ref y]))
def aa2:T.uf.k P w mg base 3 (jE T.aK T.aQ T.bb Ad.t Dq):=by
 refine T.uf.F.ok Ye (fun _ _ _ _ h=>bY h fun _ _ _=>rfl) fun ag A outer s H vs Q E hr h=>bY h fun x n h=>?_;obtain ⟨AA,L,M,k,a,t,i,rfl,rfl,ha,aF,q⟩:=h;obtain ⟨fs,c,hx,bf,sf⟩:=i.h;obtain ⟨gs,c2,ht,dN,sg⟩:=i.t;have cN:=eZ i ha aF;obtain ⟨ks,ho,je,so⟩:=cN.o;refine ⟨_,((bi (cr (kt (P9 rfl) T.GQ Ka (al (bn T.dM T.rL (pc T.ck T.dD.h (jA T) hr.m T.dD.b .nil dC (ad 0) (al (ad 1) am))) am))))).h,?_⟩;refine stI [some (V.ref AA.t),some (V.int (k:Int))] ?_;left;refine (mI ht sg (kX i ha aF ⟨a.th,_,_,.ref a.pl,rfl,ho,(so _).trans rfl,a.pl,_,rfl,cN.pl,?_⟩));rcases q with ⟨e,q⟩ | ⟨f,z,e,q⟩
 ·rw [e]; exact .inl ⟨rfl,q⟩
 ·rw [e]; exact .inr ⟨_,_,rfl,q⟩
def Vj:T.qY.k P w mg base 4 (jE T.aK T.aQ T.bb Ad.a Dq):=by
 refine T.qY.F.ok aaA (fun _ _ _ _ h=>bY h fun _ _ _=>rfl) fun ag A outer s H vs Q E hr h=>bY h fun x n h=>?_;obtain ⟨AA,L,M,k,a,t,i,rfl,rfl,ha,aF,q⟩:=h;obtain ⟨fs,c,hx,bf,sf⟩:=i.h;obtain ⟨gs,c2,ht,dN,sg⟩:=i.t;have cN:=eZ i ha aF;obtain ⟨ks,ho,je,so⟩:=cN.o;refine ⟨_,((bi (cr (ge T.ck T.uf.h (aa2 T) hr.m T.uf.b .nil az (bn T.aN T.f9 (ad 0)) (al (ad 1) am))))).h,?_⟩;refine stI [some (V.ref AA.a),some (V.int (k:Int))] ?_;left;exact ⟨AA.a,_,_,.ref AA.t,rfl,hx,(sf _).trans rfl,AA.t,_,_,rfl,ht,(sg _).trans rfl,AA,L,M,k,a,t,i,rfl,rfl,ha,aF,q⟩
def Pa:Sp:=Gw fun _ _ H Q _=>∀ r:Int,0<=r->Q (.int r) H
def YT:T.qi.k P w base 1 Pa:=by
 refine T.qi.F.ok Ab (fun _ _ _ _ h=>LV h fun _ _ _=>rfl) fun ag A outer s H vs Q E hr h=>LV h fun y z h=>?_;refine ⟨_,((ap (dl 2 Ab.nd (io mr (io wu (io fT (io fT (ad 0) (io wu bv (ad 1))) bv) bv) bv))
 (ap (dl 2 Ab.nd (io mr (io wu (ad 2) (io fT (io Aa (ad 2) bv) bv)) bv))
 (bi (cr (io mr (io wu (ad 2) (io fT (io Aa (ad 2) bv) bv)) bv)))))).h,?_⟩
 refine stI [some (.int y),some (.int z),none] ?_;right;refine ⟨.inl ⟨by decide,by decide⟩,.inr ⟨by decide,by decide⟩,by decide,ah ?_⟩;left;generalize hm:(y+7919 * z+1) * 48271 % 2147483647=m;have m0:0<=m:=by rw [<- hm]; exact Ja0 _ (by decide)
 have m1:m < 2147483647:=by rw [<- hm]; exact Ja2 _ (by decide)
 refine ⟨⟨by decide,by decide⟩,.inl ⟨by omega,by omega⟩,by decide,?_⟩;left;generalize hn:m * (m / 1009+69621) % 2147483647=n;have n0:0<=n:=by rw [<- hn]; exact Ja0 _ (by decide)
 have n1:n < 2147483647:=by rw [<- hn]; exact Ja2 _ (by decide)
 refine ⟨⟨by decide,by decide⟩,.inl ⟨by omega,by omega⟩,by decide,?_⟩;exact h _ (Ja0 _ (by decide))
def SU:Sp:=HE fun _ H Q _=>∀ l a b c,H l=none->Q (.ref l) (upd H l (.lst [.int a,.int b,.int c]))
def CV:T.ik.k P w base 1 SU:=by
 refine T.ik.F.ok abd (fun _ _ _ _ h=>JE h fun _ _=>rfl) fun ag A outer s H vs Q E hr h=>JE h fun y h=>?_;refine ⟨_,((ap (em (im sY (ad 0) (io abc bv bv)) (bi (cr (li (al bv (al (io mr (ad 0) bv) (al bv am)))))) gl)
 (bi (cr (li (al (ad 0) (al (io mr (ad 0) bv) (al bv am)))))))).h,?_⟩
 refine stI [some (.int y)] ?_;right;refine ⟨by constructor <;> decide,mm (fun _=>⟨by decide,fits (by simp),fun p hp=>h _ _ _ _ hp⟩) (fun _=>⟨by decide,fits (by simp),fun p hp=>h _ _ _ _ hp⟩)⟩
def yU:Sp:=iQ fun st b H Q _=>X3 fun x y z=>A4 (H st=some (.lst [.int x,.int y,.int z])) (0 < b) (b<=1000) (∀ d x' y' z' H',0<=d->d < b->H' st=some (.lst [.int x',.int y',.int z'])->cJ st H H'->Q (.int d) H')
def kz:T.cB.k P w base 2 yU:=by
 refine T.cB.F.ok Mc (fun _ _ _ _ h=>bY h fun _ _ _=>rfl) fun ag A outer s H vs Q E hr h=>bY h fun st b h=>?_;obtain ⟨x,y,z,h1,ng,qP,q⟩:=h;refine ⟨_,((ap (em (im Br (ii (bP (K:=K) rfl) (ad 0) bv) bv) (ap (dl 2 Mc.nd (io mr (ii (bP (K:=K) rfl) (ad 0) bv) (ad 1)))
 (ap (Dv.IJ (io Aa (ii (bP (K:=K) rfl) (ad 0) bv) (ad 1)) (Dv.GH (ad 0) bv MF))
 (bi (cr (ad 2))))) gl)
 (ap (Dv.IJ (io fT (ii (bP (K:=K) rfl) (ad 0) bv) bv) (Dv.GH (ad 0) bv MF))
 (bi (cr (io mr (db (YT T) hr.m T.qi.m T.qi.F.kp T.qi.b .nil az (al (ii (bP (K:=K) rfl) (ad 0) bv) (al (ii (bP (K:=K) rfl) (ad 0) bv) am))) (ad 1))))))).h,?_⟩
 refine stI [some (.ref st),some (.int b),none] ?_;right;simp only [bH,h1,gz];refine mm (fun _=>?_) (fun _=>?_)
 ·right;simp only [bH,h1,gz];refine ⟨ng,ah ?_⟩;left;simp only [bH,h1,gz,Os,Rk,List.set_cons_zero];refine ⟨⟨ng,by omega⟩,?_⟩;exact q _ _ _ _ _ (Ja0 _ (by omega)) (Ja2 _ ng) aw cJ.upd
 ·right;simp only [bH,h1,LZ,Os,_M,Vr,List.set_cons_zero,List.set_cons_succ];left;simp only [bH,aw,wN,LZ];intro r r0;refine ⟨ng,?_⟩;exact q _ _ _ _ _ (Ja0 _ (by omega)) (Ja2 _ ng) aw cJ.upd
def Dr (st:Addr) (H:Hp):Prop:=∃ x y z:Int,H st=some (.lst [.int x,.int y,.int z])
def Dr.same {st:Addr} {H H':Hp} (h:Dr st H) (s:ai H H'):Dr st H':=let ⟨x,y,z,e⟩:=h; ⟨x,y,z,s _ _ e⟩
def Dr.ne {st p:Addr} {H:Hp} (h:Dr st H) (hp:H p=none):p≠st:=let ⟨x,y,z,e⟩:=h; fun q=>by rw [q,e] at hp; cases hp
def vv {st:Addr} {b:Int} {H:Hp} {Q:VK} {E:XK} (h:Dr st H) (ng:0 < b) (qP:b<=1000) (q:∀ d H',0<=d->d < b->Dr st H'->cJ st H H'->Q (.int d) H'):yU [.ref st,.int b] H Q E:=by
 obtain ⟨x,y,z,e⟩:=h;exact ⟨x,y,z,e,ng,qP,fun d x' y' z' H' d0 d1 e' k=>q d H' d0 d1 ⟨x',y',z',e'⟩ k⟩
def pick {xs:List V} {d:Int} (h0:0<=d) (h1:d < xs.length):∃ v∈xs,cM xs d=some v:=by
 obtain ⟨n,rfl⟩:=_F h0;have hn:n < xs.length:=by omega
 exact ⟨xs[n],_1 hn,gQ (Db hn)⟩
def mf {H:Hp} {st:Addr} {xs:List V} {Q:VK} {E:XK} {b:Int} (h:Dr st H) (hb:b=xs.length) (hn:xs.length<=1000) (h0:0 < xs.length) (q:∀ v H',v∈xs->Dr st H'->cJ st H H'->Q v H') :
  xs.length<=sizeLine/\∀ p,H p=none->yU [.ref st,.int b] (upd H p (.lst xs)) (fun y H2=>qk K (.ref p) y H2 Q) E:=by
 refine ⟨fits hn,fun p hp=>?_⟩;have s1:=ai.upd (o:=.lst xs) hp;have b1:upd H p (.lst xs) p=some (.lst xs):=aw;have np:=h.ne hp;generalize upd H p (.lst xs)=H1 at s1 b1 ⊢;refine vv (h.same s1) (by omega) (by omega) fun d H2 d0 d1 h2 k2=>?_;obtain ⟨v,hv,e⟩:=pick (xs:=xs) d0 (by omega);simp only [qk,bH,k2 _ _ np b1,e];exact q v H2 hv h2 ((s1.keep st).trans k2)
def Xv:Sp:=ij fun st H Q _=>Dr st H/\∀ nm H',b9 nm=true->Dr st H'->cJ st H H'->Q (.str (Tx.S nm)) H'
def QY:T.qg.k P w base 3 Xv:=by
 refine T.qg.F.ok UE (fun _ _ _ _ h=>da h fun _ _=>rfl) fun ag A outer s H vs Q E hr h=>da h fun st h=>?_;obtain ⟨aU,q⟩:=h;refine bK (b:=aV zT) ((bi (cr (ii (bP (K:=K) rfl) (li (al ci (al ci (al ci (al ci (al ci (al ci (al ci am)))))))) (db (kz T) hr.m T.cB.m T.cB.F.kp T.cB.b .nil az (al (ad 0) (al bv am))))))) ?_;refine stI [some (V.ref st)] ?_;left;refine mf aU rfl (by simp) (by simp) fun v H1 hv h1 k1=>?_;obtain ⟨nm,hn,rfl⟩:∃ nm,b9 nm=true/\v=V.str (Tx.S nm):=by
  simp only [AT,EQ,KB] at hv;rcases hv with rfl | rfl | rfl | rfl | rfl | rfl | rfl
  ·exact ⟨[97],by decide +kernel,by decide +kernel⟩
  ·exact ⟨[98],by decide +kernel,by decide +kernel⟩
  ·exact ⟨[97,98],by decide +kernel,by decide +kernel⟩
  ·exact ⟨[97,98,99,100,101,102,103,104],by decide +kernel,by decide +kernel⟩
  ·exact ⟨[46,46],by decide +kernel,by decide +kernel⟩
  ·exact ⟨[46],by decide +kernel,by decide +kernel⟩
  ·exact ⟨[99],by decide +kernel,by decide +kernel⟩
 exact q nm H1 hn h1 k1
def joinR (n:Nat):List (List Nat)->List Nat
 | []=>[]
 | [x]=>x
 | x::y::r=>x++List.replicate n 47++joinR n (y::r)
def ot (n:Nat):∀ ps:List (List Nat),Str.join (Tx.S (List.replicate n 47)) (ps.map Tx.S)=Tx.S (joinR n ps)
 | []=>rfl
 | [x]=>rfl
 | x::y::r=>by
  have ih:=ot n (y::r);show Tx.S x++Tx.S (List.replicate n 47)++Str.join (Tx.S (List.replicate n 47)) ((y::r).map Tx.S)=Tx.S (x++List.replicate n 47++joinR n (y::r));rw [ih,Tx.hU,Tx.hU]
def Cj (n:Nat):∀ ps:List (List Nat),(∀ w∈ps,47 ∉ w/\w≠[])->Tx.words 47 (joinR (n+1) ps)=ps
 | [],_=>rfl
 | [x],h=>Tx.wa 47 x (h x (by simp)).1 (h x (by simp)).2
 | x::y::r,h=>by
  have ih:=Cj n (y::r) (fun w hw=>h w (LT _ hw));show Tx.words 47 (x++List.replicate (n+1) 47++joinR (n+1) (y::r))=_;rw [_j,List.append_assoc,List.cons_append,Tx.rq,Tx.JF,ih,Tx.wa 47 x (h x (by simp)).1 (h x (by simp)).2];rfl
def Ik (n k:Nat):∀ ps:List (List Nat),(∀ w∈ps,w.length<=k)->(joinR n ps).length<=ps.length * (k+n)
 | [],_=>GT _
 | [x],h=>by
  have:=h x (by simp);show x.length<=1 * (k+n);omega
 | x::y::r,h=>by
  have ih:=Ik n k (y::r) (fun w hw=>h w (LT _ hw));have:=h x (by simp);show (x++List.replicate n 47++joinR n (y::r)).length<=((y::r).length+1) * (k+n);rw [Da,Da,Jab,Nat.add_mul,Nat.one_mul];omega
def WL {t:List Nat} {w:List Nat} (h:w∈Tx.words 47 t):1<=t.length:=by
 cases t with
 | nil=>cases h
 | cons a r=>simp
structure mJ (t:List Nat):Prop where
 l1:1<=t.length
 l2:t.length<=80
 all:(Tx.words 47 t).all b9=true
 n:(Tx.words 47 t).length<=6
def SN:Sp:=iQ fun st n H Q _=>A4 (Dr st H) (0<=n) (n<=6) (∀ t H',mJ t->Dr st H'->cJ st H H'->Q (.str (Tx.S t)) H')
def vh:T.fW.k P w base 4 SN:=by
 refine T.fW.F.ok tL (fun _ _ _ _ h=>bY h fun _ _ _=>rfl) fun ag A outer s H vs Q E hr h=>bY h fun st n h=>?_;obtain ⟨aU,hn0,OC,q⟩:=h;refine bK (b:=aV By) ((ap (dl 2 tL.nd (db (kz T) hr.m T.cB.m T.cB.F.kp T.cB.b .nil az (al (ad 0) (al (io fT (ad 1) bv) am))))
 (ap (Dv.Lw 3 rfl tL.nd (TN:=["_law_k"]) (caps:=["_law_source_here"]) (ix:=[0]) (Dv.z0 T.zN (al (ad 2) am)) (fun _ _ _ _=>by exact Dv.wU) (fun _ _ _ _=>by exact (sK 0 (show List.Nodup (["_law_k","_law_source_here"]:List Str) by decide))) (fun _ _ _ _=>by exact (db (QY T) hr.m T.qg.m T.qg.F.kp T.qg.b .nil az (al (ad 1) am))) (.of rfl (by exact ⟨rfl,trivial⟩) (by walk_at "c") rfl (by exact ⟨⟨rfl,rfl,rfl,rfl⟩,trivial⟩)))
 (ap (dl 4 tL.nd (ii (bP (K:=K) rfl) (li (al ci (al ci (al ci (al ci am))))) (db (kz T) hr.m T.cB.m T.cB.F.kp T.cB.b .nil az (al (ad 0) (al bv am)))))
 (ap (dl 5 tL.nd (io fT (ii (bP (K:=K) rfl) (li (al ci (al ci am))) (Dv.t9 Mh T.Cr Bi (al (Dv.qh (u8 mj (db (kz T) hr.m T.cB.m T.cB.F.kp T.cB.b .nil az (al (ad 0) (al bv am))) bv) (AC (u8 Br (ad 2) bv))) am))) (tz _Q _R (ve (K:=K) rfl) (ad 4) (al (ad 3) am))))
 (bi (cr (io fT (ad 5) (ii (bP (K:=K) rfl) (li (al ci (al ci (al ci (al ci am))))) (db (kz T) hr.m T.cB.m T.cB.F.kp T.cB.b .nil az (al (ad 0) (al bv am)))))))))))) ?_
 refine stI [some (V.ref st),some (V.int n),none,none,none,none] ?_;right;refine vv aU (by omega) (by omega) fun d H1 d0 d1 h1 k1=>?_;obtain ⟨m,rfl⟩:=_F d0;right;refine ⟨[.ref st],⟨rfl,fun i j v h1 h2=>?_⟩,⟨by omega,by omega⟩,HP m (fun i ys H'=>cJ st H H'/\Dr st H'/\∃ ps:List (List Nat),ys=PV ps/\ps.all b9=true/\ps.length=i) (by omega) ⟨k1,h1,[],rfl,rfl,rfl⟩ (fun i ys H1 h=>?_) (fun k ys H2 hk h R r=>?_) (fun ys H2 l h hl=>?_)⟩
 ·match i,h1,h2 with
  | 0,h1,h2=>cases h1; cases h2; rfl
 ·obtain ⟨_,_,ps,rfl,_,e⟩:=h;rw [<- e]; simp [PV]
 ·obtain ⟨k2,d2,ps,rfl,hp,e⟩:=h;refine ⟨d2,fun nm H3 hn d3 k3=>r _ _ ⟨k2.trans k3,d3,ps++[nm],by simp [PV],by rw [_9,hp]; simp [hn],by rw [Da,e]; rfl⟩⟩
 ·obtain ⟨k2,d2,ps,rfl,jf,e⟩:=h;have s3:=ai.upd (o:=.lst (PV ps)) hl;have b3:upd H2 l (.lst (PV ps)) l=some (.lst (PV ps)):=aw;have nl:=d2.ne hl;have d3:=d2.same s3;have k3:=k2.trans (s3.keep st);generalize upd H2 l (.lst (PV ps))=H3 at s3 b3 d3 k3 ⊢;have hw:∀ w'∈ps,47 ∉ w'/\w'≠[]:=fun w' hw'=>let q:=iH (GM.mp jf w' hw'); ⟨q.1,q.2.1⟩
  have h8:∀ w'∈ps,w'.length<=8:=fun w' hw'=>(iH (GM.mp jf w' hw')).2.2;have bw:ps.length<=6:=by omega
  right;refine mf d3 rfl (by simp) (by simp) fun v H4 hv d4 k4=>?_;obtain ⟨j,hj,rfl⟩:∃ j:Nat,j<=1/\v=V.str (Tx.S (List.replicate (j+1) 47)):=by
   simp only [AT,EQ,KB] at hv;rcases hv with rfl | rfl | rfl | rfl
   ·exact ⟨0,by decide,by decide +kernel⟩
   ·exact ⟨0,by decide,by decide +kernel⟩
   ·exact ⟨0,by decide,by decide +kernel⟩
   ·exact ⟨1,by decide,by decide +kernel⟩
  have b4:=k4 _ _ nl b3;right;have gk:Str.ofString "/" = Tx.S [47]:=by decide +kernel
  have e0:Str.ofString "" = Tx.S []:=by decide +kernel
  refine ⟨fits (by simp),fun p hp=>?_⟩;have s5:=ai.upd (o:=.lst [V.str (Str.ofString "/"),V.str (Str.ofString "")]) hp;have b5:upd H4 p (.lst [V.str (Str.ofString "/"),V.str (Str.ofString "")]) p=some (.lst [V.str (Str.ofString "/"),V.str (Str.ofString "")]):=aw;have np:=d4.ne hp;generalize upd H4 p (.lst [V.str (Str.ofString "/"),V.str (Str.ofString "")])=H5 at s5 b5 ⊢;refine vv (d4.same s5) (by decide) (by decide) fun d H6 _ _ d6 k6=>?_;have b6:=k6 _ _ np b5;have EB:=k6 _ _ nl (s5 _ _ b4);have k36:=((k3.trans k4).trans (s5.keep st)).trans k6;have yr:=Ik (j+1) 8 ps h8;have hjb:(joinR (j+1) ps).length<=60:=Gc yr (by have:ps.length * (8+(j+1))<=6 * 10:=Nat.mul_le_mul bw (by omega); exact this);have Fb:List.foldl (fun n z=>n+z.length+(Tx.S (List.replicate (j+1) 47)).length) 0 (ps.map Tx.S)<=sizeLine:=by
   have:=BO (Tx.S (List.replicate (j+1) 47)).length (ps.map Tx.S) 0 (fun s hs=>by
    obtain ⟨x,hx,rfl⟩:=LE.mp hs;rw [Tx.cw]; exact h8 x hx)
   refine fits (Gc this ?_);rw [Tx.cw,Jab,At];have:(8+(j+1)) * ps.length<=10 * 6:=Nat.mul_le_mul (by omega) bw;omega
  have ends:∀ {v:V},v∈[V.str (Str.ofString ""),V.str (Str.ofString ""),V.str (Str.ofString ""),V.str (Str.ofString "/")]->∃ sl:List Nat,(sl=[]\/sl=[47])/\v=V.str (Tx.S sl):=fun hv=>by
   simp only [AT,EQ,KB] at hv;rcases hv with rfl | rfl | rfl | rfl
   ·exact ⟨[],.inl rfl,by rw [e0]⟩
   ·exact ⟨[],.inl rfl,by rw [e0]⟩
   ·exact ⟨[],.inl rfl,by rw [e0]⟩
   ·exact ⟨[47],.inr rfl,by rw [gk]⟩
  have FL:∀ (pre:List Nat),pre.length<=1->∀ {z:Str},z=Tx.S pre->z.length+(Str.join (Tx.S (List.replicate (j+1) 47)) (ps.map Tx.S)).length<=sizeLine:=fun pre hp z e=>by
   rw [e,ot,Tx.cw,Tx.cw]; exact fits (by omega)
  have Fd:∀ (pre sl:List Nat),pre.length<=1->(sl=[]\/sl=[47])->∀ {z:Str},z=Tx.S pre->(z++Str.join (Tx.S (List.replicate (j+1) 47)) (ps.map Tx.S)).length+(Tx.S sl).length<=sizeLine:=fun pre sl hp hs z e=>by
   have:sl.length<=1:=by rcases hs with rfl | rfl <;> simp
   rw [e,ot,Tx.hU,Tx.cw,Tx.cw,Da]; exact fits (by omega)
  have fin:∀ (pre sl:List Nat) H7,(pre=[47]\/pre=[]/\0 < m)->(sl=[]\/sl=[47])->Dr st H7->cJ st H6 H7->Q (V.str (Tx.S (pre++joinR (j+1) ps++sl))) H7:=fun pre sl H7 lF gY d7 k7=>by
   have xP:Tx.words 47 (pre++joinR (j+1) ps)=ps:=by
    rcases lF with rfl | ⟨rfl,_⟩
    ·exact (Tx.zc 47 _).trans (Cj j ps hw)
    ·exact Cj j ps hw
   have DY:Tx.words 47 (pre++joinR (j+1) ps++sl)=ps:=by
    rcases gY with rfl | rfl
    ·rw [_h]; exact xP
    ·exact (Tx.rq 47 _ []).trans (by rw [xP]; exact _h _)
   have xB:pre.length<=1:=by rcases lF with rfl | ⟨rfl,_⟩ <;> simp
   have EU:sl.length<=1:=by rcases gY with rfl | rfl <;> simp
   refine q _ _ ⟨?_,by rw [Da,Da]; omega,by rw [DY]; exact jf,by rw [DY]; exact bw⟩ d7 (k36.trans k7);rcases lF with rfl | ⟨rfl,hm⟩
   ·simp
   ·cases Fn:ps with
    | nil=>rw [Fn] at e; simp at e; omega
    | cons x r=>exact WL (w:=x) (by rw [<- Fn,DY,Fn]; simp)
  dsimp only;refine mm (fun _=>?_) (fun _=>?_)
  ·simp only [bH,b6];by_cases hm:0 < m
   ·rw [Go (by omega:(0:Int) < (m:Int)),IN rfl,show cM [V.str (Str.ofString "/"),V.str (Str.ofString "")] 1=some (V.str (Str.ofString "")) from gQ (j:=1) rfl];refine ⟨_,aD.of EB,ps.map Tx.S,rfl,Fb,FL [] (by simp) e0,mf d6 rfl (by simp) (by simp) fun v H7 hv d7 k7=>?_⟩;obtain ⟨sl,gY,rfl⟩:=ends hv;have:=fin [] sl H7 (.inr ⟨rfl,hm⟩) gY d7 k7;rw [<- Tx.hU,<- Tx.hU,<- ot,<- e0] at this;exact ⟨Fd [] sl (by simp) gY e0,this⟩
   ·rw [Ch (by omega:¬ (0:Int) < (m:Int)),Id (by nofun),show cM [V.str (Str.ofString "/"),V.str (Str.ofString "")] 0=some (V.str (Str.ofString "/")) from gQ (j:=0) rfl];refine ⟨_,aD.of EB,ps.map Tx.S,rfl,Fb,FL [47] (by simp) gk,mf d6 rfl (by simp) (by simp) fun v H7 hv d7 k7=>?_⟩;obtain ⟨sl,gY,rfl⟩:=ends hv;have:=fin [47] sl H7 (.inl rfl) gY d7 k7;rw [<- Tx.hU,<- Tx.hU,<- ot,<- gk] at this;exact ⟨Fd [47] sl (by simp) gY gk,this⟩
  ·simp only [bH,b6,show cM [V.str (Str.ofString "/"),V.str (Str.ofString "")] 0=some (V.str (Str.ofString "/")) from gQ (j:=0) rfl];refine ⟨_,aD.of EB,ps.map Tx.S,rfl,Fb,FL [47] (by simp) gk,mf d6 rfl (by simp) (by simp) fun v H7 hv d7 k7=>?_⟩;obtain ⟨sl,gY,rfl⟩:=ends hv;have:=fin [47] sl H7 (.inl rfl) gY d7 k7;rw [<- Tx.hU,<- Tx.hU,<- ot,<- gk] at this;exact ⟨Fd [47] sl (by simp) gY gk,this⟩
def ei (S:Ws):Ws:={ S with left:=.inr ("." : Str)::S.left }
def dU.Bo {d:Wd} (hl:d.last=true) {S S':Ws} {p:Str} {o:Option Tl} (h:dU d S p S' o):dU d (ei S) p (ei S') o:=by
 have nl:∀ {x:Ws},¬ (x.left=[]/\d.last=false):=fun z=>by rw [hl] at z; cases z.2
 cases h with
 | flat ha ht hk=>exact .flat ha ht hk
 | fZ ha ht hk hm=>exact .fZ ha ht hk hm
 | dot a e=>exact .dot ⟨a.l,a.e,a.k,a.g⟩ e
 | up a e u=>exact .up ⟨a.l,a.e,a.k,a.g⟩ e u
 | go a h1 h2 h3 h4 b =>
  refine .go (t:=_) ⟨a.l,a.e,a.k,a.g⟩ h1 h2 h3 h4 ?_;cases b with
  | no hv=>exact .no hv
  | folder hv ha ht hk hs=>exact .folder hv ha ht hk hs
  | fin hv ha ht hk hf=>exact .fin hv ha ht hk (.inl (hf.resolve_right nl))
  | lead hv ha ht hk hf hn m =>
   refine .lead hv ha ht hk hf nl ?_;cases m with
   | ring h=>exact .ring h
   | many h h'=>exact .many h h'
   | read h h' r =>
    cases r with
    | mk r1 r2 r3 r4 r5 r6 r7 r8 r9 r10=>exact .read h h' (.mk r1 r2 r3 r4 r5 r6 r7 r8 r9 r10)
def dG.Zk {d:Wd} (hl:d.last=true) {n:Nat} {S S':Ws} {o:Option Tl} (h:dG d n S S' o):∀ y,o=some y->dG d n (ei S) (ei S') o:=by
 induction h with
 | done=>nofun
 | pop e er _ ih=>exact fun y ho=>.pop (l:=.inr ("." : Str)::_) (by unfold ei; rw [e]; rfl) er (ih y ho)
 | step e s _ ih=>exact fun y ho=>.step (l:=.inr ("." : Str)::_) (by unfold ei; rw [e]; rfl) (s.Bo hl) (ih y ho)
 | fail e s=>exact fun y ho=>.fail (l:=.inr ("." : Str)::_) (by unfold ei; rw [e]; rfl) (s.Bo hl)
def dG.aag {d:Wd} (hl:d.last=true) {n:Nat} {S S':Ws} {o:Option Tl} (h:dG d n S S' o):o=none->S'.left=[]/\∀ m S2 o2,dG d m (ei S') S2 o2->∃ m2,dG d m2 (ei S) S2 o2:=by
 induction h with
 | done e=>exact fun _=>⟨e,fun m S2 o2 h=>⟨m,h⟩⟩
 | pop e er _ ih=>exact fun ho=>⟨(ih ho).1,fun m S2 o2 h=>let ⟨m2,h2⟩:=(ih ho).2 m S2 o2 h; ⟨_,.pop (l:=.inr ("." : Str)::_) (by unfold ei; rw [e]; rfl) er h2⟩⟩
 | step e s _ ih=>exact fun ho=>⟨(ih ho).1,fun m S2 o2 h=>let ⟨m2,h2⟩:=(ih ho).2 m S2 o2 h; ⟨_,.step (l:=.inr ("." : Str)::_) (by unfold ei; rw [e]; rfl) (s.Bo hl) h2⟩⟩
 | fail=>nofun
def dU.len {d:Wd} {S S':Ws} {p:Str} {o:Option Tl} (h:dU d S p S' o) (i:S.asked.length=S.step):o=none->S'.asked.length=S'.step:=by
 have ak:(cW S).asked.length=(cW S).step:=by unfold cW; rw [Da,i]; rfl
 cases h with
 | flat=>nofun
 | fZ=>nofun
 | dot=>exact fun _=>ak
 | up=>exact fun _=>ak
 | go _ _ _ _ _ b =>
  cases b with
  | no=>nofun
  | folder=>exact fun _=>ak
  | fin=>exact fun _=>ak
  | lead _ _ _ _ _ _ m =>
   cases m with
   | ring=>nofun
   | many=>nofun
   | read _ _ r=>cases r; exact fun _=>ak
def dG.len {d:Wd} {n:Nat} {S S':Ws} {o:Option Tl} (h:dG d n S S' o):S.asked.length=S.step->o=none->S'.asked.length=S'.step:=by
 induction h with
 | done=>exact fun i _=>i
 | pop _ _ _ ih=>exact ih
 | step _ s _ ih=>exact fun i=>ih (s.len i rfl)
 | fail=>exact fun _=>nofun
def IX (ps:List Str):cm (ps++[("." : Str)])=.inr ("." : Str)::cm ps:=by unfold cm; simp
def cL.Yr {d:Wd} (hl:d.last=true) {fr:Bool} {ps:List Str} {e:End} (g:cL d fr ps e) (Fz:ps.length < 2500) (hn:∀ k ns,e.res≠.found k ns):cL d fr (ps++[("." : Str)]) e:=by
 cases g with
 | @told h n S' y b _ r =>
  have r2:=r.Zk hl y rfl;have e:(⟨h,none,0,[],cm (ps++[("." : Str)]),[],0,0⟩:Ws)=ei ⟨h,none,0,[],cm ps,[],0,0⟩:=by rw [IX]; rfl
  exact cL.told (S':=ei S') b (by rw [Da]; exact Fz) (by rw [e]; exact r2)
 | found=>exact absurd rfl (hn _ _)
def cL.Hi {d:Wd} (hl:d.last=true) {fr:Bool} {ps:List Str} {e:End} {k:Nat} {ns:List Str} (g:cL d fr ps e) (Fz:ps.length < 2500) (hk:e.res=.found k ns) :
  ∃ a th,d.L[k]?=some a/\d.M.ts[k]?=some th/\(th.kd≠("folder" : Str)->∃ as,cL d fr (ps++[("." : Str)]) ⟨as,.failed (e.asked.length+1) "flat"⟩)/\(th.kd=("folder" : Str)->dF ("g" : Str) (dm th d.z)=false->∃ as,cL d fr (ps++[("." : Str)]) ⟨as,.failed (e.asked.length+1) "shut"⟩) /\
   (th.kd=("folder" : Str)->dF ("g" : Str) (dm th d.z)=true->∃ as,cL d fr (ps++[("." : Str)]) ⟨as,.found k ns⟩):=by
 cases g with
 | @told _ _ _ y _ _ r=>cases y <;> cases hk
 | @found h n S' ns0 cF b _ r ht =>
  cases hk;have e:(⟨h,none,0,[],cm (ps++[("." : Str)]),[],0,0⟩:Ws)=ei ⟨h,none,0,[],cm ps,[],0,0⟩:=by rw [IX]; rfl
  obtain ⟨hL,go⟩:=r.aag hl rfl;have hlen:=r.len rfl rfl;have gP:(ps++[("." : Str)]).length<=2500:=by rw [Da]; exact Fz
  obtain ⟨f,a,t,ha,aF,bw,bX⟩:=id ht;have e1:(ei S').left=[]++[.inr ("." : Str)]:=by unfold ei; rw [hL]; rfl
  refine ⟨a,t,ha,aF,fun hk=>?_,fun hk hm=>?_,fun hk hm=>?_⟩
  ·obtain ⟨m,r2⟩:=go _ _ _ (.fail e1 (.flat (S:={ ei S' with left:=[] }) ha aF hk));have:=cL.told b gP (by rw [e]; exact r2);rw [hlen];exact ⟨_,this⟩
  ·obtain ⟨m,r2⟩:=go _ _ _ (.fail e1 (.fZ (S:={ ei S' with left:=[] }) ha aF hk hm));have:=cL.told b gP (by rw [e]; exact r2);rw [hlen];exact ⟨_,this⟩
  ·obtain ⟨m,r2⟩:=go _ _ _ (.step e1 (.dot (S:={ ei S' with left:=[] }) ⟨⟨a,ha⟩,aF,hk,hm⟩ rfl) (.done rfl));exact ⟨_,cL.found (S':=cW { ei S' with left:=[] }) b gP (by rw [e]; exact r2) ⟨f,a,t,ha,aF,bw,bX⟩⟩
def gi (H:Hp) (p:Addr):Res->Prop
 | .found k ns=>H p=some (.tup [.str "found",.int (k:Int),.str (yO ns)])
 | .failed k y=>H p=some (.tup [.str "failed",.int (k:Int),.str y])
 | .ring ns=>∃ rl,H p=some (.tup [.str "ring",.ref rl])/\H rl=some (.lst (nV ns))
def gi.same {H H':Hp} {p:Addr} (s:ai H H'):∀ {r:Res},gi H p r->gi H' p r
 | .found _ _,e=>s _ _ e
 | .failed _ _,e=>s _ _ e
 | .ring _,⟨l,e,f⟩=>⟨l,s _ _ e,s _ _ f⟩
def SX (N:Cn):Sp:=ij fun fd H Q _=>X2 fun r H0=>A2 (gm N H0 H fd r) (∀ p H',ai H H'->H p=none->gi H' p r->Q (.ref p) H')
def Hy:T.kU.k P w base 1 (SX T.cn):=by
 refine T.kU.F.ok SR (fun _ _ _ _ h=>da h fun _ _=>rfl) fun ag A outer s H vs Q E hr h=>da h fun fd h=>?_;obtain ⟨e,H0,aS,q⟩:=h;refine bK (b:=aV BM) ((ap (em (jp (kt (tP (K:=K) rfl) T.gu gC (al (ad 0) (al (mo (.ref T.dE) T.vN rfl) am)))) (bi (cr (pp (al ci (al (bn T.lb T.v9 (ad 0)) (al (bn T.lb T.G6 (ad 0)) am)))))) gl)
 (ap (em (jp (kt (tP (K:=K) rfl) T.gu gC (al (ad 0) (al (mo (.ref T.ee) T.BR rfl) am)))) (bi (cr (pp (al ci (al (bn T.kR T.Ig (ad 0)) (al (bn T.kR T.Iq (ad 0)) am)))))) gl)
 (bi (cr (pp (al ci (al (Dv.t9 (Jf (K:=K) rfl) T.nH xh (al (bn T.jV T.xp (ad 0)) am)) am)))))))) ?_
 refine stI [some (V.ref fd)] ?_;right;cases e with
 | found k ns =>
  obtain ⟨aP,aS⟩:=aS;refine ⟨_,_,_,.of (.ins aS T.lb T.q1 T.q2 T.q3 T.q4),.cls T.q5,bL ?_⟩;refine ⟨fd,_,_,_,rfl,aS,rfl,fd,_,_,_,rfl,aS,rfl,fits (by simp),fun p hp=>?_⟩;exact q p _ (ai.upd hp) hp aw
 | failed k y =>
  obtain ⟨aP,aS⟩:=aS;refine ⟨_,_,_,.of (.ins aS T.kR T.q6 T.q2 T.q3 T.q7),.cls T.q8,bc (ah ?_)⟩;left;refine ⟨_,_,_,.of (.ins aS T.kR T.q6 T.q2 T.q3 T.q7),.cls T.IV,bL ?_⟩;refine ⟨fd,_,_,_,rfl,aS,rfl,fd,_,_,_,rfl,aS,rfl,fits (by simp),fun p hp=>?_⟩;exact q p _ (ai.upd hp) hp aw
 | ring ns =>
  obtain ⟨aP,rl,aS,dP,_⟩:=aS;refine ⟨_,_,_,.of (.ins aS T.jV T.sx T.q2 T.q3 T.ua),.cls T.C3,bc (ah ?_)⟩;left;refine ⟨_,_,_,.of (.ins aS T.jV T.sx T.q2 T.q3 T.ua),.cls T.Mt,bc ?_⟩;left;refine ⟨fd,_,_,_,rfl,aS,rfl,?_⟩;simp only [bH,dP];intro l hl;refine ⟨fits (by simp),fun p hp=>?_⟩;have s1:=ai.upd (o:=.lst (nV ns)) hl;exact q p _ (s1.trans (ai.upd hp)) (tU s1 hp) ⟨l,aw,(ai.upd hp) _ _ aw⟩
def DE.flat {K:PySem.W.Frag} {H:Hp} {v:V} (h:cI v=true):∀ n,DE K H n v v
 | 0=>⟨h,h,KW h⟩
 | _+1=>.inl ⟨h,h,KW h⟩
def DE.mQ {K:PySem.W.Frag} {H:Hp} {xs:List V} {n:Nat} (h:xs.all cI=true):∀ i (h1:i < xs.length) (h2:i < xs.length),DE K H n xs[i] xs[i]:=fun i h1 _=>DE.flat (GM.mp h _ (_1 h1)) n
def Xd (ns:List Nat):(nV ns).all cI=true:=by
 rw [GM];intro v hv;obtain ⟨k,_,rfl⟩:=LE.mp hv;rfl
def gi.de {K:PySem.W.Frag} {H:Hp} {p p2:Addr} {n:Nat}:∀ {r:Res},gi H p r->gi H p2 r->DE K H (n+2) (.ref p) (.ref p2)
 | .found k ns,e,f=>.inr ⟨_,_,_,_,rfl,rfl,.inr ⟨bo.of e,bo.of f⟩,rfl,DE.mQ rfl⟩
 | .failed k y,e,f=>.inr ⟨_,_,_,_,rfl,rfl,.inr ⟨bo.of e,bo.of f⟩,rfl,DE.mQ rfl⟩
 | .ring ns,⟨l,e,el⟩,⟨l2,f,fl⟩=>.inr ⟨_,_,_,_,rfl,rfl,.inr ⟨bo.of e,bo.of f⟩,rfl,fun i h1 h2=>by
   match i,h1 with
   | 0,_=>exact DE.flat (v:=.str "ring") rfl _
   | 1,_=>exact .inr ⟨l,l2,_,_,rfl,rfl,.inl ⟨aD.of el,aD.of fl⟩,rfl,DE.mQ (Xd ns)⟩⟩
def Yw:jo K T.eT:=⟨T.RL,T.VC,T.Yi,T.abb,T.aaa,T.Qc,T.XU⟩
def ZS:jo K T.eU:=⟨T.Sj,T.SJ,T.aaN,T.Zh,T.V0,T.VE,T.ZU⟩
def sZ (N:Cn) (Q:VK):XK:=fun C od H' =>
 (C=.ref N.CN/\∃ d fd,od=some d/\H' d=some (.xd [("told",.ref fd)])/\∀ p H2,ai H' H2->H' p=none->H2 p=some (.tup [.str "way",.ref fd])->Q (.ref p) H2) \/
 (C=.ref N.CD/\∃ d y,od=some d/\H' d=some (.xd [("reason",.str y)])/\∀ p H2,ai H' H2->H' p=none->H2 p=some (.tup [.str "deed",.str y])->Q (.ref p) H2)
def BQ (N:Cn) (cb:eF):eF:=fun H Q _=>cb H (fun v H'=>∀ p H2,ai H' H2->H' p=none->H2 p=some (.tup [.str "told",v])->Q (.ref p) H2) (sZ N Q)
def lq:sW P w K mg base (bj P w) 19 T.cz.f T.cz.d ["_law_ask"] (B3 P w K mg base 18 (BQ T.cn)):=by
 refine T.cz.F.Sa lB (fun outer s vs H Q E h=>?_) (fun ag A outer s H vs Q E hr h=>?_)
 ·obtain ⟨f,B,cb,rfl,_⟩:=h;rfl
 ·obtain ⟨fl,B,cb,rfl,D0,hB,hf,gj,c8⟩:=h;have D:=D0.m;refine bK (b:=aV ze) ((ap (dl 1 lB.nd ul)
   (ap (Dv.aaj ⟨rfl,rfl,rfl⟩ (fun _ _=>by exact (bi (dl 1 lB.nd (pp (al ci (al (Dv.cK 0 D hB hf gj hr.m aa0) am)))))) (Dv.DQ 2 (K:=K) rfl lB.nd T.KJ T.aae T.Ry (fun _=>by exact (bi (dl 1 lB.nd (pp (al ci (al (Dv.Ly T.An (Yw T) (ad 2)) am)))))) (Dv.DQ 2 (K:=K) rfl lB.nd T.wA T.P7 T.Pk (fun _=>by exact (bi (dl 1 lB.nd (pp (al ci (al (Dv.Ly T.sy (ZS T) (ad 2)) am)))))) (Dv.DQ 2 (K:=K) rfl lB.nd T.Vs T.Q6 T.Wz (fun _=>by exact (bi (dl 1 lB.nd (pp (al ci (al (ad 2) am)))))) Dv.Xr))))
   (bi (cr (ad 1)))))) ?_
  refine stI [some (.ref fl),none,none] ?_;right;refine jY (fun σ' H'=>∃ p t,σ'=[some (.ref fl),some (.ref p),t]/\Q (.ref p) H') ?_ ?_
  ·refine ⟨fun σ' C od H'=>σ'=[some (.ref fl),some .au,none]/\sZ T.cn Q C od H',?_,?_⟩
   ·left;exact ⟨by trivial,_,_,c8,fun v H' z=>⟨fits (by simp),fun p hp=>⟨p,_,rfl,z p _ (ai.upd hp) hp aw⟩⟩,fun C od H' z=>⟨rfl,z⟩⟩
   ·rintro σ' C od H' ⟨rfl,z⟩;rcases z with ⟨e,d,fd,rfl,hd,q⟩ | ⟨e,d,y,rfl,hd,q⟩
    ·cases e;refine ⟨true,T.Rj,?_⟩;rw [IN rfl];intro ea hea;left;have s1:=ai.upd (o:=la ea T.eT (some d)) hea;refine ⟨ea,d,_,_,rfl,aw,s1 _ _ hd,rfl,fits (by simp),fun p hp=>⟨p,_,rfl,q p _ (s1.trans (ai.upd hp)) (tU s1 hp) aw⟩⟩
    ·cases e;refine ⟨false,T.Qt,?_⟩;rw [Id (by nofun)];refine ⟨true,T.Qi,?_⟩;rw [IN rfl];intro ea hea;left;have s1:=ai.upd (o:=la ea T.eU (some d)) hea;refine ⟨ea,d,_,_,rfl,aw,s1 _ _ hd,rfl,fits (by simp),fun p hp=>⟨p,_,rfl,q p _ (s1.trans (ai.upd hp)) (tU s1 hp) aw⟩⟩
  ·rintro σ' H' ⟨p,t,rfl,z⟩;left;exact z
def Hd:Stmt->Expr
 | .If _ (.Return (some (.Call _ (e::_) _ _)) _::_) _ _=>e
 | .Return (some (.Call _ (e::_) _ _)) _=>e
 | .Assign _ (.Call _ (e::_) _ _) _=>e
 | .Assign _ (.List (.Call _ (e::_) _ _::_) _) _=>e
 | .Expr (.Call _ (.Call _ (e::_) _ _::_) _ _) _=>e
 | _=>.Constant .none 0 ⟨0,0,0,0⟩
def ej:Expr->Scope
 | .Lambda _ _ sc _=>sc
 | _=>ax tS
def j0:Expr->Arguments
 | .Lambda a _ _ _=>a
 | _=>eN tS
def T9:Expr->Expr
 | .Lambda _ b _ _=>b
 | e=>e
abbrev nU:List Str:=["_law_house","_law_cell","_law_source_here","_law_path_here","_law_way","_law_lead","_law_rest"]
abbrev iu:Str := "_law_built.<locals>.<lambda>"
abbrev ig (k:Nat):Expr:=Hd ((aV jv).getD k (.Pass ⟨0,0,0,0⟩))
abbrev wL (n:Nat):List (Str×Addr):=[("_law_rest",n+4),("_law_path_here",n+3),("_law_house",n+1)]
abbrev vg (n:Nat):List (Str×Addr):=[("_law_rest",n+4),("_law_path_here",n+3),("_law_house",n+1)]
abbrev wX (n:Nat):List (Str×Addr):=[("_law_path_here",n+3),("_law_lead",n+2),("_law_house",n+1)]
section
variable {f c Pt:Addr} {ag:Value} {A:Around} {outer:List Env} {s:Shared} {H:Hp} {E:XK}
def aas (hc:ag=.ref c) (C:PySem.W.CodeHd base c Pt) (hb:base.BuiltinsAt mg Pt):ic (bT (bj P w) P w K mg base nU "_law_built" (ax jv) f ag A outer s H E) Pt (j0 (ig 6)) (ej (ig 6)) (wL s.heap.objs.size) iu:=⟨rfl,rfl,⟨c,hc,C⟩,hb,by kernel_rfl⟩
def aak (n:Nat):gp ["_law_house","_law_path_here","_law_rest"] (ej (ig 6)) (wL n):=.of rfl rfl rfl (by decide +kernel) (by decide +kernel) ⟨fun _=>⟨_,rfl⟩,fun _=>⟨_,rfl⟩,fun _=>⟨_,rfl⟩,(fun z=>nomatch z),trivial⟩ (by simp)
def WW:gL (bT (bj P w) P w K mg base nU "_law_built" (ax jv) f ag A outer s H E) ["_law_house","_law_path_here","_law_rest"] [0,3,6] (wL s.heap.objs.size):=.of rfl rfl ⟨⟨rfl,rfl,rfl⟩,⟨rfl,rfl,rfl⟩,⟨rfl,rfl,rfl⟩,trivial⟩ ⟨rfl,rfl,rfl,trivial⟩
def V9 (hc:ag=.ref c) (C:PySem.W.CodeHd base c Pt) (hb:base.BuiltinsAt mg Pt):ic (bT (bj P w) P w K mg base nU "_law_built" (ax jv) f ag A outer s H E) Pt (j0 (ig 7)) (ej (ig 7)) (vg s.heap.objs.size) iu:=⟨rfl,rfl,⟨c,hc,C⟩,hb,by kernel_rfl⟩
def aa1 (n:Nat):gp ["_law_house","_law_path_here","_law_rest"] (ej (ig 7)) (vg n):=.of rfl rfl rfl (by decide +kernel) (by decide +kernel) ⟨fun _=>⟨_,rfl⟩,fun _=>⟨_,rfl⟩,fun _=>⟨_,rfl⟩,(fun z=>nomatch z),trivial⟩ (by simp)
def R9:gL (bT (bj P w) P w K mg base nU "_law_built" (ax jv) f ag A outer s H E) ["_law_house","_law_path_here","_law_rest"] [0,3,6] (vg s.heap.objs.size):=.of rfl rfl ⟨⟨rfl,rfl,rfl⟩,⟨rfl,rfl,rfl⟩,⟨rfl,rfl,rfl⟩,trivial⟩ ⟨rfl,rfl,rfl,trivial⟩
def SH (hc:ag=.ref c) (C:PySem.W.CodeHd base c Pt) (hb:base.BuiltinsAt mg Pt):ic (bT (bj P w) P w K mg base nU "_law_built" (ax jv) f ag A outer s H E) Pt (j0 (ig 8)) (ej (ig 8)) (wX s.heap.objs.size) iu:=⟨rfl,rfl,⟨c,hc,C⟩,hb,by kernel_rfl⟩
def PJ (n:Nat):gp ["_law_house","_law_path_here","_law_lead"] (ej (ig 8)) (wX n):=.of rfl rfl rfl (by decide +kernel) (by decide +kernel) ⟨fun _=>⟨_,rfl⟩,fun _=>⟨_,rfl⟩,fun _=>⟨_,rfl⟩,(fun z=>nomatch z),trivial⟩ (by simp)
def Ts:gL (bT (bj P w) P w K mg base nU "_law_built" (ax jv) f ag A outer s H E) ["_law_house","_law_path_here","_law_lead"] [0,3,5] (wX s.heap.objs.size):=.of rfl rfl ⟨⟨rfl,rfl,rfl⟩,⟨rfl,rfl,rfl⟩,⟨rfl,rfl,rfl⟩,trivial⟩ ⟨rfl,rfl,rfl,trivial⟩
end
abbrev gK:List Str:=["_law_house","_law_asker","_law_path_here","_law_due_here","_law_ahead","_law_found","_law_again"]
abbrev dR:Str := "_law_right.<locals>.<lambda>"
abbrev di (k:Nat):Expr:=Hd ((aV fB).getD k (.Pass ⟨0,0,0,0⟩))
abbrev xk (n:Nat):List (Str×Addr):=[("_law_path_here",n+3),("_law_house",n+1),("_law_asker",n+2)]
abbrev wO (n:Nat):List (Str×Addr):=[("_law_path_here",n+3),("_law_house",n+1),("_law_asker",n+2)]
abbrev vw (n:Nat):List (Str×Addr):=[("_law_path_here",n+3),("_law_house",n+1),("_law_asker",n+2)]
abbrev vE (n:Nat):List (Str×Addr):=[("_law_path_here",n+3),("_law_house",n+1),("_law_asker",n+2)]
abbrev wR (n:Nat):List (Str×Addr):=[("_law_path_here",n+3),("_law_house",n+1),("_law_asker",n+2)]
abbrev vx (n:Nat):List (Str×Addr):=[("_law_path_here",n+3),("_law_house",n+1),("_law_asker",n+2)]
section
variable {f c Pt:Addr} {ag:Value} {A:Around} {outer:List Env} {s:Shared} {H:Hp} {E:XK}
def PR (hc:ag=.ref c) (C:PySem.W.CodeHd base c Pt) (hb:base.BuiltinsAt mg Pt):ic (bT (bj P w) P w K mg base gK "_law_right" (ax fB) f ag A outer s H E) Pt (j0 (di 3)) (ej (di 3)) (xk s.heap.objs.size) dR:=⟨rfl,rfl,⟨c,hc,C⟩,hb,by kernel_rfl⟩
def TX (n:Nat):gp ["_law_house","_law_asker","_law_path_here"] (ej (di 3)) (xk n):=.of rfl rfl rfl (by decide +kernel) (by decide +kernel) ⟨fun _=>⟨_,rfl⟩,fun _=>⟨_,rfl⟩,fun _=>⟨_,rfl⟩,(fun z=>nomatch z),trivial⟩ (by simp)
def PY:gL (bT (bj P w) P w K mg base gK "_law_right" (ax fB) f ag A outer s H E) ["_law_house","_law_asker","_law_path_here"] [0,1,2] (xk s.heap.objs.size):=.of rfl rfl ⟨⟨rfl,rfl,rfl⟩,⟨rfl,rfl,rfl⟩,⟨rfl,rfl,rfl⟩,trivial⟩ ⟨rfl,rfl,rfl,trivial⟩
def Vu (hc:ag=.ref c) (C:PySem.W.CodeHd base c Pt) (hb:base.BuiltinsAt mg Pt):ic (bT (bj P w) P w K mg base gK "_law_right" (ax fB) f ag A outer s H E) Pt (j0 (di 4)) (ej (di 4)) (wO s.heap.objs.size) dR:=⟨rfl,rfl,⟨c,hc,C⟩,hb,by kernel_rfl⟩
def OL (n:Nat):gp ["_law_house","_law_asker","_law_path_here"] (ej (di 4)) (wO n):=.of rfl rfl rfl (by decide +kernel) (by decide +kernel) ⟨fun _=>⟨_,rfl⟩,fun _=>⟨_,rfl⟩,fun _=>⟨_,rfl⟩,(fun z=>nomatch z),trivial⟩ (by simp)
def TZ:gL (bT (bj P w) P w K mg base gK "_law_right" (ax fB) f ag A outer s H E) ["_law_house","_law_asker","_law_path_here"] [0,1,2] (wO s.heap.objs.size):=.of rfl rfl ⟨⟨rfl,rfl,rfl⟩,⟨rfl,rfl,rfl⟩,⟨rfl,rfl,rfl⟩,trivial⟩ ⟨rfl,rfl,rfl,trivial⟩
def WH (hc:ag=.ref c) (C:PySem.W.CodeHd base c Pt) (hb:base.BuiltinsAt mg Pt):ic (bT (bj P w) P w K mg base gK "_law_right" (ax fB) f ag A outer s H E) Pt (j0 (di 5)) (ej (di 5)) (vw s.heap.objs.size) dR:=⟨rfl,rfl,⟨c,hc,C⟩,hb,by kernel_rfl⟩
def Zw (n:Nat):gp ["_law_house","_law_asker","_law_path_here"] (ej (di 5)) (vw n):=.of rfl rfl rfl (by decide +kernel) (by decide +kernel) ⟨fun _=>⟨_,rfl⟩,fun _=>⟨_,rfl⟩,fun _=>⟨_,rfl⟩,(fun z=>nomatch z),trivial⟩ (by simp)
def Wj:gL (bT (bj P w) P w K mg base gK "_law_right" (ax fB) f ag A outer s H E) ["_law_house","_law_asker","_law_path_here"] [0,1,2] (vw s.heap.objs.size):=.of rfl rfl ⟨⟨rfl,rfl,rfl⟩,⟨rfl,rfl,rfl⟩,⟨rfl,rfl,rfl⟩,trivial⟩ ⟨rfl,rfl,rfl,trivial⟩
def Xz (hc:ag=.ref c) (C:PySem.W.CodeHd base c Pt) (hb:base.BuiltinsAt mg Pt):ic (bT (bj P w) P w K mg base gK "_law_right" (ax fB) f ag A outer s H E) Pt (j0 (di 6)) (ej (di 6)) (vE s.heap.objs.size) dR:=⟨rfl,rfl,⟨c,hc,C⟩,hb,by kernel_rfl⟩
def XR (n:Nat):gp ["_law_house","_law_asker","_law_path_here"] (ej (di 6)) (vE n):=.of rfl rfl rfl (by decide +kernel) (by decide +kernel) ⟨fun _=>⟨_,rfl⟩,fun _=>⟨_,rfl⟩,fun _=>⟨_,rfl⟩,(fun z=>nomatch z),trivial⟩ (by simp)
def XN:gL (bT (bj P w) P w K mg base gK "_law_right" (ax fB) f ag A outer s H E) ["_law_house","_law_asker","_law_path_here"] [0,1,2] (vE s.heap.objs.size):=.of rfl rfl ⟨⟨rfl,rfl,rfl⟩,⟨rfl,rfl,rfl⟩,⟨rfl,rfl,rfl⟩,trivial⟩ ⟨rfl,rfl,rfl,trivial⟩
def U9 (hc:ag=.ref c) (C:PySem.W.CodeHd base c Pt) (hb:base.BuiltinsAt mg Pt):ic (bT (bj P w) P w K mg base gK "_law_right" (ax fB) f ag A outer s H E) Pt (j0 (di 7)) (ej (di 7)) (wR s.heap.objs.size) dR:=⟨rfl,rfl,⟨c,hc,C⟩,hb,by kernel_rfl⟩
def QU (n:Nat):gp ["_law_house","_law_asker","_law_path_here"] (ej (di 7)) (wR n):=.of rfl rfl rfl (by decide +kernel) (by decide +kernel) ⟨fun _=>⟨_,rfl⟩,fun _=>⟨_,rfl⟩,fun _=>⟨_,rfl⟩,(fun z=>nomatch z),trivial⟩ (by simp)
def Qp:gL (bT (bj P w) P w K mg base gK "_law_right" (ax fB) f ag A outer s H E) ["_law_house","_law_asker","_law_path_here"] [0,1,2] (wR s.heap.objs.size):=.of rfl rfl ⟨⟨rfl,rfl,rfl⟩,⟨rfl,rfl,rfl⟩,⟨rfl,rfl,rfl⟩,trivial⟩ ⟨rfl,rfl,rfl,trivial⟩
def SD (hc:ag=.ref c) (C:PySem.W.CodeHd base c Pt) (hb:base.BuiltinsAt mg Pt):ic (bT (bj P w) P w K mg base gK "_law_right" (ax fB) f ag A outer s H E) Pt (j0 (di 9)) (ej (di 9)) (vx s.heap.objs.size) dR:=⟨rfl,rfl,⟨c,hc,C⟩,hb,by kernel_rfl⟩
def T7 (n:Nat):gp ["_law_house","_law_asker","_law_path_here"] (ej (di 9)) (vx n):=.of rfl rfl rfl (by decide +kernel) (by decide +kernel) ⟨fun _=>⟨_,rfl⟩,fun _=>⟨_,rfl⟩,fun _=>⟨_,rfl⟩,(fun z=>nomatch z),trivial⟩ (by simp)
def aa6:gL (bT (bj P w) P w K mg base gK "_law_right" (ax fB) f ag A outer s H E) ["_law_house","_law_asker","_law_path_here"] [0,1,2] (vx s.heap.objs.size):=.of rfl rfl ⟨⟨rfl,rfl,rfl⟩,⟨rfl,rfl,rfl⟩,⟨rfl,rfl,rfl⟩,trivial⟩ ⟨rfl,rfl,rfl,trivial⟩
end
def w8 {H H':Hp} {Pt:Addr} {q:Str} {es:List Ent} (t:eW H Pt q es) (k:∀ b φ,H b=some (.ext φ)->H' b=some (.ext φ)):eW H' Pt q es:=⟨k _ _ t.tab,fun e he=>k _ _ (t.code e he)⟩
def NX (H H':Hp):Prop:=∀ b o,(∀ φ,o≠.ext φ)->H b=some o->H' b=some o
def w6 {Pt:Addr} {q:Str} {c:Addr} {H H1:Hp} {es:List Ent} (L:lD Pt q c H H1) (t:eW H Pt q es):NX H H1:=fun b o no e=>L.BP b o (fun z=>by rw [z,t.tab] at e; cases e; exact no _ rfl) e
def jk.eR {CT:Addr} {H H':Hp} {a:Ta} {i:Nat} {t:Th} (h:jk CT H a i t) (k:NX H H'):jk CT H' a i t where
 o:=let ⟨fs,e,r⟩:=h.o; ⟨fs,k _ _ (by nofun) e,r⟩
 nm:=k _ _ (by nofun) h.nm
 pl:=k _ _ (by nofun) h.pl
def aJ.eR {CH CS CT:Addr} {H H':Hp} {A:Ad} {L:List Ta} {M:Hs} (i:aJ CH CS CT H A L M) (k:NX H H'):aJ CH CS CT H' A L M where
 h:=let ⟨fs,c,e,r⟩:=i.h; ⟨fs,c,k _ _ (by nofun) e,r⟩
 t:=let ⟨fs,c,e,r⟩:=i.t; ⟨fs,c,k _ _ (by nofun) e,r⟩
 ml:=k _ _ (by nofun) i.ml
 len:=i.len
 th:=fun j t e=>let ⟨a,e1,h⟩:=i.th j t e; ⟨a,e1,h.eR k⟩
 ro:=k _ _ (by nofun) i.ro
 st:=k _ _ (by nofun) i.st
 tr:=k _ _ (by nofun) i.tr
 ov:=k _ _ (by nofun) i.ov
 un:=k _ _ (by nofun) i.un
 nd:=i.nd
def Ja (xs:List V):Prop:=∀ v∈xs,∀ a,v≠V.ref a
def vi (zs:List Int):Ja (zs.map V.int):=fun v hv a=>by obtain ⟨z,_,rfl⟩:=LE.mp hv; nofun
def wV:HO->Prop
 | .lst xs=>Ja xs
 | .eC _ _=>True
 | .ext _=>True
 | _=>False
def iJ (st:Addr) (H H':Hp):Prop:=∀ c o,c≠st->wV o->H c=some o->H' c=some o
def dh (H H':Hp):Prop:=∀ c o,wV o->H c=some o->H' c=some o
def dh.l {st:Addr} {H H':Hp} (k:dh H H'):iJ st H H':=fun c o _ h e=>k c o h e
def iJ.trans {st:Addr} {H H1 H2:Hp} (a:iJ st H H1) (b:iJ st H1 H2):iJ st H H2:=fun c o n h e=>b c o n h (a c o n h e)
def dh.trans {H H1 H2:Hp} (a:dh H H1) (b:dh H1 H2):dh H H2:=fun c o h e=>b c o h (a c o h e)
def dh.of {H H':Hp} (s:ai H H'):dh H H':=fun c o _ e=>s _ _ e
def dh.tab {H H':Hp} {Pt:Addr} {q:Str} {es:List Ent} (k:dh H H') (t:eW H Pt q es):eW H' Pt q es:=w8 t fun _ _ e=>k _ _ trivial e
def Zr {Pt:Addr} {q:Str} {c:Addr} {H H1:Hp} (L:lD Pt q c H H1):iJ Pt H H1:=fun b o n _ e=>L.BP b o n e
section
variable {CH CS CT:Addr} {H H':Hp} {A:Ad} {L:List Ta} {M:Hs}
def aJ.HK (i:aJ CH CS CT H A L M) (h0:M.ts≠[]) {b:Addr} {o:HO} (hb:b∈A.w++L.flatMap Ta.l) (hx:wV o) (e:H b=Option.some o):False:=by
 rcases TW.mp hb with h | h
 ·simp only [Ad.w,AT,EQ,KB] at h;rcases h with rfl | rfl | rfl | rfl | rfl | rfl | rfl | rfl
  ·obtain ⟨_,_,e',_⟩:=i.h; rw [e'] at e; cases e; exact hx
  ·obtain ⟨_,_,e',_⟩:=i.t; rw [e'] at e; cases e; exact hx
  ·rw [i.ml] at e;cases e;cases L with
   | nil=>exact h0 (_E.mp i.len.symm)
   | cons a r=>exact hx (.ref a.th) (by simp) a.th rfl
  ·rw [i.ro] at e; cases e; exact hx
  ·rw [i.st] at e; cases e; exact hx
  ·rw [i.tr] at e; cases e; exact hx
  ·rw [i.ov] at e; cases e; exact hx
  ·rw [i.un] at e; cases e; exact hx
 ·obtain ⟨a,ha,h⟩:=List.mem_flatMap.mp h;obtain ⟨j,ha⟩:=List.getElem?_of_mem ha;have bN:j < M.ts.length:=by rw [<- i.len]; exact (Do.mp ha).1
  obtain ⟨a',e1,t⟩:=i.th j _ (Db bN);rw [ha] at e1; cases e1;simp only [Ta.l,AT,EQ,KB] at h;rcases h with rfl | rfl | rfl
  ·obtain ⟨_,e',_⟩:=t.o; rw [e'] at e; cases e; exact hx
  ·rw [t.nm] at e; cases e; exact hx
  ·rw [t.pl] at e; cases e; exact hx
def aJ.off (i:aJ CH CS CT H A L M) (h0:M.ts≠[]) {W:List Addr} (hW:∀ b∈W,b∈A.w++L.flatMap Ta.l) (k:Kp W H H'):dh H H':=fun c o ho e=>k c _ (fun hc=>i.HK h0 (hW c hc) ho e) e
def aJ.drawn {st:Addr} (i:aJ CH CS CT H A L M) (h0:M.ts≠[]) (d:Dr st H) (k:cJ st H H'):aJ CH CS CT H' A L M:=by
 refine i.keep (W:=[st]) (fun b o hb e=>k b o (by simpa using hb) e) fun b hb hm=>?_;obtain rfl:b=st:=by simpa using hm
 obtain ⟨x,y,z,e⟩:=d;exact i.HK h0 hb (show wV (.lst [.int x,.int y,.int z]) from vi [x,y,z]) e
end
def Gd.ne {M:Hs} (g:Gd M):M.ts≠[]:=fun e=>by obtain ⟨t,h,_⟩:=g.t0; rw [e] at h; cases h
def wD:List (Str×Nat):=[("own",0),("guest",0)]
structure mP (M:Hs) (n:Nat):Prop where
 g:Gd M
 n:M.ts.length<=n
 st:M.st=wD
def Hz (CH CS CT:Addr) (A:Ad) (n:Nat) (H:Hp):Prop:=∃ L M,aJ CH CS CT H A L M/\mP M n
def aaR {N:Cn} {H:Hp} {Q:VK} (h:∀ v H2,ai H H2->Q v H2):∀ r:Rf,dS N H (sZ N Q) r
 | .cK y=>fun d H' s e=>.inr ⟨rfl,d,y,rfl,e,fun p H2 s2 _ _=>h _ H2 (s.trans s2)⟩
 | .way r=>fun fd d H' s _ e=>.inl ⟨rfl,d,fd,rfl,e,fun p H2 s2 _ _=>h _ H2 (s.trans s2)⟩
def B8 {N:Cn} {H:Hp} {A:Ad} {L:List Ta} {M:Hs} {n:Nat} {z kd mi re tx:Str} {t:List Nat} {Q:VK} (i:aJ N.CH N.CS N.CT H A L M) (g:mP M n) (yi:n<=80) (hz:z∈AS) (hp:mJ t)
  (pP:mi∈jm) (hV:re∈jm) (bu:kd=("folder" : Str)\/kd=("file" : Str)\/kd=("lead" : Str)) (FP:kd=("lead" : Str)->∃ tl,tx=Tx.S tl/\eP tl/\tl.length<=120) (q:∀ v H',Hz N.CH N.CS N.CT A (n+1) H'->dh H H'->Q v H') :
  tw N H A L M z t kd mi re tx (fun v H'=>∀ p H2,ai H' H2->H' p=none->H2 p=some (.tup [.str "told",v])->Q (.ref p) H2) (sZ N Q):=by
 have iX:eP t:=⟨hp.l1,by have:=hp.l2; omega,hp.all⟩;have hw:=hp.n;have hn:=g.n;obtain ⟨root,r,hr,hf⟩:=Qw (L:=L) g.g i.len (by omega) hz iX (by omega);obtain ⟨r0,k0,ga⟩:=g.g.as z hz;refine ⟨i,iX,by rw [ga.ro]; rfl,pP,hV,by rw [i.len]; omega,fun f t0 h=>by have:=(g.g.th f t0 h).nl; omega,root,r,hr,fun x e=>aaR (fun v H2 s=>q v H2 ⟨L,M,i.same s,g.g,by omega,g.st⟩ (dh.of s)) x,fun f nm a0 t0 e iG qD a H' i' k' p H2 s2 _ _=>?_⟩;obtain ⟨tf,cf,jc,bX,hv⟩:=hf f nm e;rw [qD] at cf; cases cf;have kA:=i.off g.g.ne (W:=[A.t,A.ml,a0.nm]) (fun b hb=>by
  simp only [AT,EQ,KB] at hb;rcases hb with rfl | rfl | rfl
  ·simp [Ad.w]
  ·simp [Ad.w]
  ·exact IO _ (mw iG (by simp [Ta.l]))) k'
 exact q _ H2 ⟨_,_,i'.same s2,g.g.make qD jc (by rw [Tx.cw]; exact (wB bX).2.2.2) hv bu FP,by simp; omega,g.st⟩ (kA.trans (dh.of s2))
def pj {σ:St}:jj [] σ []:=⟨rfl,nofun⟩
def gA {j:Nat} {ix:List Nat} {σ:St} {v:V} {vs:List V} (h:σ[j]?=some (some v)) (c:jj ix σ vs):jj (j::ix) σ (v::vs):=⟨UF (· + 1) c.1,fun i k u h1 h2=>by
 cases i with
 | zero=>cases h1; cases h2; exact h
 | succ i=>exact c.2 i k u h1 h2⟩
abbrev lE (P:Program) (w:World) (K:PySem.W.Frag) (mg:Str->Option Value) (base:Heap) (N:List Str) (q:Str) (e:Expr) (cl:List (Str×Addr)) (W:List V->eF):Prop:=∀ (f:Addr) (ag:Value) (vs:List V) (A:Around) (outer:List Env) (s:Shared) (H:Hp) (Q:VK) (E:XK),aZ 17 (A.deeper (PySem.W.envX q (ej e) s.heap.objs.size f ag cl))->W vs H Q E->∃ t,PE (lZ P w K mg base N q (ej e) f ag cl A outer s H E) (T9 e) t/\t (vs.map some) H Q
def W9 (N:Cn) (Pe:Addr):Sp:=iQ fun x _ H Q _=>X3 fun A n es=>A5 (Hz N.CH N.CS N.CT A n H) (A.a=x) (n<=80) (eW H Pe iu es) (∀ v es' H',Hz N.CH N.CS N.CT A (n+1) H'->eW H' Pe iu es'->iJ Pe H H'->Q v H')
def Gk:List V->List V
 | [h,p,r]=>[h,.str "own",p,.str "lgw",r]
 | _=>[]
def K5:List V->List V
 | [h,p,r]=>[h,.str "own",p,.str "text",.str "lgw",r]
 | _=>[]
def Ih:List V->List V
 | [h,p,l]=>[h,.str "own",p,l]
 | _=>[]
def Sm {Pe:Addr} (C:PySem.W.CodeHd base T.oQ Pe) (jS:base.BuiltinsAt mg Pe):aB P w K mg base (bj P w) 20 T.Ey T.xJ ["_law_house","_law_cell"] (W9 T.cn Pe):=by
 refine T.xg.BL oq (fun vs H Q E h=>?_) (fun ag A outer s H vs Q E bF hr h=>?_)
 ·exact bY h fun _ _ _=>rfl
 ·refine bY h fun x cell h=>?_;obtain ⟨AA,n,es,⟨L,M,i,g⟩,rfl,yi,tab,q⟩:=h;have LB_l_built0:lE P w K mg base ["_law_house","_law_path_here","_law_rest"] iu (ig 6) (wL s.heap.objs.size) (fun vs=>zm T.cn (Gk vs)):=by
   intro f ag vs A outer s' H Q E hr hw;unfold Gk at hw;split at hw
   ·refine ⟨_,(lm (Kb T) hr.m T.Mw T.tH.kp T.DS .nil kq (al (ad 0) (al ci (al (ad 1) (al ci (al (ad 2) am)))))).h,?_⟩;simp only [Ix,WP];left;exact hw
   ·exact hw.elim
  have LB_l_built1:lE P w K mg base ["_law_house","_law_path_here","_law_rest"] iu (ig 7) (vg s.heap.objs.size) (fun vs=>Ax T.cn (K5 vs)):=by
   intro f ag vs A outer s' H Q E hr hw;unfold K5 at hw;split at hw
   ·refine ⟨_,(lm (G5 T) hr.m T.Ga T.rH.kp T.BY .nil kq (al (ad 0) (al ci (al (ad 1) (al ci (al ci (al (ad 2) am))))))).h,?_⟩;simp only [Ix,WP];left;exact hw
   ·exact hw.elim
  have LB_l_built2:lE P w K mg base ["_law_house","_law_path_here","_law_lead"] iu (ig 8) (wX s.heap.objs.size) (fun vs=>BX T.cn (Ih vs)):=by
   intro f ag vs A outer s' H Q E hr hw;unfold Ih at hw;split at hw
   ·refine ⟨_,(lm (Jj T) hr.m T.kf.m T.kf.F.kp T.kf.b .nil kq (al (ad 0) (al ci (al (ad 1) (al (ad 2) am))))).h,?_⟩;simp only [Ix,WP];left;exact hw
   ·exact hw.elim
  refine bK (b:=aV jv) ((ap (dl 2 oq.nd (db (CV T) hr.m T.ik.m T.ik.F.kp T.ik.b .nil az (al (ad 1) am)))
  (ap (dl 3 oq.nd (db (vh T) hr.m T.fW.m T.fW.F.kp T.fW.b .nil az (al (ad 2) (al bv am))))
  (ap (dl 4 oq.nd (db (kz T) hr.m T.cB.m T.cB.F.kp T.cB.b .nil az (al (ad 2) (al bv am))))
  (ap (dl 5 oq.nd (tz _Q _R (ve (K:=K) rfl) ci (al (li (al (db (vh T) hr.m T.fW.m T.fW.F.kp T.fW.b .nil az (al (ad 2) (al bv am))) (al (ii (bP (K:=K) rfl) (li (al ci (al ci am))) (db (kz T) hr.m T.cB.m T.cB.F.kp T.cB.b .nil az (al (ad 2) (al bv am)))) am))) am)))
  (ap (em (im mj (ad 5) ci) (bi (dl 5 oq.nd ci)) gl)
  (ap (dl 6 oq.nd (ii (bP (K:=K) rfl) (li (al ci (al ci (al ci (al ci am))))) (db (kz T) hr.m T.cB.m T.cB.F.kp T.cB.b .nil az (al (ad 2) (al bv am)))))
  (ap (em (im sY (ad 4) bv) (bi (cr (wP (lq T) hr.m T.cz.m T.cz.F.kp T.cz.b dC LB_l_built0 (aas (bF.symm.trans T.Ae) C jS) (aak _) WW))) gl)
  (ap (em (im sY (ad 4) bv) (bi (cr (wP (lq T) hr.m T.cz.m T.cz.F.kp T.cz.b dC LB_l_built1 (V9 (bF.symm.trans T.Ae) C jS) (aa1 _) R9))) gl)
  (bi (cr (wP (lq T) hr.m T.cz.m T.cz.F.kp T.cz.b dC LB_l_built2 (SH (bF.symm.trans T.Ae) C jS) (PJ _) Ts)))))))))))) ?_
  rw [show start nU [V.ref AA.a,V.int cell]=[some (V.ref AA.a),some (V.int cell),none,none,none,none,none] from rfl];right;intro st a b c aU;have s1:=ai.upd (o:=.lst [.int a,.int b,.int c]) aU;have d1:Dr st (upd H st (.lst [.int a,.int b,.int c])):=⟨a,b,c,aw⟩;generalize upd H st (.lst [.int a,.int b,.int c])=H1 at s1 d1 ⊢;right;refine ⟨d1,by decide,by decide,fun t H3 hp d3 k3=>ah ?_⟩;left;refine vv d3 (by decide) (by decide) fun way H4 _ _ d4 k4=>ah ?_;left;refine ⟨d4,by decide,by decide,fun tl H5 bw d5 k5=>mf d5 rfl (by simp) (by simp) fun v H6 hv d6 k6=>?_⟩;obtain ⟨u,hu,rfl⟩:∃ u:List Nat,(u=[]\/u=[47,99])/\v=V.str (Tx.S u):=by
   simp only [AT,EQ,KB] at hv;rcases hv with rfl | rfl
   ·exact ⟨[],.inl rfl,by decide +kernel⟩
   ·exact ⟨[47,99],.inr rfl,by decide +kernel⟩
  refine ⟨fits (by simp),fun p oF=>?_⟩;refine fX (o:=.lst [V.str (Tx.S tl),V.str (Tx.S u)]) oF fun H7 s7 b7=>?_;have qw:=bw.l2;have gP:=bw.l1;have hul:u.length<=2:=by rcases hu with rfl | rfl <;> simp
  have e0:(Str.ofString "").length=0:=by decide +kernel
  refine ⟨_,aD.of b7,[Tx.S tl,Tx.S u],rfl,?_,?_⟩
  ·show 0+(Tx.S tl).length+(Str.ofString "").length+(Tx.S u).length+(Str.ofString "").length<=sizeLine;rw [Tx.cw,Tx.cw,e0];exact fits (by omega)
  rw [show (Str.ofString "").join [Tx.S tl,Tx.S u]=Tx.S (tl++u) by
   rw [show Str.ofString "" = Tx.S (List.replicate 0 47) by decide +kernel];exact (ot 0 [tl,u]).trans (by show Tx.S (tl++[]++u)=_; rw [_h])]
  have uD:eP (tl++u):=by
   refine ⟨by rw [Da]; omega,by rw [Da]; omega,?_⟩;rcases hu with rfl | rfl
   ·rw [_h]; exact bw.all
   ·rw [Tx.rq,_9,bw.all]; decide +kernel
  have Ef:(tl++u).length<=120:=by rw [Da]; omega
  have MQ:Tx.S (tl++u)≠Str.ofString "" := fun e=>by
   have:=UF Str.length e;rw [Tx.cw,e0,Da] at this;omega
  generalize tl++u=tl at uD Ef MQ ⊢;have k7:cJ st H6 H7:=s7.keep st;have d7:=d6.same s7;right;refine dq (Ch MQ) (ah ?_);left;refine mf d7 rfl (by simp) (by simp) fun v H8 hv d8 k8=>?_;obtain ⟨re,hV,rfl⟩:∃ z,z∈jm/\v=V.str z:=by
   simp only [AT,EQ,KB] at hv;rcases hv with rfl | rfl | rfl | rfl <;> exact ⟨_,by decide +kernel,rfl⟩
  have kk:cJ st H1 H8:=((((k3.trans k4).trans k5).trans k6).trans k7).trans k8;have i7:=(i.same s1).drawn g.g.ne d1 kk;have kA:dh H H8:=fun c o ho e=>kk c o (fun z=>by rw [z,aU] at e; cases e) (s1 _ _ e);have qy:=kA.tab tab;have hz:("own" : Str)∈AS:=by decide +kernel
  clear d1 d3 d4 d5 d6 d7 d8 k3 k4 k5 k6 k7 k8 kk s1 s7 b7;have fin:∀ {c:Addr} {H9:Hp},lD Pe iu c H8 H9->∀ v H',Hz T.cn.CH T.cn.CS T.cn.CT AA (n+1) H'->dh H9 H'->Q v H':=fun L8 v H' hh k=>by
   obtain ⟨es8,t8⟩:=L8.tab;exact q v es8 H' hh (k.tab t8) (kA.l.trans ((Zr L8).trans k.l))
  right;refine mm (fun _=>?_) (fun _=>ah ?_)
  ·refine ⟨es,[.ref AA.a,.str (Tx.S t),.str re],qy,gA rfl (gA rfl (gA rfl pj)),fun c H9 L9=>⟨L9.code,AA,L,M,t,rfl,B8 (i7.eR (w6 L9 qy)) g yi hz hp (by decide +kernel) hV (.inl rfl) (fun e=>absurd e (by decide +kernel)) (fin L9),rfl⟩⟩
  ·left;refine mm (fun _=>?_) (fun _=>?_)
   ·refine ⟨es,[.ref AA.a,.str (Tx.S t),.str re],qy,gA rfl (gA rfl (gA rfl pj)),fun c H9 L9=>⟨L9.code,AA,L,M,t,rfl,B8 (i7.eR (w6 L9 qy)) g yi hz hp (by decide +kernel) hV (.inr (.inl rfl)) (fun e=>absurd e (by decide +kernel)) (fin L9),rfl,by decide +kernel⟩⟩
   ·left;refine ⟨es,[.ref AA.a,.str (Tx.S t),.str (Tx.S tl)],qy,gA rfl (gA rfl (gA rfl pj)),fun c H9 L9=>⟨L9.code,AA,L,M,t,tl,rfl,rfl,B8 (i7.eR (w6 L9 qy)) g yi hz hp (by decide +kernel) (by decide +kernel) (.inr (.inr rfl)) (fun _=>⟨tl,rfl,uD,Ef⟩) (fin L9),rfl,uD,Ef⟩⟩
def cL.nil {d:Wd} {fr:Bool} {e:End} (g:cL d fr [] e):∃ k ns,e.res=.found k ns/\e.asked=[]/\pK d fr k:=by
 have no:∀ {l:List (Sum Nat Str)} {x},cm []≠l++[x]:=fun z=>by unfold cm at z; simp at z
 cases g with
 | told b _ r =>
  cases r with
  | pop e=>exact absurd e no
  | step e=>exact absurd e no
  | fail e=>exact absurd e no
 | found b _ r t =>
  cases r with
  | done=>exact ⟨_,_,rfl,rfl,b⟩
  | pop e=>exact absurd e no
  | step e=>exact absurd e no
def C9 (N:Cn):Sp:=mR fun h z pt H _ E=>X6 fun A L M root t rf=>A7 (pt=Tx.S t) (eP t) (aJ N.CH N.CS N.CT H A L M) (A.a=h) ((aM (sD M.ro) (.inr z)).isSome=true) (gB ⟨L,M,z,true,root⟩ t (.inl rf)) (dS N H E rf)
def Mr:aB P w K mg base (bj P w) 17 T.kj.f T.kj.d ["house","asker","path"] (C9 T.cn):=by
 refine T.kj.F.eg Mo (fun _ _ _ _ h=>gx h fun _ _ _ _=>rfl) fun ag A outer s H vs Q E hr h=>gx h fun hh z pt h=>?_;obtain ⟨AA,L,M,root,t,rf,rfl,hp,i,rfl,hz,hs,r⟩:=h;obtain ⟨lR,gc,gh,_,en⟩:=i.h;refine bK (b:=aV AO) ((ap (dL (pc T.aN T.dY.h (kD T) hr.m T.dY.b .nil cS (ad 0) (al (ad 1) am)))
 (ap (dl 3 Mo.nd (lm (B5 T) hr.m T.h9.m T.h9.F.kp T.h9.b .nil cS (al (ad 0) (al (ad 1) (al (ad 2) am)))))
 (ap pi
 (ap pi
 (ap pi
 (ap pi
 (bi pi)))))))) ?_
 refine stI [some (V.ref AA.a),some (V.str z),some (V.str (Tx.S t)),none,none] ?_;right;refine mI gh en (my i hz (ah ?_));left;exact ⟨AA,L,M,root,t,_,rfl,hp,i,rfl,hs,fun x e=>(by cases e; exact r),fun f nm e=>by cases e⟩
def Po:aB P w K mg base (bj P w) 4 T.pV.f T.pV.d ["house","asker","path","other"] (fun vs H Q _=>∃ A L M z t1 t2,vs=[.ref A.a,.str z,.str (Tx.S t1),.str (Tx.S t2)]/\aJ T.aK T.aQ T.bb H A L M/\(aM (sD M.ro) (.inr z)).isSome=true/\eP t1/\eP t2/\∀ H',ai H H'->Q .au H'):=by
 refine T.pV.F.eg Tj (fun vs H Q E h=>?_) (fun ag A outer s H vs Q E hr h=>?_)
 ·obtain ⟨_,_,_,_,_,_,rfl,_⟩:=h;rfl
 ·obtain ⟨AA,L,M,z,t1,t2,rfl,i,hz,p1,p2,q⟩:=h;obtain ⟨lR,gc,gh,_,en⟩:=i.h;refine bK (b:=aV zj) ((ap (dL (pc T.aN T.dY.h (kD T) hr.m T.dY.b .nil cS (ad 0) (al (ad 1) am)))
   (ap (dL (db (jC T) hr.m T.cq.m T.cq.F.kp T.cq.b .nil az (al (ad 2) am)))
   (bi (dL (db (jC T) hr.m T.cq.m T.cq.F.kp T.cq.b .nil az (al (ad 3) am))))))) ?_
  refine stI [some (V.ref AA.a),some (V.str z),some (V.str (Tx.S t1)),some (V.str (Tx.S t2))] ?_;right;refine mI gh en (my i hz (ah ?_));left;refine ⟨t1,rfl,p1.l1,p1.l2,p1.all,fun H1 l p s1 _ hl hp=>?_⟩;left;exact ⟨t2,rfl,p2.l1,p2.l2,p2.all,fun H2 l p s2 _ hl hp=>q H2 (s1.trans s2)⟩
def Kc (N:Cn):Sp:=zU fun h z p1 pt H _ E=>X7 fun A L M root t e rf=>A8 (p1=("/" : Str)) (pt=Tx.S t) (eP t) (aJ N.CH N.CS N.CT H A L M) (A.a=h) (fq ⟨L,M,z,true,root⟩ [47] e) (gB ⟨L,M,z,true,root⟩ t (.inl rf)) (dS N H E rf)
def aax:aB P w K mg base (bj P w) 17 T.pN.f T.pN.d ["house","asker","path","other"] (Kc T.cn):=by
 refine T.pN.F.eg Bb (fun _ _ _ _ h=>vq h fun _ _ _ _ _=>rfl) fun ag A outer s H vs Q E hr h=>vq h fun hh z p1 pt h=>?_;obtain ⟨AA,L,M,root,t,e,rf,rfl,rfl,hp,i,rfl,pw,hs,r⟩:=h;obtain ⟨k,ns,hk,_⟩:∃ k ns,e.res=.found k ns/\e.asked=[]/\pK _ _ k:=(show cL _ _ [] e by have:=pw.g; rwa [show dJ [47]=[] by decide +kernel] at this).nil;refine bK (b:=aV CL) ((ap (dL (lm (Po T) hr.m T.pV.m T.pV.F.kp T.pV.b .nil cS (al (ad 0) (al (ad 1) (al (ad 2) (al (ad 3) am))))))
 (ap (dL (lm (Gm T) hr.m T.lC.m T.lC.F.kp T.lC.b .nil cS (al (ad 3) am)))
 (ap (dl 4 Bb.nd (lm (Sr T) hr.m T.pE.m T.pE.F.kp T.pE.b .nil cS (al (ad 0) (al (ad 1) (al (ad 2) am)))))
 (ap (dl 5 Bb.nd (lm (B5 T) hr.m T.h9.m T.h9.F.kp T.h9.b .nil cS (al (ad 0) (al (ad 1) (al (ad 3) am)))))
 (ap pi
 (ap pi
 (ap pi
 (ap pi
 (bi pi)))))))))) ?_
 refine stI [some (V.ref AA.a),some (V.str z),some (V.str ("/" : Str)),some (V.str (Tx.S t)),none,none] ?_;right;have gk:("/" : Str)=Tx.S [47]:=by decide +kernel
 refine ⟨AA,L,M,z,[47],t,by rw [gk],i,pw.hz,⟨by decide,by decide,by decide +kernel⟩,hp,fun H1 s1=>ah ?_⟩;left;obtain ⟨sr,hsr,jd⟩:∃ sr,dQ (told (Tx.words 47 t) t) sr/\(sr=none->rf=.cK "dots"):=by
  cases hs with
  | eO h=>exact ⟨_,h,fun _=>rfl⟩
  | way h=>exact ⟨_,h,nofun⟩
 refine ⟨t,sr,rfl,hp,hsr,fun x _ H2 s2=>ah ?_,fun e=>by rw [jd e] at r; exact r.of s1⟩;left;refine ⟨AA,L,M,root,[47],e,gk,i.same (s1.trans s2),rfl,pw,fun k ns he H3 s3=>ah ?_,fun hn=>absurd hk (hn k ns)⟩;left;have OB:=(s1.trans s2).trans s3;exact ⟨AA,L,M,root,t,_,rfl,hp,i.same OB,rfl,hs,fun x e=>(by cases e; exact r.of OB),fun f nm e=>by cases e⟩
inductive gO (d:Wd) (t:List Nat):Option Rf->Prop
 | eO:dQ (told (Tx.words 47 t) t) none->gO d t (some (.cK "dots"))
 | way {q nm e}:dQ (told (Tx.words 47 t) t) (some (q,nm))->cL d (bV t) (q.map Tx.S) e->(∀ k ns,e.res≠.found k ns)->gO d t (some (.way e.res))
 | flat {q nm e k ns a th}:dQ (told (Tx.words 47 t) t) (some (q,nm))->cL d (bV t) (q.map Tx.S) e->e.res=.found k ns->d.L[k]?=some a->d.M.ts[k]?=some th->th.kd≠("folder" : Str)->gO d t (some (.way (.failed (e.asked.length+1) "flat")))
 | fZ {q nm e k ns a th}:dQ (told (Tx.words 47 t) t) (some (q,nm))->cL d (bV t) (q.map Tx.S) e->e.res=.found k ns->d.L[k]?=some a->d.M.ts[k]?=some th->th.kd=("folder" : Str)->dF ("g" : Str) (dm th d.z)=false->gO d t (some (.way (.failed (e.asked.length+1) "shut")))
 | ok {q nm e k ns a th}:dQ (told (Tx.words 47 t) t) (some (q,nm))->cL d (bV t) (q.map Tx.S) e->e.res=.found k ns->d.L[k]?=some a->d.M.ts[k]?=some th->th.kd=("folder" : Str)->dF ("g" : Str) (dm th d.z)=true->gO d t none
def dQ.pZ {ps:List (List Nat)} {q:List (List Nat)} {nm:List Nat} (h:dQ ps (some (q,nm))):ps=q++[nm]/\isNm nm=true:=by
 cases h with
 | BD e h=>exact ⟨e,h⟩
def Kh {t:List Nat} {q:List (List Nat)} {nm:List Nat} (p:mJ t) (h:dQ (told (Tx.words 47 t) t) (some (q,nm))):q.length<=6:=by
 have h1:=UF List.length h.pZ.1;have h2:=@vC (Tx.words 47 t) t;have h3:=p.n;rw [Da] at h1;simp only [Os,_M] at h1;omega
def gO.vF {d:Wd} {t:List Nat} {rf:Rf} (hl:d.last=true) (p:mJ t) (h:gO d t (some rf)):gB d t (.inl rf):=by
 have ln:∀ {q:List (List Nat)} {nm},dQ (told (Tx.words 47 t) t) (some (q,nm))->(q.map Tx.S).length < 2500/\q.length<=900:=fun hs=>by
  have:=Kh p hs;rw [At]; omega
 cases h with
 | eO h=>exact .eO h
 | way hs g hn=>exact .way hs (ln hs).2 (g.Yr hl (ln hs).1 hn) hn
 | flat hs g hk ha ht bu =>
  obtain ⟨a,th,ha',ht',h1,_⟩:=g.Hi hl (ln hs).1 hk;rw [ht] at ht'; cases ht';obtain ⟨as,g'⟩:=h1 bu;exact gB.way (e:=⟨as,_⟩) hs (ln hs).2 g' (by nofun)
 | fZ hs g hk ha ht bu hm =>
  obtain ⟨a,th,ha',ht',_,h1,_⟩:=g.Hi hl (ln hs).1 hk;rw [ht] at ht'; cases ht';obtain ⟨as,g'⟩:=h1 bu hm;exact gB.way (e:=⟨as,_⟩) hs (ln hs).2 g' (by nofun)
def YC {M:Hs} {L:List Ta} {n:Nat} {z:Str} {t:List Nat} (g:mP M n) (hn:n<=60) (hL:L.length=M.ts.length) (hz:z∈AS) (p:mJ t):∃ root x,gO ⟨L,M,z,true,root⟩ t x/\∃ e,fq ⟨L,M,z,true,root⟩ [47] e:=by
 have rj:=g.n;obtain ⟨r1,e1,h1,pw,_⟩:=WT (L:=L) g.g hL (by omega) hz true (t:=[47]) ⟨by decide,by decide,by decide +kernel⟩;obtain ⟨sr,hs⟩:=Jl (sJ (t:=t) p.all);cases sr with
 | none=>exact ⟨r1,_,.eO hs,e1,pw⟩
 | some qn =>
  obtain ⟨q,nm⟩:=qn;have oW:=hs.pZ.1;obtain ⟨r,e,h2,gw,ev,_⟩:=Dc (L:=L) g.g hL (by omega) hz true (fr:=bV t) (ps:=q.map Tx.S) (fun x hx=>by
   obtain ⟨y,hy,rfl⟩:=LE.mp hx;exact zV (GM.mp (sJ (t:=t) p.all) y (by rw [oW]; exact _a _ hy))) (by have:=Kh p hs; rw [At]; omega)
  obtain rfl:r1=r:=by rw [h1] at h2; injection h2 with h2; injection h2 with h2; omega
  by_cases hf:∃ k ns,e.res=.found k ns
  ·obtain ⟨k,ns,hk⟩:=hf;obtain ⟨th,aF,_⟩:=ev k ns hk;obtain ⟨a,ha⟩:=adr hL aF;by_cases bu:th.kd=("folder" : Str)
   ·cases hm:dF ("g" : Str) (dm th z) with
    | false=>exact ⟨_,_,.fZ hs gw hk ha aF bu hm,e1,pw⟩
    | true=>exact ⟨_,_,.ok hs gw hk ha aF bu hm,e1,pw⟩
   ·exact ⟨_,_,.flat hs gw hk ha aF bu,e1,pw⟩
  ·exact ⟨_,_,.way hs gw fun k ns h=>hf ⟨k,ns,h⟩,e1,pw⟩
def mV (H:Hp) (p:Addr):Rf->Prop
 | .way r=>∃ p2,H p=some (.tup [.str "way",.ref p2])/\gi H p2 r
 | .cK y=>H p=some (.tup [.str "deed",.str y])
def IF (w':List Nat):f7 (V.str (Tx.S w')) [V.str (Str.ofString "."),V.str (Str.ofString "..")]=(decide (w'=[46]) || decide (w'=[46,46])):=by
 rw [show Str.ofString "." = Tx.S [46] from by decide +kernel,show Str.ofString ".." = Tx.S [46,46] from by decide +kernel];unfold f7 eY;simp only [_n,List.any_nil,_6];have b:∀ m:List Nat,(Tx.S m == Tx.S w')=decide (w'=m):=fun m=>by
  by_cases h:w'=m
  ·rw [h]; simp
  ·have:Tx.S m≠Tx.S w':=fun e=>h (Tx.vU e).symm;rw [Ch h];exact On.mpr this
 rw [b,b]
def Bs (as:List V) (v:V):fi (as++[v]) none (some (-1))=as:=by
 unfold fi;rw [show HT.cT (as++[v]).length (as++[v]).length (some (-1))=as.length by unfold HT.cT; simp; omega];simp [HT.cT]
def UA {d:Wd} {q:List (List Nat)} {rt:Bool} {e:End} (ef:q.all b9=true) (h6:q.length<=6) (cQ:rt=true\/q≠[]) (g:cL d rt (q.map Tx.S) e):fq d ((if rt=true then [47] else [])++Tx.cH 47 q) e:=by
 have hw:∀ w'∈q,47 ∉ w'/\w'≠[]:=fun w' hw'=>let z:=iH (GM.mp ef w' hw'); ⟨z.1,z.2.1⟩
 have hl:=(AU ef (by omega)).2;cases rt with
 | true =>
  rw [IN rfl];have ew:Tx.words 47 ([47]++Tx.cH 47 q)=q:=(Tx.zc 47 _).trans (Tx.wC 47 q hw);refine ⟨by simp,by simp; omega,by rw [ew]; exact ef,?_⟩;rw [show bV ([47]++Tx.cH 47 q)=true from rfl,show dJ ([47]++Tx.cH 47 q)=q.map Tx.S by unfold dJ; rw [ew]; exact UF _ (TF ef)];exact g
 | false =>
  rw [Id (by nofun),List.nil_append];have hq:q≠[]:=cQ.resolve_left (by nofun);have hj:=Tx.wK 47 q hw hq;have ew:Tx.words 47 (Tx.cH 47 q)=q:=Tx.wC 47 q hw;refine ⟨by cases h:Tx.cH 47 q with | nil=>exact absurd h hj | cons=>simp,by omega,by rw [ew]; exact ef,?_⟩;rw [show bV (Tx.cH 47 q)=false by unfold bV; exact Ch (Tx.US 47 q hw),show dJ (Tx.cH 47 q)=q.map Tx.S by unfold dJ; rw [ew]; exact UF _ (Q8 ef)];exact g
def SV {b c:Bool} {X Y:Prop} (h:b=true\/c=true->X) (h':b=false->c=false->Y):if b=true then (if true=true then X else Y) else (if c=true then X else Y):=by cases b <;> cases c <;> simp_all
def Ap:∀ z∈AS,aM (sD wD) (.inr z)=some (.int ((0:Nat):Int)):=by
 intro z hz;unfold AS at hz;simp only [AT,EQ,KB] at hz;rcases hz with rfl | rfl <;> decide +kernel
def gO.split {L:List Ta} {M:Hs} {z:Str} {root:Nat} {t:List Nat} {x:Option Rf} (h:gO ⟨L,M,z,true,root⟩ t x):∃ sr,dQ (told (Tx.words 47 t) t) sr/\(sr=none->x=some (.cK "dots"))/\∀ q nm,sr=some (q,nm)->∃ e,cL ⟨L,M,z,true,root⟩ (bV t) (q.map Tx.S) e/\((∀ k ns,e.res≠.found k ns)->x=some (.way e.res)) /\
  ∀ k ns,e.res=.found k ns->∃ a th,L[k]?=some a/\M.ts[k]?=some th/\(th.kd≠("folder" : Str)->x=some (.way (.failed (e.asked.length+1) "flat")))/\(th.kd=("folder" : Str)->dF ("g" : Str) (dm th z)=false->x=some (.way (.failed (e.asked.length+1) "shut")))/\(th.kd=("folder" : Str)->dF ("g" : Str) (dm th z)=true->x=none):=by
 cases h with
 | eO h=>exact ⟨_,h,fun _=>rfl,nofun⟩
 | way hs g hn=>exact ⟨_,hs,nofun,fun q nm e=>by cases e; exact ⟨_,g,fun _=>rfl,fun k ns e=>absurd e (hn k ns)⟩⟩
 | flat hs g hk ha ht bu=>exact ⟨_,hs,nofun,fun q nm e=>by cases e; exact ⟨_,g,fun hn=>absurd hk (hn _ _),fun k ns e=>by rw [hk] at e; cases e; exact ⟨_,_,ha,ht,fun _=>rfl,fun z=>absurd z bu,fun z=>absurd z bu⟩⟩⟩
 | fZ hs g hk ha ht bu hm=>exact ⟨_,hs,nofun,fun q nm e=>by cases e; exact ⟨_,g,fun hn=>absurd hk (hn _ _),fun k ns e=>by rw [hk] at e; cases e; exact ⟨_,_,ha,ht,fun z=>absurd bu z,fun _ _=>rfl,fun _ h7=>nomatch h7.symm.trans hm⟩⟩⟩
 | ok hs g hk ha ht bu hm=>exact ⟨_,hs,nofun,fun q nm e=>by cases e; exact ⟨_,g,fun hn=>absurd hk (hn _ _),fun k ns e=>by rw [hk] at e; cases e; exact ⟨_,_,ha,ht,fun z=>absurd bu z,fun _ h7=>(nomatch h7.symm.trans hm),fun _ _=>rfl⟩⟩⟩
def XC (N:Cn):Sp:=mR fun h z pt H Q _=>X7 fun A L M n root t x=>vW (pt=Tx.S t) (aJ N.CH N.CS N.CT H A L M) (A.a=h) (mP M n) (n<=60) (z∈AS) (mJ t) (gO ⟨L,M,z,true,root⟩ t x) (∀ rf,x=some rf->∀ p H',ai H H'->mV H' p rf->Q (.ref p) H') (x=none->∀ H',ai H H'->Q .au H')
def IT:T.kM.k P w base 15 (XC T.cn):=by
 refine T.kM.F.ok kF (fun _ _ _ _ h=>gx h fun _ _ _ _=>rfl) fun ag A outer s H vs Q E hr h=>gx h fun hh z pt h=>?_;obtain ⟨AA,L,M,n,root,t,x,rfl,i,rfl,g,lI,hz,hp,hx,q1,q2⟩:=h;refine bK (b:=aV DD) ((ap (Dv.Jk 3 rfl kF.nd (x:=("_law_part" : Str)) (Dv.nS (K:=K) rfl (tz PySem.F.slot_str_split PySem.F.type_str_split KU (ad 2) (al ci am))) (fun _ _ _ _=>by exact (Dv.zg (im ki (ad 0) ci))) (fun _ _ _ _=>by exact (sK 0 (show List.Nodup (["_law_part"]:List Str) by decide))) (fun _ _ _ _=>by exact (ad 0)) (.of rfl (by exact trivial) (by walk_at "c") rfl (by exact trivial)))
 (ap (em (sB (ut (im (Io hr.pe) (ad 3) (li am)) (ut (jp (tz PySem.F.slot_str_endswith PySem.F.type_str_endswith Kd (ad 2) (al ci am))) (wn (im (vP (K:=K) rfl) (ii (bP (K:=K) rfl) (ad 3) (ww kY bv)) (pp (al ci (al ci am)))))))) (bi (cr (pp (al ci (al ci am))))) gl)
 (ap (dl 4 kF.nd (tz _Q _R (ve (K:=K) rfl) ci (al (zn (nR (K:=K) rfl) (ad 3) Dv.tJ (wE (ww kY bv))) am)))
 (ap (dl 5 kF.nd bv)
 (ap (dl 6 kF.nd bv)
 (ap (em (sB (ut (jp (tz _T _U CU (ad 2) (al ci am))) (wn (im ki (ad 4) ci)))) (ap (dl 4 kF.nd (io fT (ii (bP (K:=K) rfl) (li (al ci (al ci am))) (Dv.t9 Mh T.Cr Bi (al (tz _T _U CU (ad 2) (al ci am)) am))) (ad 4)))
 (ap (dl 7 kF.nd (db (Kw T) hr.m T.Iy T.tR.kp T.xo (.cons (show RelV (.bl true) _ from rfl) .nil) az (al (ad 0) (al (ad 1) (al (ad 4) am)))))
 (ap (em (lv (jp (kt (tP (K:=K) rfl) T.gu gC (al (ad 7) (al (mo (.ref T.dE) T.vN rfl) am))))) (bi (cr (pp (al ci (al (db (Hy T) hr.m T.kU.m T.kU.F.kp T.kU.b .nil az (al (ad 7) am)) am))))) gl)
 (ap (dl 5 kF.nd (bn T.lb T.v9 (ad 7)))
 (bi (dl 6 kF.nd (kt (lV (K:=K) rfl) T.kN _e (al (db (OP T) hr.m T.T5 T.xm.kp T.zR (.cons (show RelV (.bl true) _ from rfl) .nil) az (al (ad 0) (al (ad 1) (al (ad 4) am)))) am)))))))) gl)
 (ap (em (im ki (ge T.aN T.iN.h (vQ T) hr.m T.iN.b .nil az (ad 0) (al (ad 5) am)) ci) (bi (cr (pp (al ci (al (pp (al ci (al (io fT (ad 6) bv) (al ci am)))) am))))) gl)
 (ap (em (lv (jp (pc T.aN T.kg.h (Bu T) hr.m T.kg.b .nil dC (ad 0) (al (ad 1) (al (ad 5) (al ci am)))))) (bi (cr (pp (al ci (al (pp (al ci (al (io fT (ad 6) bv) (al ci am)))) am))))) gl)
 (bi (cr ul))))))))))) ?_
 refine stI [some (V.ref AA.a),some (V.str z),some (V.str (Tx.S t)),none,none,none,none,none] ?_;have gk:Str.ofString "/" = Tx.S [47]:=by decide +kernel
 have e0:Str.ofString "" = Tx.S []:=by decide +kernel
 have t2:=hp.l2;have iZ:=Tx.vT 47 t;right;simp only [gk,e0];refine ⟨rfl,by rw [Tx.cw]; exact fits (by omega),?_,?_⟩
 ·rw [Tx.C5,Tx.kJ,Tx.AF,Tx.rF,At];exact fits (by omega)
 intro l hl;rw [Tx.Le t 47 (by decide)];refine fX (o:=.lst (((Tx.cut 47 t).map Tx.S).map V.str)) hl fun H1 s1 b1=>?_;refine ⟨⟨_,aD.of b1⟩,Bc (fun x=>match x with | .str z=>!decide (z=Tx.S []) | _=>false) id (aD.of b1) (by rw [At,At]; exact fits (by omega)) ?_ ?_ ?_⟩
 ·intro x hx H2 _ R hR;obtain ⟨z,_,rfl⟩:=LE.mp hx;left;exact hR H2 (ai.refl H2)
 ·intro x hx _ H2 _ R hR;left;exact hR H2 (ai.refl H2)
 intro H2 s2 l2 cy;have ew:((((Tx.cut 47 t).map Tx.S).map V.str).filter (fun x=>match x with | .str z=>!decide (z=Tx.S []) | _=>false)).map id=PV (Tx.words 47 t):=by
  rw [List.map_id,List.filter_map];show ((((Tx.cut 47 t).map Tx.S)).filter _).map V.str=_
  congr 1
  rw [<- Tx.Ir];refine List.filter_congr fun z _=>?_;show (!decide (z=Tx.S []))=decide (z≠Tx.S []);by_cases h:z=Tx.S [] <;> simp [h]
 rw [ew];have xM:=(s1.trans s2).trans (ai.upd (o:=.lst (PV (Tx.words 47 t))) cy);have b3:upd H2 l2 (.lst (PV (Tx.words 47 t))) l2=some (.lst (PV (Tx.words 47 t))):=aw;generalize upd H2 l2 (.lst (PV (Tx.words 47 t)))=H3 at xM b3 ⊢;clear s1 s2 b1 ew hl cy iZ;have ef:=hp.all;have h6:=hp.n;generalize hW:Tx.words 47 t=W at b3 ef h6;right;refine ⟨fits (by simp),fun p0 hp0=>?_⟩;have s4:=ai.upd (o:=.lst []) hp0;have c4:upd H3 p0 (.lst []) p0=some (.lst ((([]:List Str)).map V.str)):=aw;generalize upd H3 p0 (.lst [])=H4 at s4 c4 ⊢;have b4:H4 l2=some (.lst ((W.map Tx.S).map V.str)):=s4 _ _ b3;have xH:=xM.trans s4;refine ⟨W.map Tx.S,[],b4,c4,?_⟩;obtain ⟨sr,hs,o1,o2⟩:=hx.split;rw [hW] at hs;have eO:x=some (.cK "dots")->∀ {H'},ai H H'->[V.str (Str.ofString "deed"),V.str (Str.ofString "dots")].length<=sizeLine/\∀ p,H' p=none->Q (.ref p) (upd H' p (.tup [V.str (Str.ofString "deed"),V.str (Str.ofString "dots")])):=fun e H' s=>⟨fits (by simp),fun p hp=>q1 _ e p _ (s.trans (ai.upd hp)) aw⟩;have e1:Str.ofString "." = Tx.S [46]:=by decide +kernel
 have e2:Str.ofString ".." = Tx.S [46,46]:=by decide +kernel
 cases sr with
 | none =>
  by_cases m8:W=[]
  ·exact eB (Go (by rw [m8]; rfl)) (bL (eO (o1 rfl) xH))
  refine dq (Ch (by simpa using m8)) ?_;rw [Tx.Bx];by_cases iV:t.getLast?=some 47
  ·exact eB (Go iV) (bL (eO (o1 rfl) xH))
  refine dq (Ch iV) ?_;have et:told W t=W:=by unfold told; rw [Id (fun z=>iV z.2)]
  rw [et] at hs;cases hs with
  | nil e=>exact absurd e m8
  | @eO q nm e hn h8 =>
   have iX:b9 nm=true:=GM.mp ef nm (by rw [e]; simp);have b5:H4 l2=some (.lst ((q.map Tx.S).map V.str++[V.str (Tx.S nm)])):=by rw [b4,e]; simp
   simp only [bH,b5,mS];refine ⟨fits (by simp),fun p hp=>⟨_,.inr (bo.of aw),rfl,rfl,?_⟩⟩;refine eB (by rw [IF]; unfold b9 at iX; rw [hn,_6] at iX; exact iX) (eO (o1 rfl) (xH.trans (ai.upd hp)))
 | some qn =>
  obtain ⟨q,nm⟩:=qn;obtain ⟨oW,bX⟩:=hs.pZ;have iV:¬ (W≠[]/\t.getLast?=some 47):=fun z=>by
   unfold told at oW;rw [IN z] at oW;have:=List.append_inj_right' oW rfl;cases this;exact absurd bX (by decide +kernel)
  have et:told W t=W:=by unfold told; rw [Id iV]
  rw [et] at oW;subst oW;obtain ⟨e,gw,o3,o4⟩:=o2 q nm rfl;rw [_9,IR] at ef;have yn:=ef.1;have hq6:q.length<=6:=by rw [Da] at h6; omega
  have b5:H4 l2=some (.lst ((q.map Tx.S).map V.str++[V.str (Tx.S nm)])):=by rw [b4]; simp
  refine dq (Ch (by simp)) ?_;rw [Tx.Bx];refine dq (Ch fun z=>iV ⟨by simp,z⟩) ?_;simp only [bH,b5,mS];refine ⟨fits (by simp),fun p6 oF=>⟨_,.inr (bo.of aw),rfl,rfl,?_⟩⟩;refine dq (by
   rw [IF];cases h:(decide (nm=[46]) || decide (nm=[46,46])) with
   | false=>rfl
   | true =>
    rw [Jar,_f,_f] at h;rcases h with rfl | rfl <;> exact absurd bX (by decide +kernel)) ?_
  have NZ:=xH.trans (ai.upd (o:=.tup [V.str (Str.ofString "."),V.str (Str.ofString "..")]) oF);have b6:=(ai.upd (o:=.tup [V.str (Str.ofString "."),V.str (Str.ofString "..")]) oF) _ _ b5;generalize upd H4 p6 (.tup [V.str (Str.ofString "."),V.str (Str.ofString "..")])=H6 at NZ b6 ⊢;clear b5 b4 c4 s4 b3 eO o1 o2 hs;right;refine GR b6 fun p7 hp7=>?_;rw [Bs];have Ek:=NZ.trans (ai.upd (o:=.lst ((q.map Tx.S).map V.str)) hp7);have b7:upd H6 p7 (.lst ((q.map Tx.S).map V.str)) p7=some (.lst ((q.map Tx.S).map V.str)):=aw;generalize upd H6 p7 (.lst ((q.map Tx.S).map V.str))=H7 at Ek b7 ⊢;refine GR b7 ⟨q.map Tx.S,rfl,(AU yn (by omega)).1,?_⟩;rw [Tx.Lz 47 q];have yr:=(AU yn (by omega)).2;have hw:∀ w'∈q,47 ∉ w'/\w'≠[]:=fun w' hw'=>let z:=iH (GM.mp yn w' hw'); ⟨z.1,z.2.1⟩
  clear b7 b6;right;right;refine jY (fun σ' H'=>ai H H'/\∃ k ns hd t7,e.res=.found k ns/\σ'=[some (V.ref AA.a),some (V.str z),some (V.str (Tx.S t)),some (V.ref l2),some hd,some (V.int (k:Nat)),some (V.int (e.asked.length:Nat)),t7]) ?_ ?_
  ·left;rw [Tx.DI];refine SV (fun hb=>?_) (fun h1 h2=>?_)
   ·have cQ:bV t=true\/q≠[]:=hb.imp id fun h=>by
     rintro rfl;exact absurd h (by decide +kernel)
    have pw:=UA yn hq6 cQ gw;right;refine ⟨fits (by simp),fun p8 FE=>?_⟩;have ea:cM [V.str (Tx.S []),V.str (Tx.S [47])] (if Txt.startswith (Tx.S t) (Tx.S [47])=true then 1 else 0)=some (.str (Tx.S (if bV t=true then [47] else []))):=by
     rw [Tx.DI];show cM _ (if bV t=true then 1 else 0)=_;cases bV t with
     | true=>exact gQ (j:=1) rfl
     | false=>exact gQ (j:=0) rfl
    have lF:(if bV t=true then [47] else ([]:List Nat)).length<=1:=by split <;> simp
    have EN:=Ek.trans (ai.upd (o:=.lst [V.str (Tx.S []),V.str (Tx.S [47])]) FE);have b8:upd H7 p8 (.lst [V.str (Tx.S []),V.str (Tx.S [47])]) p8=some (.lst [V.str (Tx.S []),V.str (Tx.S [47])]):=aw;generalize upd H7 p8 (.lst [V.str (Tx.S []),V.str (Tx.S [47])])=H8 at EN b8 ⊢;simp only [bH,b8,ea];refine ⟨by rw [Tx.cw,Tx.cw]; exact fits (by omega),ah ?_⟩;rw [Tx.hU];left;have i8:=i.same EN;refine ⟨AA,L,M,root,_,e,rfl,i8,rfl,pw,fun fd H9 s9 aS=>ah ?_⟩;have DX:=EN.trans s9;left;by_cases hfound:∃ k ns,e.res=.found k ns
    ·obtain ⟨k,ns,hk⟩:=hfound;rw [hk] at aS;obtain ⟨aP,aS⟩:=aS;refine ⟨_,_,_,.of (.ins aS T.lb T.q1 T.q2 T.q3 T.q4),.cls T.q5,bc (ah ?_)⟩;left;refine ⟨fd,_,_,_,rfl,aS,rfl,?_⟩;left;refine ⟨AA,L,M,root,_,e,rfl,i.same DX,rfl,pw,fun av jb i6 jI=>?_⟩;simp only [bH,jI];exact ⟨DX.trans i6,k,ns,_,_,hk,by rw [At]⟩
    ·have jd:∀ k ns,e.res≠.found k ns:=fun k ns h=>hfound ⟨k,ns,h⟩;obtain ⟨t1,f1,h1,h2⟩:∃ t1 f1,rA K H9 (.ref fd) t1 f1/\ph K H9 t1 f1 (.ref T.dE) false:=by
      cases qA:e.res with
      | found k ns=>exact absurd qA (jd k ns)
      | failed k y =>
       rw [qA] at aS;obtain ⟨_,h⟩:=aS;exact ⟨_,_,.of (.ins h T.kR T.q6 T.q2 T.q3 T.q7),.cls T.q8⟩
      | ring ns =>
       rw [qA] at aS;obtain ⟨_,_,h,_⟩:=aS;exact ⟨_,_,.of (.ins h T.jV T.sx T.q2 T.q3 T.ua),.cls T.C3⟩
     refine ⟨t1,f1,false,h1,h2,bL ⟨e.res,_,aS,fun p2 jb i6 _ jL=>⟨fits (by simp),fun p hp=>?_⟩⟩⟩;have NB:=ai.upd (o:=.tup [V.str (Str.ofString "way"),V.ref p2]) hp;exact q1 _ (o3 jd) p _ ((DX.trans i6).trans NB) ⟨p2,aw,jL.same NB⟩
   ·have xA:bV t=false:=h1;have hq0:q=[]:=Classical.byContradiction fun hq=>by
     rw [Ch (fun z=>Tx.wK 47 q hw hq (Tx.vU z))] at h2;cases h2
    subst hq0;rw [xA] at gw;obtain ⟨k,ns,hk,ha,b⟩:=gw.nil;obtain ⟨st,b2,rr,a,th,aU,_,_,uF,_,rfl⟩:=b.ex;obtain ⟨rfl,rfl⟩:=g.g.Q7 uF;have qG:=aU.resolve_left (by nofun);have:b2=0:=by
     have h3:=qG.2;dsimp only at h3;rw [g.st,Ap z hz] at h3;injection h3 with h3; injection h3 with h3; omega
    subst this;exact ⟨Ek,_,ns,_,_,hk,by rw [ha]; rfl⟩
  ·rintro σ' H8 ⟨s8,k,ns,hd,t7,hk,rfl⟩;obtain ⟨a,th,ha,aF,r1,r2,r3⟩:=o4 k ns hk;have i8:=i.same s8;obtain ⟨kfs,kc,kh,_,yq⟩:=i8.h;have N0:∀ {y:Str} {H'},x=some (.way (.failed (e.asked.length+1) y))->ai H H'->[V.str (Str.ofString "failed"),V.int ((e.asked.length:Nat)+1),V.str y].length<=sizeLine/\∀ p2,H' p2=none->[V.str (Str.ofString "way"),V.ref p2].length<=sizeLine/\∀ p,upd H' p2 (.tup [V.str (Str.ofString "failed"),V.int ((e.asked.length:Nat)+1),V.str y]) p=none->Q (.ref p) (upd (upd H' p2 (.tup [V.str (Str.ofString "failed"),V.int ((e.asked.length:Nat)+1),V.str y])) p (.tup [V.str (Str.ofString "way"),V.ref p2])):=fun {y H'} ex s=>⟨fits (by simp),fun p2 fK=>⟨fits (by simp),fun p hp=>q1 _ ex p _ (s.trans ((ai.upd fK).trans (ai.upd hp))) ⟨p2,aw,(ai.upd hp) _ _ aw⟩⟩⟩;right;refine mI kh yq ⟨AA,L,M,k,a,th,i8,rfl,rfl,ha,aF,?_⟩;by_cases bu:th.kd=("folder" : Str)
   ·refine dq (by rw [Go bu]; rfl) (ah ?_);left;refine mI kh yq (yT i8 (by obtain ⟨_,_,ga⟩:=g.g.as z hz; rw [ga.ro]; rfl) (by decide +kernel) aF ?_);cases hm:dF ("g" : Str) (dm th z) with
    | false=>exact bL (N0 (r2 bu hm) s8)
    | true =>
     refine bc ?_;left;exact q2 (r3 bu hm) H8 s8
   ·exact eB (by rw [Ch bu]; rfl) (N0 (r1 bu) s8)
def mq (H:Hp) (t:Th) (pl:Addr):Prop:=t.bW=[]/\H pl=some (.lst [])\/∃ f z y,t.bW=[(f,z)]/\H pl=some (.lst [.ref y])/\H y=some (.tup [.int (f:Nat),.str z])
def placesOk {CH CS CT:Addr} {A:Ad} {L:List Ta} {M:Hs} {n:Nat} {m:Int} {a:Ta} {t:Th} {H:Hp} {R:VK} {E:XK} (i:aJ CH CS CT H A L M) (hm:m=(n:Int)) (ha:L[n]?=some a) (ht:M.ts[n]?=some t) (hp:t.bW=[]\/∃ f z,t.bW=[(f,z)]) (r:∀ pl H',ai H H'->H pl=none->mq H' t pl->R (.ref pl) H') :
  jE CH CS CT Ad.a Dq [.ref A.a,.int m] H R E:=by
 refine ⟨A,L,M,n,a,t,i,rfl,hm,ha,ht,?_⟩;rcases hp with e | ⟨f,z,e⟩
 ·exact .inl ⟨e,fun l hl=>r l _ (ai.upd hl) hl (.inl ⟨e,aw⟩)⟩
 ·exact .inr ⟨f,z,e,fun y l hy hl=>r l _ (ai.upd hl) hl (.inr ⟨f,z,y,e,aw,(ai.upd hl) _ _ hy⟩)⟩
def Ui (zs:List Str):(zs.map V.str).all cI=true:=by
 rw [GM];intro v hv;obtain ⟨k,_,rfl⟩:=LE.mp hv;rfl
def mq.de {K:PySem.W.Frag} {H:Hp} {t:Th} {p q:Addr} {n:Nat} (h:mq H t p) (h':mq H t q):DE K H (n+2) (.ref p) (.ref q):=by
 rcases h with ⟨e,a1⟩ | ⟨f,z,y,e,a1,a2⟩
 ·rcases h' with ⟨_,b1⟩ | ⟨f',z',y',e',_,_⟩
  ·exact .inr ⟨_,_,_,_,rfl,rfl,.inl ⟨aD.of a1,aD.of b1⟩,rfl,DE.mQ rfl⟩
  ·rw [e] at e'; cases e'
 ·rcases h' with ⟨e',_⟩ | ⟨f',z',y',e',b1,b2⟩
  ·rw [e] at e'; cases e'
  ·rw [e] at e';cases e';refine .inr ⟨_,_,_,_,rfl,rfl,.inl ⟨aD.of a1,aD.of b1⟩,rfl,fun i h1 h2=>?_⟩
   match i,h1 with
   | 0,_=>exact .inr ⟨_,_,_,_,rfl,rfl,.inr ⟨bo.of a2,bo.of b2⟩,rfl,DE.mQ rfl⟩
def fg (H H':Hp):Prop:=∀ b o,((∃ xs,o=.lst xs)\/∃ xs,o=.tup xs)->H b=some o->H' b=some o
def NX.s {H H':Hp} (k:NX H H'):fg H H':=fun b o h e=>k b o (by rcases h with ⟨_,rfl⟩ | ⟨_,rfl⟩ <;> nofun) e
def fg.l {H H':Hp} (k:fg H H') {b:Addr} {xs:List V} (e:H b=some (.lst xs)):H' b=some (.lst xs):=k _ _ (.inl ⟨_,rfl⟩) e
def fg.t {H H':Hp} (k:fg H H') {b:Addr} {xs:List V} (e:H b=some (.tup xs)):H' b=some (.tup xs):=k _ _ (.inr ⟨_,rfl⟩) e
def fg.of {H H':Hp} (s:ai H H'):fg H H':=fun _ _ _ e=>s _ _ e
def mq.fO {H H':Hp} {t:Th} {pl:Addr} (h:mq H t pl) (k:fg H H'):mq H' t pl:=by
 rcases h with ⟨e,e3⟩ | ⟨f,z,y,e,e3,e5⟩
 ·exact .inl ⟨e,k.l e3⟩
 ·exact .inr ⟨f,z,y,e,k.l e3,k.t e5⟩
def mv (H:Hp) (t:Th) (a:Addr):Prop:=∃ pl nm,H a=some (.tup [.ref pl,.ref nm,.str t.tx])/\mq H t pl/\H nm=some (.lst ((e9 (t.aR.map (·.1))).map V.str))
def mv.fO {H H':Hp} {t:Th} {a:Addr} (h:mv H t a) (k:fg H H'):mv H' t a:=let ⟨pl,nm,e1,e2,e3⟩:=h; ⟨pl,nm,k.t e1,e2.fO k,k.l e3⟩
def mv.de {K:PySem.W.Frag} {H:Hp} {t:Th} {a b:Addr} {n:Nat} (h:mv H t a) (h':mv H t b):DE K H (n+3) (.ref a) (.ref b):=by
 obtain ⟨pl,nm,a1,a2,a3⟩:=h;obtain ⟨pl',nm',b1,b2,b3⟩:=h';refine .inr ⟨_,_,_,_,rfl,rfl,.inr ⟨bo.of a1,bo.of b1⟩,rfl,fun i h1 h2=>?_⟩
 match i,h1 with
 | 0,_=>exact a2.de b2
 | 1,_=>exact .inr ⟨_,_,_,_,rfl,rfl,.inl ⟨aD.of a3,aD.of b3⟩,rfl,DE.mQ (Ui _)⟩
 | 2,_=>exact DE.flat rfl _
def nk (H:Hp) (ts:List Th) (l:Addr):Prop:=∃ rs:List Addr,H l=some (.lst (rs.map V.ref))/\rs.length=ts.length/\∀ (k:Nat) (a:Addr) (t:Th),rs[k]?=some a->ts[k]?=some t->mv H t a
def nk.fO {H H':Hp} {ts:List Th} {l:Addr} (h:nk H ts l) (k:fg H H'):nk H' ts l:=let ⟨rs,e,el,r⟩:=h; ⟨rs,k.l e,el,fun j a t h1 h2=>(r j a t h1 h2).fO k⟩
def nk.eq {K:PySem.W.Frag} {H:Hp} {ts:List Th} {l l':Addr} {Q:VK} (h:nk H ts l) (h':nk H ts l') (q:Q (.bl true) H):wy K 4 (.ref l) (.ref l') H Q:=by
 obtain ⟨rs,e,el,r⟩:=h;obtain ⟨rs',e',el',r'⟩:=h';refine ⟨_,_,.inl ⟨aD.of e,aD.of e'⟩,by rw [At,At,el,el'],fun i h1 h2=>?_,q⟩;rw [At] at h1 h2;have ht:ts[i]?=some (ts[i]'(by omega)):=Db (by omega);rw [_G,_G];exact (r i _ _ (Db h1) ht).de (n:=1) (r' i _ _ (Db h2) ht)
section
variable {M:Hs} {n:Nat}
def mP.rows (g:mP M n) (hn:n<=60):∀ (k:Nat) (t:Th),M.ts[k]?=some t->t.aR.length < 64/\(t.bW=[]\/∃ f z,t.bW=[(f,z)]):=fun k t ht=>by
 have h:=g.g.th k t ht;have h1:=h.nl;have h2:=g.n;refine ⟨by omega,?_⟩;rcases h.pl with ⟨_,e⟩ | ⟨f,z,_,_,e,_⟩
 ·exact .inl e
 ·exact .inr ⟨f,z,e⟩
end
def RC (N:Cn):Sp:=ij fun x H Q _=>X4 fun A L M n=>A5 (aJ N.CH N.CS N.CT H A L M) (A.a=x) (mP M n) (n<=60) (∀ l H',ai H H'->nk H' M.ts l->Q (.ref l) H')
def La:T.ky.k P w base 5 (RC T.cn):=by
 refine T.ky.F.ok RQ (fun _ _ _ _ h=>da h fun _ _=>rfl) fun ag A outer s H vs Q E hr h=>da h fun x h=>?_;obtain ⟨AA,L,M,n,i,rfl,g,lI,q⟩:=h;have rj:=g.n;refine bK (b:=aV Ct) ((bi (cr (Dv.Dm rfl (TN:=["_law_number"]) (caps:=["_law_house"]) (ix:=[0]) (Dv.z0 T.zN (al (Dv.sC T.aN T.uv.h (Z7 T) hr.m T.uv.b .nil az (ad 0)) am)) (fun _ _ _ _=>by exact Dv.wU) (fun _ _ _ _=>by exact (sK 0 (show List.Nodup (["_law_number","_law_house"]:List Str) by decide))) (fun _ _ _ _=>by exact (pp (al (ge T.aN T.qY.h (Vj T) hr.m T.qY.b .nil az (ad 1) (al (ad 0) am)) (al (ge T.aN T.uc.h (XH T) hr.m T.uc.b .nil az (ad 1) (al (ad 0) am)) (al (ge T.aN T.ny.h (Lf T) hr.m T.ny.b .nil az (ad 1) (al (ad 0) am)) am))))) (.of rfl (by exact ⟨rfl,trivial⟩) (by walk_at "c") rfl (by exact ⟨⟨rfl,rfl,rfl,rfl⟩,trivial⟩)))))) ?_;refine stI [some (V.ref AA.a)] ?_;left;obtain ⟨kfs,kc,kh,_,yq⟩:=i.h;refine ⟨[.ref AA.a],gA rfl pj,mI kh yq ⟨AA,L,M,i,rfl,⟨by omega,by omega⟩,HP M.ts.length (fun m ys H'=>ai H H'/\∃ rs:List Addr,ys=rs.map V.ref/\rs.length=m/\∀ (k:Nat) (a:Addr) (t:Th),rs[k]?=some a->M.ts[k]?=some t->mv H' t a) (by omega) ⟨fun _ _ e=>e,[],rfl,rfl,fun k a t h=>by cases h⟩ (fun m ys H1 h=>?_) (fun k ys H1 hk h R r=>?_) (fun ys H1 l h hl0=>?_)⟩⟩
 ·obtain ⟨_,rs,rfl,e,_⟩:=h;rw [At,e]
 ·obtain ⟨s1,rs,rfl,el,qI⟩:=h;have ht:M.ts[k]?=some M.ts[k]:=Db hk;generalize M.ts[k]=t at ht;obtain ⟨a,ha⟩:=adr i.len ht;have i1:=i.same s1;obtain ⟨f1,c1,x1,_,y1⟩:=i1.h;left;refine mI x1 y1 (placesOk i1 rfl ha ht (g.rows lI k t ht).2 fun pl H2 s2 bw p2=>?_);have i2:=i1.same s2;obtain ⟨f2,c2,x2,_,y2⟩:=i2.h;refine mI x2 y2 ⟨AA,L,M,k,a,t,i2,rfl,rfl,ha,ht,(g.rows lI k t ht).1,fun nm bX=>?_⟩;have s3:=ai.upd (o:=.lst ((e9 (t.aR.map (·.1))).map V.str)) bX;have b3:upd H2 nm (.lst ((e9 (t.aR.map (·.1))).map V.str)) nm=some (.lst ((e9 (t.aR.map (·.1))).map V.str)):=aw;generalize upd H2 nm (.lst ((e9 (t.aR.map (·.1))).map V.str))=H3 at s3 b3 ⊢;have i3:=i2.same s3;obtain ⟨f3,c3,x3,_,y3⟩:=i3.h;refine mI x3 y3 ⟨AA,L,M,k,a,t,i3,rfl,rfl,ha,ht,fits (by simp),fun p hp=>?_⟩;have s4:=ai.upd (o:=.tup [V.ref pl,V.ref nm,V.str t.tx]) hp;have Oe:=(s2.trans s3).trans s4;refine r _ _ ⟨s1.trans Oe,rs++[p],by simp,by rw [Da,el]; rfl,fun j b t' hj ht'=>?_⟩;rcases Nat.lt_or_ge j rs.length with bN | gE
  ·rw [Re bN] at hj;exact (qI j b t' hj ht').fO (fg.of Oe)
  ·rw [Ps gE] at hj;have Ed:j - rs.length=0:=by
    have:=(Do.mp hj).1;simp at this; omega
   rw [Ed] at hj;cases hj;obtain rfl:j=k:=by omega
   rw [ht] at ht'; cases ht';exact ⟨pl,nm,aw,p2.fO (fg.of (s3.trans s4)),s4 _ _ b3⟩
 ·obtain ⟨s1,rs,rfl,el,qI⟩:=h;have s2:=ai.upd (o:=.lst (rs.map V.ref)) hl0;exact q l _ (s1.trans s2) ⟨rs,aw,el,fun k a t h1 h2=>(qI k a t h1 h2).fO (fg.of s2)⟩
def FJ (N:Cn) (H:Hp) (f rl:Addr):Rf->Prop
 | .cK y=>H f=some (.tup [.str "deed",.str y])
 | .way (.found _ _)=>False
 | .way (.failed k y)=>∃ fd aP,H f=some (.tup [.str "way",.ref fd])/\H fd=some (.ins N.CF aP (vk k y))
 | .way (.ring ns)=>∃ fd aP,H f=some (.tup [.str "way",.ref fd])/\H fd=some (.ins N.CR aP (ay "leads" (.ref rl) []))/\H rl=some (.lst (nV ns))
def KR (H H':Hp) (rl:Addr):Rf->Prop
 | .way (.ring _)=>cJ rl H H'
 | _=>ai H H'
def aaF (N:Cn):Sp:=sU fun f d H Q _=>X2 fun rf rl=>A3 (FJ N H f rl rf) (mV H d rf) (∀ H',KR H H' rl rf->Q (.bl true) H')
def LU:T.kO.k P w base 2 (aaF T.cn):=by
 refine T.kO.F.ok Jr (fun _ _ _ _ h=>mG h fun _ _ _=>rfl) fun ag A outer s H vs Q E hr h=>mG h fun f d h=>?_;obtain ⟨rf,rl,hf,hd,q⟩:=h;refine bK (b:=aV zS) ((ap (em (im ki (ii (bP (K:=K) rfl) (ad 0) bv) ci) (bi (cr (u8 (DR (K:=K) 4 rfl hr.u9) (ad 0) (ad 1)))) gl)
 (ap (dl 2 Jr.nd (ii (bP (K:=K) rfl) (ad 0) bv))
 (ap (em (im (OM (K:=K) 4 rfl hr.u9) (ad 1) (pp (al ci (al (db (Hy T) hr.m T.kU.m T.kU.F.kp T.kU.b .nil az (al (ad 2) am)) am)))) (bi (cr ss)) gl)
 (ap (em (lv (jp (kt (tP (K:=K) rfl) T.gu gC (al (ad 2) (al (mo (.ref T.ee) T.BR rfl) am))))) (ap (em (lv (jp (kt j3 T.gu gC (al (bn T.jV T.xp (ad 2)) (al (wf (.ty "list") T.nH xh rfl) am))))) (bi (cr ss)) gl)
 (bi (dL (Dv.yB PySem.F.slot_list_clear PySem.F.type_list_clear YD (bn T.jV T.xp (ad 2)))))) gl)
 (bi (cr ss))))))) ?_
 refine stI [some (V.ref f),some (V.ref d),none] ?_;right;have e1:∀ fd,cM [V.str (Str.ofString "way"),V.ref fd] 1=some (V.ref fd):=fun fd=>gQ (j:=1) rfl;have ne:∀ {p p2 p3:Addr} {r:Res} {H1:Hp} {R:VK},H1 d=some (.tup [.str "way",.ref p2])->gi H1 p2 r->gi H1 p r->H1 p3=some (.tup [V.str (Str.ofString "way"),V.ref p])->R (.bl false) H1->CO K 4 (.ref d) (.ref p3) H1 R:=fun {p p2 p3 r H1 R} h1 h2 h3 h4 h5=>⟨_,_,bo.of h1,bo.of h4,rfl,fun i j1 j2=>by
  match i,j1 with
  | 0,_=>exact DE.flat (v:=.str "way") rfl _
  | 1,_=>exact gi.de (n:=2) h2 h3,h5⟩
 cases rf with
 | cK y =>
  have hf:H f=some (.tup [.str "deed",.str y]):=hf;simp only [bH,hf,gz];refine eB (by rw [Ch (by decide +kernel)]; rfl) ?_;exact ⟨_,_,.inr ⟨bo.of hf,bo.of hd⟩,rfl,DE.mQ rfl,q H fun _ _ e=>e⟩
 | way r =>
  obtain ⟨p2,Nn,hd2⟩:=hd;cases r with
  | found=>exact hf.elim
  | failed k y =>
   obtain ⟨fd,aP,hf,aS⟩:=hf;simp only [bH,hf,gz];refine dq (by rw [Go (by trivial)]; rfl) (ah ?_);left;simp only [bH,hf,e1];right;refine ⟨.failed k y,H,⟨aP,aS⟩,fun p H1 s1 _ ht=>⟨fits (by simp),fun p3 gW=>?_⟩⟩;have s2:=ai.upd (o:=.tup [V.str (Str.ofString "way"),V.ref p]) gW;have eL:=s1.trans s2;refine ne (eL _ _ Nn) (hd2.same eL) (ht.same s2) aw (bc (ah ?_));left;refine ⟨_,_,_,.of (.ins (eL _ _ aS) T.kR T.q6 T.q2 T.q3 T.q7),.cls T.IV,bc ?_⟩;left;exact q _ eL
  | ring ns =>
   obtain ⟨fd,aP,hf,aS,dP⟩:=hf;simp only [bH,hf,gz];refine dq (by rw [Go (by trivial)]; rfl) (ah ?_);left;simp only [bH,hf,e1];right;refine ⟨.ring ns,fun _=>none,⟨aP,rl,aS,dP,rfl⟩,fun p H1 s1 _ ht=>⟨fits (by simp),fun p3 gW=>?_⟩⟩;have s2:=ai.upd (o:=.tup [V.str (Str.ofString "way"),V.ref p]) gW;have eL:=s1.trans s2;refine ne (eL _ _ Nn) (hd2.same eL) (ht.same s2) aw (bc (ah ?_));generalize upd H1 p3 (.tup [V.str (Str.ofString "way"),V.ref p])=H2 at s2 eL ⊢;left;refine ⟨_,_,_,.of (.ins (eL _ _ aS) T.jV T.sx T.q2 T.q3 T.ua),.cls T.Mt,bL ?_⟩;have Nx:=eL _ _ dP;have Nf:=eL _ _ aS;right;refine ⟨fd,_,_,_,rfl,Nf,rfl,by decide,?_⟩;rw [PD Nx];refine bc ?_;left;refine ⟨fd,_,_,_,rfl,Nf,rfl,?_⟩;simp only [Nx];refine ⟨_,rfl,?_⟩;exact q _ fun b o nb e=>by rw [aj nb]; exact eL _ _ e
def Ru {K:PySem.W.Frag} {l:Addr} {xs:List V} {tt:TT} {te:TE} {H:Hp} {Q:VK} {vs:List V} (J:Nat->Hp->Prop) (hsz:xs.length<=sizeLine) (h0:J 0 H) (hs:∀ i H',J i H'->aD K H' l xs) (ht:∀ i x H',xs[i]?=some x->J i H'->∀ R:Bool->Hp->Prop,(∀ H2,J (i+1) H2->R false H2)->tt (some x::vs.map some) H' R)
  (q:∀ H' l',J xs.length H'->H' l'=none->Q (.ref l') (upd H' l' (.lst []))):rM (lz K l) 1 vs (gd 0) tt te Q H:=by
 refine ⟨fun i zs k H1=>J i H1/\zs=[]/\i<=xs.length/\k=xs.length - i,⟨_,h0,rfl,GT _,rfl⟩,?_⟩;rintro i zs k H1 ⟨j,rfl,hi,rfl⟩;refine ⟨GT _,?_⟩;by_cases h:i < xs.length
 ·have hx:xs[i]?=some xs[i]:=Db h;refine .inr ⟨⟨xs,xs[i],hs i H1 j,hx⟩,by show (0:Nat) < sizeLine; decide,?_⟩;rintro y H' ⟨rfl,hy⟩ σ0 hσ0;obtain ⟨a,rfl⟩:=zx hσ0;have ey:y=xs[i]:=by
   have:=hy xs (hs i _ j);rw [hx] at this;cases this;rfl
  subst ey;refine ⟨⟨[some xs[i]],rfl,rfl⟩,?_⟩;refine ht i _ _ hx j _ fun H2 j2=>?_;rw [Id (by nofun)];exact ⟨xs.length - (i+1),by omega,j2,rfl,h,rfl⟩
 ·obtain rfl:i=xs.length:=by omega
  exact .inl ⟨⟨xs,hs _ _ j,Ev _⟩,fun l' hl'=>q H1 l' j hl'⟩
def isRing:Rf->Prop
 | .way (.ring _)=>True
 | _=>False
def om (P:Addr) (H H':Hp):Prop:=∀ b o,b≠P->H b=some o->H' b=some o
def om.s {P:Addr} {H H1 H2:Hp} (a:om P H H1) (s:ai H1 H2):om P H H2:=fun b o n e=>s _ _ (a b o n e)
def FJ.nx {N:Cn} {H H':Hp} {f rl:Addr} (k:NX H H'):∀ {rf:Rf},FJ N H f rl rf->FJ N H' f rl rf
 | .cK _,e=>k _ _ (by nofun) e
 | .way (.found _ _),e=>e
 | .way (.failed _ _),⟨fd,aP,e1,e2⟩=>⟨fd,aP,k _ _ (by nofun) e1,k _ _ (by nofun) e2⟩
 | .way (.ring _),⟨fd,aP,e1,e2,e3⟩=>⟨fd,aP,k _ _ (by nofun) e1,k _ _ (by nofun) e2,k _ _ (by nofun) e3⟩
def FJ.off {N:Cn} {H H':Hp} {f rl b:Addr} {xs:List V} (hb:H b=some (.lst xs)) (k:cJ b H H'):∀ {rf:Rf},(isRing rf->rl≠b)->FJ N H f rl rf->FJ N H' f rl rf
 | .cK _,_,e=>k _ _ (fun z=>by rw [FJ,z,hb] at e; cases e) e
 | .way (.found _ _),_,e=>e
 | .way (.failed _ _),_,⟨fd,aP,e1,e2⟩=>⟨fd,aP,k _ _ (fun z=>by rw [z,hb] at e1; cases e1) e1,k _ _ (fun z=>by rw [z,hb] at e2; cases e2) e2⟩
 | .way (.ring _),n,⟨fd,aP,e1,e2,e3⟩=>⟨fd,aP,k _ _ (fun z=>by rw [z,hb] at e1; cases e1) e1,k _ _ (fun z=>by rw [z,hb] at e2; cases e2) e2,k _ _ (n trivial) e3⟩
def FJ.pZ {N:Cn} {H:Hp} {f rl:Addr}:∀ {rf:Rf},FJ N H f rl rf->isRing rf->∃ ns,H rl=some (.lst (nV ns))
 | .way (.ring ns),⟨_,_,_,_,e⟩,_=>⟨ns,e⟩
structure J0 (N:Cn) (P:Addr) (q:Str) (H2:Hp) (rf:Rf) (Fs:List (Addr×Addr)) (H:Hp):Prop where
 s:om P H2 H
 t:∃ es,eW H P q es
 fj:∀ p∈Fs,FJ N H p.1 p.2 rf
 nd:isRing rf->(Fs.map (·.2)).Nodup/\∀ p∈Fs,H2 p.2=none
def rfJ {N:Cn} {P:Addr} {H2 H3:Hp} {rf:Rf} {Q:VK} (cG:∀ k ns,rf≠.way (.found k ns)) (k:∀ f rl H',ai H3 H'->FJ N H' f rl rf->(isRing rf->H3 rl=none)->Q (.ref f) H'):dS N H3 (sZ N Q) rf:=by
 cases rf with
 | cK y=>exact fun d H1 s1 e1=>.inr ⟨rfl,d,y,rfl,e1,fun f H2 s2 _ e2=>k f f H2 (s1.trans s2) e2 nofun⟩
 | way r =>
  intro fd d H1 s1 t1 e1;refine .inl ⟨rfl,d,fd,rfl,e1,fun f H2 s2 _ e4=>?_⟩;cases r with
  | found k' ns=>exact absurd rfl (cG k' ns)
  | failed n y =>
   obtain ⟨aP,e⟩:=t1;exact k f f H2 (s1.trans s2) ⟨fd,aP,e4,s2 _ _ e⟩ nofun
  | ring ns =>
   obtain ⟨aP,rl,e,e',h⟩:=t1;exact k f rl H2 (s1.trans s2) ⟨fd,aP,e4,s2 _ _ e,s2 _ _ e'⟩ fun _=>h
def J0.ask {N:Cn} {P:Addr} {q:Str} {H2 H:Hp} {rf:Rf} {Fs:List (Addr×Addr)} {W:eF} {Q:VK} {c:Addr} {H3:Hp} (j:J0 N P q H2 rf Fs H) (hP:∃ es,H2 P=some (gr P es)) (cG:∀ k ns,rf≠.way (.found k ns)) (L3:lD P q c H H3) (dk:∀ Q E,NX H2 H3->dS N H3 E rf->W H3 Q E) (E:XK)
  (k:∀ f rl H4,NX H H4->J0 N P q H2 rf (Fs++[(f,rl)]) H4->Q (.ref f) H4):BQ N (vK c q W) H3 Q E:=by
 obtain ⟨es,t⟩:=j.t;obtain ⟨e2,hP⟩:=hP;have nx:=w6 L3 t;obtain ⟨es3,t3⟩:=L3.tab;have s3:om P H2 H3:=fun b o n e=>L3.BP b o n (j.s b o n e);refine ⟨L3.code,dk _ _ (fun b o no e=>s3 b o (fun z=>by rw [z,hP] at e; cases e; exact no _ rfl) e) (rfJ (P:=P) (H2:=H2) cG fun f rl H4 s4 hf hr=>?_)⟩;have Nk:NX H H4:=fun b o no e=>s4 _ _ (nx b o no e);refine k f rl H4 Nk ⟨s3.s s4,⟨es3,(dh.of s4).tab t3⟩,fun p hp=>?_,fun ir=>?_⟩
 ·rcases TW.mp hp with hp | hp
  ·exact (j.fj p hp).nx Nk
  ·rw [KM.mp hp]; exact hf
 ·obtain ⟨nd,nn⟩:=j.nd ir;have h3:=hr ir;refine ⟨?_,fun p hp=>?_⟩
  ·rw [Tm,Sc];refine ⟨nd,by simp,fun a ha b hb z=>?_⟩;obtain ⟨p,hp,rfl⟩:=LE.mp ha;rw [KM.mp hb] at z;obtain ⟨ns,e⟩:=(j.fj p hp).pZ ir;have:=nx _ _ (by nofun) e;rw [z,h3] at this;cases this
  ·rcases TW.mp hp with hp | hp
   ·exact nn p hp
   ·rw [KM.mp hp];cases e:H2 rl with
    | none=>rfl
    | some o =>
     have cQ:rl≠P:=fun z=>by
      have:=t3.tab;rw [<- z,h3] at this;cases this
     rw [s3 _ _ cQ e] at h3;cases h3
def gO.nf {d:Wd} {t:List Nat} {rf:Rf} (h:gO d t (some rf)):∀ k ns,rf≠.way (.found k ns):=by
 cases h with
 | eO=>nofun
 | way _ _ hn=>exact fun k ns e=>hn k ns (Rf.way.inj e)
 | flat=>nofun
 | fZ=>nofun
def gi.fO {H H':Hp} {p:Addr} (s:fg H H'):∀ {r:Res},gi H p r->gi H' p r
 | .found _ _,e=>s.t e
 | .failed _ _,e=>s.t e
 | .ring _,⟨l,e,f⟩=>⟨l,s.t e,s.l f⟩
def mV.fO {H H':Hp} {p:Addr} (s:fg H H'):∀ {x:Rf},mV H p x->mV H' p x
 | .way _,⟨p2,e,f⟩=>⟨p2,s.t e,f.fO s⟩
 | .cK _,e=>s.t e
def mV.eq {K:PySem.W.Frag} {H:Hp} {p p':Addr} {Q:VK}:∀ {x:Rf},mV H p x->mV H p' x->Q (.bl true) H->wy K 4 (.ref p) (.ref p') H Q
 | .cK _,e,f,q=>⟨_,_,.inr ⟨bo.of e,bo.of f⟩,rfl,DE.mQ rfl,q⟩
 | .way _,⟨p1,e,e2⟩,⟨p2,f,f2⟩,q=>⟨_,_,.inr ⟨bo.of e,bo.of f⟩,rfl,fun i h1 h2=>by
   match i,h1 with
   | 0,_=>exact DE.flat (v:=.str "way") rfl _
   | 1,_=>exact gi.de (n:=2) e2 f2,q⟩
def J0.put {N:Cn} {P:Addr} {q:Str} {H2 H:Hp} {rf:Rf} {Fs:List (Addr×Addr)} {lf:Addr} {v:Addr} {vs ws:List V} (j:J0 N P q H2 rf Fs H) (h2:H2 lf=none) (hl:H lf=some (.lst (.ref v::vs))):J0 N P q H2 rf Fs (upd H lf (.lst ws)):=by
 have kk:cJ lf H (upd H lf (.lst ws)):=cJ.upd;refine ⟨fun b o n e=>kk _ _ (fun z=>by rw [z,h2] at e; cases e) (j.s b o n e),let ⟨es,t⟩:=j.t; ⟨es,w8 t fun b φ e=>kk _ _ (fun z=>by rw [z,hl] at e; cases e) e⟩,fun p hp=>(j.fj p hp).off hl kk fun ir z=>?_,j.nd⟩;obtain ⟨ns,e⟩:=(j.fj p hp).pZ ir;rw [z,hl] at e;cases ns with
 | nil=>cases e
 | cons a r=>cases e
def om.k {P:Addr} {H H':Hp} (s:om P H H') (hP:∃ es,H P=some (gr P es)):NX H H':=fun b o no e=>s b o (fun z=>by
 obtain ⟨es,hP⟩:=hP;rw [z,hP] at e; cases e; exact no _ rfl) e
def J0.same {N:Cn} {P:Addr} {q:Str} {H2 H H':Hp} {rf:Rf} {Fs:List (Addr×Addr)} (j:J0 N P q H2 rf Fs H) (s:ai H H'):J0 N P q H2 rf Fs H':=⟨j.s.s s,let ⟨es,t⟩:=j.t; ⟨es,(dh.of s).tab t⟩,fun p hp=>(j.fj p hp).nx fun _ _ _ e=>s _ _ e,j.nd⟩
def J0.tl {N:Cn} {P:Addr} {q:Str} {H2 H:Hp} {rf:Rf} {f:Addr×Addr} {Fs:List (Addr×Addr)} (j:J0 N P q H2 rf (f::Fs) H):J0 N P q H2 rf Fs H:=⟨j.s,j.t,fun p hp=>j.fj p (LT _ hp),fun ir=>⟨(KK.mp (j.nd ir).1).2,fun p hp=>(j.nd ir).2 p (LT _ hp)⟩⟩
def Jm (Fs:List (Addr×Addr)):List V:=Fs.map fun p=>.ref p.1
def J0.new {N:Cn} {P:Addr} {q:Str} {H2 H:Hp} {rf:Rf} {Fs:List (Addr×Addr)} {lf:Addr} (j:J0 N P q H2 rf Fs H) (h:H lf=none):H2 lf=none:=by
 obtain ⟨es,t⟩:=j.t;cases e:H2 lf with
 | none=>rfl
 | some o =>
  rw [j.s _ _ (fun z=>by have:=t.tab; rw [<- z,h] at this; cases this) e] at h;cases h
def J0.He {N:Cn} {P:Addr} {q:Str} {H2 H H':Hp} {rf:Rf} {f rl:Addr} {Fs:List (Addr×Addr)} {lf v:Addr} {vs:List V} (j:J0 N P q H2 rf ((f,rl)::Fs) H) (hl:H lf=some (.lst (.ref v::vs))) (k:KR H H' rl rf):J0 N P q H2 rf Fs H'/\H' lf=some (.lst (.ref v::vs)):=by
 have sm:ai H H'->J0 N P q H2 rf Fs H'/\H' lf=some (.lst (.ref v::vs)):=fun s=>⟨j.tl.same s,s _ _ hl⟩;cases rf with
 | cK y=>exact sm k
 | way r =>
  cases r with
  | found=>exact sm k
  | failed=>exact sm k
  | ring ns =>
   have k:cJ rl H H':=k;obtain ⟨fd,aP,e1,e2,e3⟩:=j.fj _ T0;have nd:=(j.nd trivial).1;have nn:=(j.nd trivial).2 _ T0;rw [Ix,KK] at nd;refine ⟨⟨fun b o n e=>k _ _ (fun z=>by rw [z,nn] at e; cases e) (j.s b o n e),let ⟨es,t⟩:=j.t; ⟨es,w8 t fun b φ e=>k _ _ (fun z=>by rw [z,e3] at e; cases e) e⟩,fun p hp=>(j.tl.fj p hp).off e3 k fun _ z=>nd.1 (LE.mpr ⟨p,hp,z⟩),j.tl.nd⟩,k _ _ (fun z=>?_) hl⟩;rw [<- z,hl] at e3;cases ns with
   | nil=>cases e3
   | cons a r=>cases e3
def J0.lam {N:Cn} {P:Addr} {q:Str} {H2 H:Hp} {rf:Rf} {Fs:List (Addr×Addr)} {W:List V->eF} {ps:List Nat} {σ:List (Option V)} {Q:VK} {E:XK} (j:J0 N P q H2 rf Fs H) (hP:∃ es,H2 P=some (gr P es)) (cG:∀ k ns,rf≠.way (.found k ns)) (vs:List V) (cg:jj ps σ vs) (dk:∀ H3 Q E,NX H2 H3->dS N H3 E rf->W vs H3 Q E)
  (k:∀ f rl H4,NX H H4->J0 N P q H2 rf (Fs++[(f,rl)]) H4->Q (.ref f) H4):∃ es vs,eW H P q es/\jj ps σ vs/\∀ c H1,lD P q c H H1->BQ N (vK c q (W vs)) H1 Q E :=
 let ⟨es,t⟩:=j.t
 ⟨es,vs,t,cg,fun _ _ L3=>j.ask hP cG L3 (fun Q E nx r=>dk _ Q E nx r) E k⟩
def Yy {Fs:List (Addr×Addr)} {i:Nat} {x:V} (h:(Jm Fs)[i]?=some x):∃ f rl,Fs.drop i=(f,rl)::Fs.drop (i+1)/\x=.ref f:=by
 unfold Jm at h;rw [Op] at h;cases e:Fs[i]? with
 | none=>rw [e] at h; cases h
 | some p =>
  rw [e] at h;cases h;obtain ⟨bN,he⟩:=Do.mp e;exact ⟨p.1,p.2,by rw [List.drop_eq_getElem_cons bN,he],rfl⟩
def xv:List V->List V
 | [a,b,c]=>[a,b,c]
 | _=>[]
def HG:List V->List V
 | [a,b,c]=>[a,b,c,.str "lgw",.str ""]
 | _=>[]
def Hh:List V->List V
 | [a,b,c]=>[a,b,c,.str "",.str "lgw",.str ""]
 | _=>[]
def GF:List V->List V
 | [a,b,c]=>[a,b,c,.str "/a"]
 | _=>[]
def Hf:List V->List V
 | [a,b,c]=>[a,b,.str "/",c]
 | _=>[]
def HD (N:Cn) (Pe:Addr):Sp:=mR fun x z pt H Q _=>X4 fun A n t es=>A8 (pt=Tx.S t) (Hz N.CH N.CS N.CT A n H) (A.a=x) (n<=60) (z∈AS) (mJ t) (eW H Pe dR es) (∀ es' H',Hz N.CH N.CS N.CT A n H'->eW H' Pe dR es'->iJ Pe H H'->Q (.bl true) H')
def Rm {Pe:Addr} (C:PySem.W.CodeHd base T.oE Pe) (jS:base.BuiltinsAt mg Pe):aB P w K mg base (bj P w) 20 T.EW T.xI ["_law_house","_law_asker","_law_path_here"] (HD T.cn Pe):=by
 refine T.sX.BL rG (fun vs H Q E h=>?_) (fun ag A outer s H vs Q E bF hr h=>?_)
 ·exact gx h fun _ _ _ _=>rfl
 ·refine gx h fun x z pt h=>?_;obtain ⟨AA,n,t,es,rfl,⟨L,M,i,g⟩,rfl,lI,hz,hp,tab,q⟩:=h;have LB_l_right0:lE P w K mg base ["_law_house","_law_asker","_law_path_here"] dR (di 3) (xk s.heap.objs.size) (fun vs=>zm T.cn (HG vs)):=by
   intro f ag vs A outer s' H Q E hr hw;unfold HG at hw;split at hw
   ·refine ⟨_,(lm (Kb T) hr.m T.Mw T.tH.kp T.Bq (.cons (show RelV (.str "lgw") _ from ⟨_,rfl⟩) (.cons (show RelV (.str "") _ from ⟨_,rfl⟩) .nil)) kq (al (ad 0) (al (ad 1) (al (ad 2) am)))).h,?_⟩;simp only [Ix,WP];left;exact hw
   ·exact hw.elim
  have LB_l_right1:lE P w K mg base ["_law_house","_law_asker","_law_path_here"] dR (di 4) (wO s.heap.objs.size) (fun vs=>C9 T.cn (xv vs)):=by
   intro f ag vs A outer s' H Q E hr hw;unfold xv at hw;split at hw
   ·refine ⟨_,(lm (Mr T) hr.m T.kj.m T.kj.F.kp T.kj.b .nil kq (al (ad 0) (al (ad 1) (al (ad 2) am)))).h,?_⟩;simp only [Ix,WP];left;exact hw
   ·exact hw.elim
  have LB_l_right2:lE P w K mg base ["_law_house","_law_asker","_law_path_here"] dR (di 5) (vw s.heap.objs.size) (fun vs=>Ax T.cn (Hh vs)):=by
   intro f ag vs A outer s' H Q E hr hw;unfold Hh at hw;split at hw
   ·refine ⟨_,(lm (G5 T) hr.m T.Ga T.rH.kp T.BN (.cons (show RelV (.str "lgw") _ from ⟨_,rfl⟩) (.cons (show RelV (.str "") _ from ⟨_,rfl⟩) .nil)) kq (al (ad 0) (al (ad 1) (al (ad 2) (al ci am))))).h,?_⟩;simp only [Ix,WP];left;exact hw
   ·exact hw.elim
  have LB_l_right3:lE P w K mg base ["_law_house","_law_asker","_law_path_here"] dR (di 6) (vE s.heap.objs.size) (fun vs=>BX T.cn (GF vs)):=by
   intro f ag vs A outer s' H Q E hr hw;unfold GF at hw;split at hw
   ·refine ⟨_,(lm (Jj T) hr.m T.kf.m T.kf.F.kp T.kf.b .nil kq (al (ad 0) (al (ad 1) (al (ad 2) (al ci am))))).h,?_⟩;simp only [Ix,WP];left;exact hw
   ·exact hw.elim
  have LB_l_right4:lE P w K mg base ["_law_house","_law_asker","_law_path_here"] dR (di 7) (wR s.heap.objs.size) (fun vs=>Kc T.cn (Hf vs)):=by
   intro f ag vs A outer s' H Q E hr hw;unfold Hf at hw;split at hw
   ·refine ⟨_,(lm (aax T) hr.m T.pN.m T.pN.F.kp T.pN.b .nil kq (al (ad 0) (al (ad 1) (al ci (al (ad 2) am))))).h,?_⟩;simp only [Ix,WP];left;exact hw
   ·exact hw.elim
  have LB_l_right5:lE P w K mg base ["_law_house","_law_asker","_law_path_here"] dR (di 9) (vx s.heap.objs.size) (fun vs=>C9 T.cn (xv vs)):=by
   intro f ag vs A outer s' H Q E hr hw;unfold xv at hw;split at hw
   ·refine ⟨_,(lm (Mr T) hr.m T.kj.m T.kj.F.kp T.kj.b .nil kq (al (ad 0) (al (ad 1) (al (ad 2) am)))).h,?_⟩;simp only [Ix,WP];left;exact hw
   ·exact hw.elim
  obtain ⟨root,x,hx,e1,pw1⟩:=YC (L:=L) g lI i.len hz hp;have iX:eP t:=⟨hp.l1,by have:=hp.l2; omega,hp.all⟩;have nh:(aM (sD M.ro) (.inr z)).isSome=true:=by obtain ⟨_,_,ga⟩:=g.g.as z hz; rw [ga.ro]; rfl
  have rj:=g.n;refine bK (b:=aV fB) ((ap (dl 3 rG.nd (db (IT T) hr.m T.kM.m T.kM.F.kp T.kM.b .nil az (al (ad 0) (al (ad 1) (al (ad 2) am)))))
  (ap (em (im tE (ad 3) ul) (bi (cr ss)) gl)
  (ap (dl 4 rG.nd (db (La T) hr.m T.ky.m T.ky.F.kp T.ky.b .nil az (al (ad 0) am)))
  (ap (dl 5 rG.nd (li (al (wP (lq T) hr.m T.cz.m T.cz.F.kp T.cz.b dC LB_l_right0 (PR (bF.symm.trans T.pq) C jS) (TX _) PY) am)))
  (ap (dL (sw No NE iI (ad 5) (al (wP (lq T) hr.m T.cz.m T.cz.F.kp T.cz.b dC LB_l_right1 (Vu (bF.symm.trans T.pq) C jS) (OL _) TZ) am)))
  (ap (dL (sw No NE iI (ad 5) (al (wP (lq T) hr.m T.cz.m T.cz.F.kp T.cz.b dC LB_l_right2 (WH (bF.symm.trans T.pq) C jS) (Zw _) Wj) am)))
  (ap (dL (sw No NE iI (ad 5) (al (wP (lq T) hr.m T.cz.m T.cz.F.kp T.cz.b dC LB_l_right3 (Xz (bF.symm.trans T.pq) C jS) (XR _) XN) am)))
  (ap (dL (sw No NE iI (ad 5) (al (wP (lq T) hr.m T.cz.m T.cz.F.kp T.cz.b dC LB_l_right4 (U9 (bF.symm.trans T.pq) C jS) (QU _) Qp) am)))
  (ap (em (im (GZ (K:=K) rfl hr.pe) (Dv.Dm rfl (TN:=["_law_one"]) (caps:=["_law_due_here"]) (ix:=[3]) (Dv.nS (K:=K) rfl (ad 5)) (fun _ _ _ _=>by exact (Dv.zg (lv (jp (db (LU T) hr.m T.kO.m T.kO.F.kp T.kO.b .nil az (al (ad 0) (al (ad 1) am))))))) (fun _ _ _ _=>by exact (sK 0 (show List.Nodup (["_law_one","_law_due_here"]:List Str) by decide))) (fun _ _ _ _=>by exact (ad 0)) (.of rfl (by exact ⟨rfl,trivial⟩) (by walk_at "c") rfl (by exact ⟨⟨rfl,rfl,rfl,rfl⟩,trivial⟩))) (li am)) (bi (cr ss)) gl)
  (ap (dl 6 rG.nd (wP (lq T) hr.m T.cz.m T.cz.F.kp T.cz.b dC LB_l_right5 (SD (bF.symm.trans T.pq) C jS) (T7 _) aa6))
  (bi (cr (Dv.qh (db (LU T) hr.m T.kO.m T.kO.F.kp T.kO.b .nil az (al (ad 6) (al (ad 3) am))) (Dv.qh (u8 (DR (K:=K) 4 rfl hr.u9) (db (IT T) hr.m T.kM.m T.kM.F.kp T.kM.b .nil az (al (ad 0) (al (ad 1) (al (ad 2) am)))) (ad 3)) (AC (u8 (DR (K:=K) 4 rfl hr.u9) (db (La T) hr.m T.ky.m T.ky.F.kp T.ky.b .nil az (al (ad 0) am)) (ad 4)))))))))))))))))) ?_
  rw [show start gK [V.ref AA.a,V.str z,V.str (Tx.S t)]=[some (V.ref AA.a),some (V.str z),some (V.str (Tx.S t)),none,none,none,none] from rfl];right;refine ⟨AA,L,M,n,root,t,x,rfl,i,rfl,g,lI,hz,hp,hx,fun rf ex p H1 s1 hd=>?_,fun _ H1 s1=>?_⟩
  ·subst ex;have hs:=hx.vF rfl hp;have cG:=hx.nf;right;refine ⟨by trivial,dq rfl (ah ?_)⟩;left;refine ⟨AA,L,M,n,i.same s1,rfl,g,lI,fun l H2 s2 all2=>ah ?_⟩;have eL:=s1.trans s2;have i2:=i.same eL;have hd2:=hd.fO (fg.of s2);have OK:=(dh.of eL).tab tab;have hP:∃ es,H2 Pe=some (gr Pe es):=⟨es,OK.tab⟩;have j2:J0 T.cn Pe dR H2 rf [] H2:=⟨fun _ _ _ e=>e,⟨es,OK⟩,nofun,fun _=>⟨.nil,nofun⟩⟩;have free:∀ {kd mi re tx:Str} {H3:Hp} {Q:VK} {E:XK},mi∈jm->re∈jm->NX H2 H3->dS T.cn H3 E rf->tw T.cn H3 AA L M z t kd mi re tx Q E:=fun pP hV nx r=>⟨i2.eR nx,iX,nh,pP,hV,by rw [i.len]; omega,fun f t0 h=>by have:=(g.g.th f t0 h).nl; omega,root,_,.no hs,fun x e=>(by cases e; exact r),fun f nm a0 t0 e=>by cases e⟩;clear tab hd s1 s2;left;have qN:∀ {a b c d:Option V},jj [0,1,2] [some (V.ref AA.a),some (V.str z),some (V.str (Tx.S t)),a,b,c,d] [.ref AA.a,.str z,.str (Tx.S t)]:=fun {_ _ _ _}=>gA rfl (gA rfl (gA rfl pj));refine j2.lam hP cG _ qN (fun H3 Q E nx r=>⟨AA,L,M,t,rfl,free (by decide +kernel) (by decide +kernel) nx r,rfl⟩) fun f1 r1 H4 n4 j4=>⟨fits (by simp),fun lf hlf=>?_⟩;have h0:=j4.new hlf;have j5:=j4.same (ai.upd (o:=.lst [.ref f1]) hlf);have l5:upd H4 lf (.lst [.ref f1]) lf=some (.lst [.ref f1]):=aw;generalize upd H4 lf (.lst [.ref f1])=H5 at j5 l5 ⊢;right;simp only [l5];refine j5.lam hP cG _ qN (fun H3 Q E nx r=>⟨AA,L,M,root,t,rf,rfl,iX,i2.eR nx,rfl,nh,hs,r⟩) fun f2 r2 H6 n6 j6=>?_;have l6:=n6 _ _ (by nofun) l5;simp only [l6];refine ⟨FB (show _ < 9 by simp) (by decide),?_⟩;have j7:=j6.put (ws:=[.ref f1,.ref f2]) h0 l6;have l7:upd H6 lf (.lst [.ref f1,.ref f2]) lf=some (.lst [.ref f1,.ref f2]):=aw;simp only [List.cons_append,List.nil_append] at j7 ⊢;generalize upd H6 lf (.lst [.ref f1,.ref f2])=H7 at j7 l7 ⊢;clear j5 l5 j6 l6 n6;right;simp only [l7];refine j7.lam hP cG _ qN (fun H3 Q E nx r=>⟨AA,L,M,t,rfl,free (by decide +kernel) (by decide +kernel) nx r,rfl,by decide⟩) fun f3 r3 H8 n8 j8=>?_;have l8:=n8 _ _ (by nofun) l7;simp only [l8];refine ⟨FB (show _ < 9 by simp) (by decide),?_⟩;have j9:=j8.put (ws:=[.ref f1,.ref f2,.ref f3]) h0 l8;have l9:upd H8 lf (.lst [.ref f1,.ref f2,.ref f3]) lf=some (.lst [.ref f1,.ref f2,.ref f3]):=aw;simp only [List.cons_append,List.nil_append] at j9 ⊢;generalize upd H8 lf (.lst [.ref f1,.ref f2,.ref f3])=H9 at j9 l9 ⊢;clear j7 l7 j8 l8 n8;right;simp only [l9];refine j9.lam hP cG _ qN (fun H3 Q E nx r=>⟨AA,L,M,t,[47,97],rfl,rfl,free (by decide +kernel) (by decide +kernel) nx r,rfl,⟨by decide,by decide,by decide⟩,by decide⟩) fun f4 r4 jb n10 m6=>?_;have qX:=n10 _ _ (by nofun) l9;simp only [qX];refine ⟨FB (show _ < 9 by simp) (by decide),?_⟩;have lJ:=m6.put (ws:=[.ref f1,.ref f2,.ref f3,.ref f4]) h0 qX;have xE:upd jb lf (.lst [.ref f1,.ref f2,.ref f3,.ref f4]) lf=some (.lst [.ref f1,.ref f2,.ref f3,.ref f4]):=aw;simp only [List.cons_append,List.nil_append] at lJ ⊢;generalize upd jb lf (.lst [.ref f1,.ref f2,.ref f3,.ref f4])=xR at lJ xE ⊢;clear j9 l9 m6 qX n10;right;simp only [xE];refine lJ.lam hP cG _ qN (fun H3 Q E nx r=>⟨AA,L,M,root,t,e1,rf,rfl,rfl,iX,i2.eR nx,rfl,pw1,hs,r⟩) fun f5 r5 lP yg xY=>?_;have EL:=yg _ _ (by nofun) xE;simp only [EL];refine ⟨FB (show _ < 9 by simp) (by decide),?_⟩;have Er:=xY.put (ws:=[.ref f1,.ref f2,.ref f3,.ref f4,.ref f5]) h0 EL;have Eg:upd lP lf (.lst [.ref f1,.ref f2,.ref f3,.ref f4,.ref f5]) lf=some (.lst [.ref f1,.ref f2,.ref f3,.ref f4,.ref f5]):=aw;simp only [List.cons_append,List.nil_append] at Er ⊢;generalize upd lP lf (.lst [.ref f1,.ref f2,.ref f3,.ref f4,.ref f5])=H13 at Er Eg ⊢;clear lJ xE xY EL yg;right;refine ⟨[.ref p],gA rfl pj,⟨_,aD.of Eg⟩,Ru (fun i H'=>J0 T.cn Pe dR H2 rf ([(f1,r1),(f2,r2),(f3,r3),(f4,r4),(f5,r5)].drop i) H'/\H' lf=some (.lst [.ref f1,.ref f2,.ref f3,.ref f4,.ref f5])) (fits (by simp)) ⟨Er,Eg⟩ (fun i H' h=>aD.of h.2) (fun i x H' hx h R r=>?_) (fun H' l' h hl'=>?_)⟩
   ·obtain ⟨f,rl,ed,rfl⟩:=Yy (Fs:=[(f1,r1),(f2,r2),(f3,r3),(f4,r4),(f5,r5)]) hx;obtain ⟨j,lh⟩:=h;rw [ed] at j;left;exact ⟨rf,rl,j.fj _ T0,hd2.fO (j.s.k hP).s,fun H3 k3=>r _ (j.He lh k3)⟩
   ·obtain ⟨j,lh⟩:=h;refine ⟨by simp,fun l2 cy=>?_⟩;have s1:=ai.upd (o:=.lst []) hl';have s2:=ai.upd (o:=.lst []) cy;refine ⟨[],[],aD.of (s2 _ _ aw),aD.of aw,.inl ⟨rfl,bc (ah ?_)⟩⟩;have N4:=j.same (s1.trans s2);have M8:=(s1.trans s2) _ _ lh;generalize upd (upd H' l' (.lst [])) l2 (.lst [])=H14 at N4 M8 ⊢;left;refine N4.lam hP cG _ qN (fun H3 Q E nx r=>⟨AA,L,M,root,t,rf,rfl,iX,i2.eR nx,rfl,nh,hs,r⟩) fun f6 r6 H15 n15 uS=>?_;have l15:=n15 _ _ (by nofun) M8;have uS:J0 T.cn Pe dR H2 rf [(f6,r6)] H15:=uS;refine ⟨rf,r6,uS.fj _ T0,hd2.fO (uS.s.k hP).s,fun H16 k16=>?_⟩;obtain ⟨Ol,_⟩:=uS.He l15 k16;have n16:=Ol.s.k hP;refine ⟨AA,L,M,n,root,t,some rf,rfl,i2.eR n16,rfl,g,lI,hz,hp,hx,fun rf' ex p' H17 s17 hd17=>?_,fun ex=>by cases ex⟩;cases ex;have N3:=Ol.same s17;have Og:=N3.s.k hP;refine (hd17.eq (hd2.fO Og.s) ?_);refine ⟨AA,L,M,n,i2.eR Og,rfl,g,lI,fun l' H18 s18 all18=>?_⟩;have FD:=N3.same s18;have Np:=FD.s.k hP;refine all18.eq (all2.fO Np.s) ?_;obtain ⟨es',t18⟩:=FD.t;exact q es' _ ⟨L,M,i2.eR Np,g⟩ t18 (fun b o nb _ e=>FD.s _ _ nb (eL _ _ e))
  ·right;exact ⟨by trivial,bL (q es H1 ⟨L,M,i.same s1,g⟩ ((dh.of s1).tab tab) (dh.of s1).l)⟩
def aaO (K:PySem.W.Frag):Sp:=iQ fun a k H Q _=>A3 (∃ ns:List Int,aD K H a (ns.map V.int)) (0<=k) (∀ c:Int,Q (.int c) H)
def aat:T.qj.k P w base 1 (aaO K):=by
 refine T.qj.F.ok SA (fun _ _ _ _ h=>bY h fun _ _ _=>rfl) fun ag A outer s H vs Q E hr h=>bY h fun a k h=>?_;obtain ⟨⟨ns,hS⟩,hk,q⟩:=h;obtain ⟨k,rfl⟩:=_F hk;refine ⟨_,((ap (em (im sY (ad 1) (kt (Z9 (K:=K) rfl) T.kN _e (al (ad 0) am))) (bi (cr (ii (qxE (K:=K) rfl) (ad 0) (ad 1)))) gl) (bi (cr bv)))).h,?_⟩;refine stI [some (.ref a),some (.int (k:Nat))] ?_;right;refine ⟨_,hS,?_⟩;refine mm (fun hd=>?_) (fun _=>q _);have hl:k < ns.length:=by have:=of_decide_eq_true hd; rw [At] at this; omega
 refine ⟨_,.int ns[k],hS,?_,q _⟩;refine gQ (j:=k) ?_;rw [Op,Db hl]; rfl
def Df (K:PySem.W.Frag) (tabs:oz):Sp:=ij fun a H Q _=>A3 (∃ ns:List Int,aD K H a (ns.map V.int)) (nt tabs H) (∀ H',vd tabs H'->Q (.bl true) H')
def nQ (K:PySem.W.Frag) (H:Hp) (a:Addr) (ns:List Int):Prop:=(∀ J,aD K J a (ns.map V.int))\/∃ o,H a=some (.eC o (.lst (ns.map V.int)))
def nQ.sq {H:Hp} {a:Addr} {ns:List Int} (h:nQ K H a ns):aD K H a (ns.map V.int):=by
 rcases h with h | h
 ·exact h H
 ·exact .inl (.inr h)
def nQ.kp {H H':Hp} {a:Addr} {ns:List Int} (h:nQ K H a ns) (k:∀ o,H a=some (.eC o (.lst (ns.map V.int)))->H' a=some (.eC o (.lst (ns.map V.int)))):nQ K H' a ns:=by
 rcases h with h | ⟨o,h⟩
 ·exact .inl h
 ·exact .inr ⟨o,k _ h⟩
def Mz (ns:List Int) (lo:Option Int) (k:Nat):∃ ms:List Int,fi (ns.map V.int) lo (some (k:Int))=ms.map V.int/\ms.length<=k:=by
 refine ⟨((ns.drop (HT.cT (ns.map V.int).length 0 lo)).take (HT.cT (ns.map V.int).length (ns.map V.int).length (some (k:Int)) - HT.cT (ns.map V.int).length 0 lo)),?_,?_⟩
 ·unfold fi;rw [<- List.map_drop,<- List.map_take]
 ·rw [_0,HT.z7];omega
def TS (tl:List (Addr×Str)) (H:Hp):Prop:=∀ p∈tl,∃ es,eW H p.1 p.2 es
def TS.kp {tl:List (Addr×Str)} {H H':Hp} (h:TS tl H) (k:∀ c φ,H c=some (.ext φ)->H' c=some (.ext φ)):TS tl H':=fun p hp=>let ⟨es,t⟩:=h p hp; ⟨es,w8 t k⟩
def TS.ka {tl:List (Addr×Str)} {H H':Hp} (h:TS tl H) (k:dh H H'):TS tl H':=h.kp fun _ _ e=>k _ _ trivial e
def TS.step {tl:List (Addr×Str)} {H H':Hp} {P:Addr} {q:Str} (h:TS tl H) (nd:(tl.map (·.1)).Nodup) (hm:(P,q)∈tl) (k:∀ c φ,c≠P->H c=some (.ext φ)->H' c=some (.ext φ)) (t':∃ es,eW H' P q es):TS tl H':=fun p hp=>by
 by_cases e:p.1=P
 ·obtain rfl:p=(P,q):=by
   obtain ⟨a,ha,h1⟩:=_z hp;obtain ⟨b,hb,h2⟩:=_z hm;have:a=b:=by
    rcases Nat.lt_trichotomy a b with h | h | h
    ·exact ((List.pairwise_iff_getElem.mp nd) a b (by simpa using ha) (by simpa using hb) h (by rw [_G,_G,h1,h2]; exact e)).elim
    ·exact h
    ·exact ((List.pairwise_iff_getElem.mp nd) b a (by simpa using hb) (by simpa using ha) h (by rw [_G,_G,h1,h2]; exact e.symm)).elim
   subst this;exact h1.symm.trans h2
  exact t'
 ·obtain ⟨es,t⟩:=h p hp;obtain ⟨es0,t0⟩:=h _ hm;exact ⟨es,k _ _ e t.tab,fun x hx=>k _ _ (fun z=>by
   have c:=t.code x hx;rw [z,t0.tab] at c;exact Z3 (PP c)) (t.code x hx)⟩
def iJ.x {P:Addr} {H H':Hp} (k:iJ P H H'):∀ c φ,c≠P->H c=some (.ext φ)->H' c=some (.ext φ):=fun c φ n e=>k c _ n trivial e
def TS.ne {tl:List (Addr×Str)} {H:Hp} (h:TS tl H) {p:Addr×Str} (hp:p∈tl) {b:Addr} {o:HO} (no:∀ φ,o≠.ext φ) (e:H b=some o):b≠p.1:=fun z=>by
 obtain ⟨es,t⟩:=h p hp;rw [z,t.tab] at e; cases e; exact no _ rfl
def M3:Hs:={ ts:=[{ kd := "folder",ow := "own",mi := "lgw",re := "lg",tx := "",aR:=[],bW:=[] }],ro:=wD,st:=wD,tr:=[("main",0)],ov:=[],un:=[] }
def ZR:mP M3 1:=by
 refine ⟨⟨rfl,rfl,rfl,fun z hz=>⟨0,0,Ap z hz,Ap z hz,.refl,⟨_,rfl,rfl⟩,_,rfl,rfl⟩,by decide,by decide,⟨_,rfl,rfl⟩,fun k t ht=>?_⟩,Ev 1,rfl⟩;cases k with
 | zero =>
  cases ht;exact ⟨GT _,.inl rfl,fun e=>absurd (show ("folder" : Str) = "lead" from e) (by decide +kernel),.inl ⟨rfl,rfl⟩,fun z v h=>by cases h⟩
 | succ k=>simp [M3] at ht
def Hz.same {CH CS CT:Addr} {A:Ad} {n:Nat} {H H':Hp} (h:Hz CH CS CT A n H) (s:ai H H'):Hz CH CS CT A n H':=let ⟨L,M,i,g⟩:=h; ⟨L,M,i.same s,g⟩
structure fF (N:Cn) (K:PySem.W.Frag) (tl:List (Addr×Str)) (A:Ad) (a:Addr) (ns:List Int) (n:Nat) (H:Hp):Prop where
 h:Hz N.CH N.CS N.CT A n H
 ts:TS tl H
 sc:nQ K H a ns
section
variable {N:Cn} {tl:List (Addr×Str)} {A:Ad} {a st:Addr} {ns:List Int} {n:Nat} {H H':Hp}
def fF.same (j:fF N K tl A a ns n H) (s:ai H H'):fF N K tl A a ns n H':=⟨j.h.same s,j.ts.ka (dh.of s),j.sc.kp fun o e=>s _ _ e⟩
def fF.drawn (j:fF N K tl A a ns n H) (d:Dr st H) (k:cJ st H H'):fF N K tl A a ns n H' :=
 ⟨let ⟨L,M,i,g⟩:=j.h; ⟨L,M,i.drawn g.g.ne d k,g⟩,j.ts.kp fun b φ e=>k _ _ (fun z=>by obtain ⟨_,_,_,d⟩:=d; rw [z,d] at e; cases e) e,j.sc.kp fun o e=>k _ _ (fun z=>by obtain ⟨_,_,_,d⟩:=d; rw [z,d] at e; cases e) e⟩
def fF.right {P:Addr} {z:Str} {t:List Nat} {Q:VK} {E:XK} (j:fF N K tl A a ns n H) (nd:(tl.map (·.1)).Nodup) (hm:(P,dR)∈tl) (hn:n<=60) (hz:z∈AS) (hp:mJ t) (q:∀ H',fF N K tl A a ns n H'->iJ P H H'->Q (.bl true) H'):HD N P [.ref A.a,.str z,.str (Tx.S t)] H Q E :=
 let ⟨es,te⟩:=j.ts _ hm
 ⟨A,n,t,es,rfl,j.h,rfl,hn,hz,hp,te,fun es' H' h' t' k'=>q H' ⟨h',j.ts.step nd hm k'.x ⟨es',t'⟩,j.sc.kp fun o e=>k' _ _ (j.ts.ne hm (by nofun) e) trivial e⟩ k'⟩
end
def Rw {i:Nat} {u v:V}:∃ x∈[u,v],cM [u,v] ((0+(i:Int)) % 2)=some x:=by
 obtain ⟨k,hk⟩:∃ k:Nat,(0+(i:Int)) % 2=(k:Int):=⟨i % 2,by omega⟩;have xD:k < [u,v].length:=by show k < 2; omega
 exact ⟨_,_1 xD,by rw [hk,gQ (Db xD)]⟩
def Zo {Pe Pr:Addr} (C1:PySem.W.CodeHd base T.oQ Pe) (b1:base.BuiltinsAt mg Pe) (C2:PySem.W.CodeHd base T.oE Pr) (b2:base.BuiltinsAt mg Pr) (qT:[Pe,Pr].Nodup) :
  aB P w K mg base (bj P w) 21 T.Fg T.xZ ["_law_script"] (Df K [(T.oQ,Pe),(T.oE,Pr)]):=by
 have G_l_built:=Sm (P:=P) (w:=w) (base:=base) T C1 b1;have Oa:=Rm (P:=P) (w:=w) (base:=base) T C2 b2;refine T.wj.BL iO (fun vs H Q E h=>?_) (fun ag A outer s H vs Q E bF hr h=>?_)
 ·exact da h fun _ _=>rfl
 ·refine da h fun a h=>?_;obtain ⟨⟨ns,hS⟩,hO,q⟩:=h;refine bK (b:=aV tS) ((ap (dl 1 iO.nd (xL T.Zd (Ur T) hr.m T.Uh T.ux.b .nil az (al ci am)))
  (ap (dL (ge T.aN T.tW.h (aab T) hr.m T.tW.b .nil az (ad 1) (al ci am)))
  (ap (Dv.xb BB rfl (Dv.nS (K:=K) rfl (zn (nR (K:=K) rfl) (ad 0) (wE bv) (wE bv))) (sK 2 iO.nd) (bi (dL (lm G_l_built hr.m T.VT T.xg.kp T.zH .nil cS (al (ad 1) (al (ad 2) am))))))
  (ap (Dv.xb BB rfl (Dv.nS (K:=K) rfl (zn (nR (K:=K) rfl) (ad 0) (wE bv) (wE bv))) (sK 2 iO.nd) (ap (dl 3 iO.nd (db (CV T) hr.m T.ik.m T.ik.F.kp T.ik.b .nil az (al (ad 2) am)))
  (ap (dl 4 iO.nd (ii (bP (K:=K) rfl) (li (al ci (al ci am))) (db (kz T) hr.m T.cB.m T.cB.F.kp T.cB.b .nil az (al (ad 3) (al bv am)))))
  (ap (dl 5 iO.nd (db (vh T) hr.m T.fW.m T.fW.F.kp T.fW.b .nil az (al (ad 3) (al bv am))))
  (bi (em (lv (jp (lm Oa hr.m T.Mu T.sX.kp T.uZ .nil cS (al (ad 1) (al (ad 4) (al (ad 5) am)))))) (bi (cr ss)) gl))))))
  (ap (dl 3 iO.nd (db (CV T) hr.m T.ik.m T.ik.F.kp T.ik.b .nil az (al (db (aat T) hr.m T.qj.m T.qj.F.kp T.qj.b .nil az (al (ad 0) (al bv am))) am)))
  (ap (Dv.xb BB rfl (Dv.z0 T.zN (al bv am)) (sK 6 iO.nd) (ap (dl 4 iO.nd (ii (bP (K:=K) rfl) (li (al ci (al ci am))) (io mr (ad 6) bv)))
  (ap (dl 5 iO.nd (db (vh T) hr.m T.fW.m T.fW.F.kp T.fW.b .nil az (al (ad 3) (al bv am))))
  (bi (em (lv (jp (lm Oa hr.m T.Mu T.sX.kp T.uZ .nil cS (al (ad 1) (al (ad 4) (al (ad 5) am)))))) (bi (cr ss)) gl)))))
  (bi (cr ss))))))))) ?_
  refine stI [some (.ref a),none,none,none,none,none,none] ?_;obtain ⟨tl,qK⟩:∃ tl:List (Addr×Str),tl=[(Pe,iu),(Pr,dR)]:=⟨_,rfl⟩;have nd:(tl.map (·.1)).Nodup:=by rw [qK]; exact qT
  have m1:(Pe,iu)∈tl:=by rw [qK]; simp
  have m2:(Pr,dR)∈tl:=by rw [qK]; simp
  have NW:TS tl H:=fun p hp=>by
   rw [qK] at hp;simp only [AT,EQ,KB] at hp;rcases hp with rfl | rfl
   ·exact ⟨[],hO.ok (c:=T.oQ) _ (by simp)⟩
   ·exact ⟨[],hO.ok (c:=T.oE) _ (by simp)⟩
  have fin:∀ {H':Hp},TS tl H'->Q (.bl true) H':=fun {H'} h=>q H' fun qq hq=>by
   rw [qK] at h;simp only [AT,EQ,KB] at hq;rcases hq with rfl | rfl
   ·exact let ⟨es,t⟩:=h (Pe,iu) (by simp); ⟨es,t.tab⟩
   ·exact let ⟨es,t⟩:=h (Pr,dR) (by simp); ⟨es,t.tab⟩
  clear qK qT;have NT:nQ K H a ns:=by
   rcases hS with hS | hS
   ·rcases hS with hS | hS
    ·rcases hO.all a with z | ⟨o,xs,z⟩ | ⟨qq,hq,z⟩
     ·rw [z] at hS; cases hS
     ·rw [z] at hS; cases hS
     ·have z2:=hO.tab qq hq;rw [<- z,hS] at z2; cases z2
    ·exact .inr hS
   ·exact .inl fun J=>.inr hS
  right;intro x dx hx lS cQ;refine ⟨⟨dx,aw⟩,by decide +kernel,by decide +kernel,fun A1 L1 H2 hA1 i2 oG iD=>⟨rfl,?_⟩⟩;subst hA1;have k2:dh H H2:=fun b o ho e=>iD _ _ (by rw [KM]; exact aH e hx) (by rw [aj (aH e hx),aj (aH e lS)]; exact e);obtain ⟨lR,gc,gh,oT,en⟩:=i2.h;right;refine mI gh en ⟨A1,L1,_,i2,rfl,by decide +kernel,by decide +kernel,by decide,by decide,by decide +kernel,by decide +kernel,fun H3 i3 k3=>?_⟩;have k4':=k2.trans (i2.off (by nofun) (W:=[A1.a,A1.ro,A1.st]) (fun b hb=>by
   simp only [AT,EQ,KB] at hb;rcases hb with rfl | rfl | rfl <;> simp [Ad.w]) k3)
  have h4:Hz T.cn.CH T.cn.CS T.cn.CT A1 1 H3:=⟨L1,M3,i3,ZR⟩;have MS:=NW.ka k4';have MV:=NT.kp fun o e=>k4' _ _ trivial e;clear i2 i3 k2 k3 k4' NW NT gh en iD oG;have j4:fF T.cn K tl A1 a ns 1 H3:=⟨h4,MS,MV⟩;clear h4 MS MV;have as:∀ {v},v∈[V.str (Str.ofString "own"),V.str (Str.ofString "guest")]->∃ z,z∈AS/\v=V.str z:=fun hv=>by
   simp only [AT,EQ,KB] at hv;rcases hv with rfl | rfl <;> exact ⟨_,by decide +kernel,rfl⟩
  refine jY (fun σ' H'=>(∃ n,n<=22/\fF T.cn K tl A1 a ns n H')/\∃ t1,σ'=[some (.ref a),some (.ref A1.a),t1,none,none,none,none]) ?_ ?_
  ·left;refine ⟨_,j4.sc.sq,fun ll qw=>⟨⟨_,aD.of aw⟩,?_⟩⟩;obtain ⟨zs,ez,hzl⟩:=Mz ns (some 1) 21;rw [show ((21:Nat):Int)=21 from rfl] at ez;rw [ez];refine fX (o:=.lst (zs.map V.int)) qw fun H5 s5 b5=>?_;refine Ck (xs:=zs.map V.int) (fun i σ' H'=>(fF T.cn K tl A1 a ns (1+i) H'/\H' ll=some (.lst (zs.map V.int)))/\∃ t1,σ'=[some (.ref a),some (.ref A1.a),t1,none,none,none,none]) ⟨⟨j4.same s5,b5⟩,_,rfl⟩ (fun i σ' H' _ h=>aD.of h.1.2) ?_ ?_
   ·rintro i x σ' H6 hx ⟨⟨j,jl⟩,t1,rfl⟩;obtain ⟨m,hm,rfl⟩:=LE.mp (UV hx);have hi:=(Do.mp hx).1;rw [At] at hi;obtain ⟨es,te⟩:=j.ts _ m1;left;refine ⟨A1,1+i,es,j.h,rfl,by omega,te,fun v es' H7 h7 t7 k7=>?_⟩;exact ⟨⟨⟨by rw [<- Nat.add_assoc]; exact h7,j.ts.step nd m1 k7.x ⟨es',t7⟩,j.sc.kp fun o e=>k7 _ _ (j.ts.ne m1 (by nofun) e) trivial e⟩,k7 _ _ (j.ts.ne m1 (by nofun) jl) (vi zs) jl⟩,_,rfl⟩
   ·rintro σ' H6 ⟨⟨j,jl⟩,t1,rfl⟩;rw [At] at j;exact ⟨⟨_,by omega,j⟩,_,rfl⟩
  ·clear j4;rintro σ' H5 ⟨⟨n,hn,j5⟩,t1,rfl⟩;refine jY (fun σ' H'=>fF T.cn K tl A1 a ns n H'/\∃ t1 t2 t3 t4 t5,σ'=[some (.ref a),some (.ref A1.a),t1,t2,t3,t4,t5]) ?_ ?_
   ·left;refine ⟨_,j5.sc.sq,fun ll qw=>⟨⟨_,aD.of aw⟩,?_⟩⟩;obtain ⟨zs,ez,hzl⟩:=Mz ns (some 21) 41;rw [show ((41:Nat):Int)=41 from rfl] at ez;rw [ez];refine fX (o:=.lst (zs.map V.int)) qw fun H7 s7 b7=>?_;refine Ck (xs:=zs.map V.int) (fun i σ' H'=>(fF T.cn K tl A1 a ns n H'/\H' ll=some (.lst (zs.map V.int)))/\∃ t1 t2 t3 t4 t5,σ'=[some (.ref a),some (.ref A1.a),t1,t2,t3,t4,t5]) ⟨⟨j5.same s7,b7⟩,_,_,_,_,_,rfl⟩ (fun i σ' H' _ h=>aD.of h.1.2) ?_ ?_
    ·clear j5 s7 b7;rintro i x σ' H7 hx ⟨⟨j,jl⟩,t1,t2,t3,t4,t5,rfl⟩;obtain ⟨m,hm,rfl⟩:=LE.mp (UV hx);left;right;intro st a0 b0 c0 aU;have nl:ll≠st:=fun z=>by rw [z,aU] at jl; cases jl
     have s8:=ai.upd (o:=.lst [.int a0,.int b0,.int c0]) aU;have j8:=j.same s8;have l8:=s8 _ _ jl;have d8:Dr st (upd H7 st (.lst [.int a0,.int b0,.int c0])):=⟨a0,b0,c0,aw⟩;generalize upd H7 st (.lst [.int a0,.int b0,.int c0])=H8 at j8 d8 l8 ⊢;right;refine mf d8 rfl (by simp) (by simp) fun v H9 hv d9 k9=>?_;obtain ⟨z,hz,rfl⟩:=as hv;have j9:=j8.drawn d8 k9;right;refine ⟨d9,by decide,by decide,fun t jb hp yo k10=>?_⟩;have m6:=j9.drawn d9 k10;have qX:=k10 _ _ nl (k9 _ _ nl l8);left;refine m6.right nd m2 (by omega) hz hp fun xR lJ uO=>bc ⟨⟨lJ,uO _ _ (m6.ts.ne m2 (by nofun) qX) (vi zs) qX⟩,_,_,_,_,_,rfl⟩
    ·rintro σ' H8 ⟨⟨j,_⟩,hh⟩;exact ⟨j,hh⟩
   ·clear j5;rintro σ' H7 ⟨j7,t1,t2,t3,t4,t5,rfl⟩;right;refine ⟨⟨ns,j7.sc.sq⟩,by decide,fun c=>?_⟩;intro st a0 b0 c0 aU;have j8:=j7.same (ai.upd (o:=.lst [.int a0,.int b0,.int c0]) aU);have d8:Dr st (upd H7 st (.lst [.int a0,.int b0,.int c0])):=⟨a0,b0,c0,aw⟩;generalize upd H7 st (.lst [.int a0,.int b0,.int c0])=H8 at j8 d8 ⊢;refine jY (fun σ' H'=>fF T.cn K tl A1 a ns n H') ?_ ?_
    ·left;refine ⟨by decide,Tg (lo:=0) (n:=6) (fun i σ' H'=>(fF T.cn K tl A1 a ns n H'/\Dr st H')/\∃ t3 t4 t5,σ'=[some (.ref a),some (.ref A1.a),t1,some (.ref st),t3,t4,t5]) ⟨⟨j8,d8⟩,_,_,_,rfl⟩ ?_ (fun σ' H' h=>h.1.1)⟩;clear j7 j8 d8;rintro i σ' H9 hi ⟨⟨j,d⟩,t3,t4,t5,rfl⟩;left;right;refine ⟨fits (by simp),fun l hl=>?_⟩;have i6:=ai.upd (o:=.lst [V.str (Str.ofString "own"),V.str (Str.ofString "guest")]) hl;have m6:=j.same i6;have yo:=d.same i6;obtain ⟨v,hv,e⟩:=Rw (i:=i);simp only [bH,aw];refine ⟨by decide,?_⟩;rw [e];refine ah ?_;obtain ⟨z,hz,rfl⟩:=as hv;generalize upd H9 l (HO.lst [V.str (Str.ofString "own"),V.str (Str.ofString "guest")])=jb at m6 yo ⊢;left;refine ⟨yo,by decide,by decide,fun t xR hp d11 uO=>?_⟩;have lJ:=m6.drawn yo uO;left;refine lJ.right nd m2 (by omega) hz hp fun lP xY k12=>bc ⟨⟨xY,?_⟩,_,_,_,rfl⟩;obtain ⟨x,y,w',e⟩:=d11;exact ⟨x,y,w',k12 _ _ (lJ.ts.ne m2 (by nofun) e) (vi [x,y,w']) e⟩
    ·rintro σ' H9 j9;left;exact fin j9.ts
end
def So {K:PySem.W.Frag} {a:Addr} {od:Option Addr} {tk:Nat} {sl:Array (Option Value)} {t0 t1:Tok} (l:K.lookup a=some ⟨.type "tuple",od,.seq ([.str "." t0,.str ".." t1]:List Value).toArray tk,sl⟩) (H:Hp):bo K H a [.str ".",.str ".."]:=.inr ⟨_,_,_,l,rfl,rfl,fits (by simp),(.cons ⟨_,rfl⟩ (.cons ⟨_,rfl⟩ .nil))⟩
def Xn {K:PySem.W.Frag} {a:Addr} {od:Option Addr} {tk:Nat} {sl:Array (Option Value)} {t0 t1 t2 t3 t4 t5 t6 t7:Tok} (l:K.lookup a=some ⟨.type "tuple",od,.seq ([.str "" t0,.str "l" t1,.str "g" t2,.str "w" t3,.str "lg" t4,.str "lw" t5,.str "gw" t6,.str "lgw" t7]:List Value).toArray tk,sl⟩) (H:Hp):bo K H a [.str "",.str "l",.str "g",.str "w",.str "lg",.str "lw",.str "gw",.str "lgw"]:=.inr ⟨_,_,_,l,rfl,rfl,fits (by simp),(.cons ⟨_,rfl⟩ (.cons ⟨_,rfl⟩ (.cons ⟨_,rfl⟩ (.cons ⟨_,rfl⟩ (.cons ⟨_,rfl⟩ (.cons ⟨_,rfl⟩ (.cons ⟨_,rfl⟩ (.cons ⟨_,rfl⟩ .nil))))))))⟩
def Ud {K:PySem.W.Frag} {a:Addr} {od:Option Addr} {tk:Nat} {sl:Array (Option Value)} {t0 t1 t2:Tok} (l:K.lookup a=some ⟨.type "tuple",od,.seq ([.str "l" t0,.str "g" t1,.str "w" t2]:List Value).toArray tk,sl⟩) (H:Hp):bo K H a [.str "l",.str "g",.str "w"]:=.inr ⟨_,_,_,l,rfl,rfl,fits (by simp),(.cons ⟨_,rfl⟩ (.cons ⟨_,rfl⟩ (.cons ⟨_,rfl⟩ .nil)))⟩
def PL {K:PySem.W.Frag} {H:Hp} {a:Addr} {ns:List Int} {tabs:oz} (hO:nt tabs H) (hS:aD K H a (ns.map V.int)):Df K tabs [.ref a] H (fun v H'=>v=.bl true/\vd tabs H') fun _ _ _=>False:=⟨⟨ns,hS⟩,hO,fun H' t=>⟨rfl,t⟩⟩
def VF {P:Program} {w:World} {outer:List Env} {H:Hp} {s s':Shared} {e:Value} (z:bj P w outer H s (fun _ _ _=>False) e s'):False:=by
 obtain ⟨_,_,_,_,_,_,z⟩:=z;exact z
def Vq {l:PySem.W.OpenLaw} {q:Program} {loose:List Str} {XP:(Str->Option Value)->Heap->Prop} {YP:World->Heap->Prop} {d:DefRec} {K:Params->PySem.W.Frag} {ce Pe cl Pl:Addr} (hn:l.most=some 63) (uE:d.params.defaults=[]) (lM:d.name = "law")
  (hY:∀ (w:World) (h:Heap),YP w h->(K w.params).In h) (oO:∀ w:World,PySem.W.noTabs (K w.params)=true)
  (qD:∀ w:World,∃ e,(recsOf q).find? (fun e=>e.name == ("_law_built" : Str))=some e/\PySem.W.tabIn (K w.params) "_law_built" = some (ce,Pe))
  (gT:∀ w:World,∃ e,(recsOf q).find? (fun e=>e.name == ("_law_right" : Str))=some e/\PySem.W.tabIn (K w.params) "_law_right" = some (cl,Pl))
  (qT:Pl≠Pe)
  (F:∀ (w:World) (mg:Str->Option Value) (h:Heap),(K w.params).In h->h.Ns mainGlobals mg->∃ T:Tx (K w.params) mg,T.oQ=ce/\T.oE=cl) :
  PySem.W.WalkO q loose XP YP l.row.toRowW d [] (fun f vs=>PySem.call f vs) :=
 L2.XS (n:=63) (k:=21) (x := "_law_script") (CX:=fun w=>bj l.prog w) (sp:=fun w=>Df (K w.params) [(ce,Pe),(cl,Pl)]) (tabs:=[(ce,Pe),(cl,Pl)]) hn (by decide) uE ⟨rfl,by decide,by decide⟩ hY oO
  (fun w t ht=>by
   simp only [AT,EQ,KB] at ht;rcases ht with rfl | rfl
   ·exact let ⟨e,h1,h2⟩:=qD w; ⟨_,e,h1,h2⟩
   ·exact let ⟨e,h1,h2⟩:=gT w; ⟨_,e,h1,h2⟩)
  (fun w mg fa h KX G hfa=>by
   obtain ⟨T,rfl,rfl⟩:=F w mg h KX G;rw [lM] at hfa;have e:=hfa.symm.trans T.S3;cases e;refine ⟨T.xZ,fun s u=>by obtain ⟨oc,od,kV,doc,pm,an,ag,ct,cZ,e,_⟩:=T.wj.ex; rw [e]; exact .of_eq rfl,fun base _ _ hb=>?_⟩;have g0:=hb (T.oQ,Pe) (by simp);have g1:=hb (T.oE,Pl) (by simp);exact Zo T g0.1 g0.2 g1.1 g1.2 (KK.mpr ⟨fun e=>qT (KM.mp e).symm,KK.mpr ⟨nofun,.nil⟩⟩))
  (fun _ _ a ns _ hO hS=>PL hO hS) fun _ _ _ _ _ z=>VF z
end L2.bG

open PySem PySem.W PyProof.Rows
local macro_rules | `(tactic| walk_at "fa")=>`(tactic| (refine' L2.FA.mk ?n ?l ?c ?k; (case n=>k_is); (case l=>k_is); (case c=>k_is); (case k=>k_is)))
local macro_rules | `(tactic| walk_at "ma")=>`(tactic| (refine' L2.MA.mk ?n ?l ?c ?k ?t; (case n=>k_is); (case l=>k_is); (case c=>k_is); (case k=>k_is); (case t=>k_is)))
local macro_rules | `(tactic| walk_at "ar")=>`(tactic| (intro _ _ _ _ _ _; first | (refine L2.FY ?_; exact fun _=>rfl) | (refine L2.HZ ?_; exact fun _ _=>rfl) | (refine L2.si ?_; exact fun _ _ _=>rfl) | (refine L2.pb ?_; exact fun _ _ _ _=>rfl) | (refine L2.xl ?_; exact fun _ _ _ _ _=>rfl) | (refine L2.y6 ?_; exact fun _ _ _ _ _ _=>rfl) | (refine L2.Pn ?_; exact fun _ _ _ _ _ _ _=>rfl) | (refine L2.Kl ?_; exact rfl)))
local macro_rules | `(tactic| walk_at "mg")=>`(tactic| (refine' PySem.W.mg_of (by assumption) (by assumption) ?n; (case n=>k_is)))
local macro_rules | `(tactic| walk_at "mn")=>`(tactic| (refine' PySem.W.mg_none_of (by assumption) (by assumption) ?n; (case n=>k_is)))
local macro_rules | `(tactic| walk_at "ft")=>`(tactic| (refine' Classical.choice (L2.FA.gt (by assumption) (by assumption) ?b ?a); (case a=>walk_at "fa"); (case b=>walk_at "ar")))
local macro_rules | `(tactic| walk_at "mt")=>`(tactic| (refine' Classical.choice (L2.MA.gt ?b ?a); (case a=>walk_at "ma"); (case b=>walk_at "ar")))
local macro_rules | `(tactic| walk_at "mk")=>`(tactic| (refine' L2.aac ?a ?b; (case a=>k_is); (case b=>k_is)))
local macro_rules | `(tactic| walk_at "xf")=>`(tactic| (refine' L2.Rh ?a ?b ?c ?d ?e ?f ?g; (case a=>kernel_rfl); (case b=>k_is); (case c=>k_is); (case d=>k_is); (case e=>k_is); (case f=>k_is); (case g=>k_is)))
local macro_rules | `(tactic| walk_at "cl")=>`(tactic| (refine' L2.cR.mk ?a ?b ?c ?d; (case a=>k_is); (case b=>k_is); (case c=>k_is); (case d=>k_is)))
local macro_rules | `(tactic| walk_at "fu")=>`(tactic| (refine' L2.C0 ?l ?c ?k; (case l=>k_is); (case c=>k_is); (case k=>k_is)))
local macro_rules | `(tactic| walk_at "fd")=>`(tactic| (refine' L2.WI ?l ?c ?k ?d ?h; (case l=>k_is); (case c=>k_is); (case k=>k_is); (case d=>k_is); (case h=>exact rfl)))
set_option maxRecDepth 100000 in
set_option maxHeartbeats 0 in
theorem PySem.Challenge.cw_leadnames_k42_seats_holds : PySem.Challenge.rw_leadnames_k42_seats.Holds := by
 refine L2.bG.hd0 ?_;unfold L2.bG.eV
 k_fill
 refine L2.bG.Vq (l:=PySem.Challenge.rw_leadnames_k42_seats) (ce:=?ce) (Pe:=?Pe) (cl:=?cl) (Pl:=?Pl) rfl rfl rfl (fun w h Y=>PySem.W.km_in_of (e:=fun _=>by kernel_rfl) Y) ?oO ?qD ?gT ?qT ?F
 case oO=>intro w; first | kernel_rfl | exact rfl
 case qD =>
  intro w;refine' ⟨_,rfl,L2.JX ?n0 ?l0 ?c0 ?lc0 ?v0⟩
  (case n0=>k_is)
  (case l0=>k_is)
  (case c0=>exact rfl)
  (case lc0=>k_is)
  (case v0=>exact rfl)
 case gT =>
  intro w;refine' ⟨_,rfl,L2.JX ?n1 ?l1 ?c1 ?lc1 ?v1⟩
  (case n1=>k_is)
  (case l1=>k_is)
  (case c1=>exact rfl)
  (case lc1=>k_is)
  (case v1=>exact rfl)
 case qT=>exact fun e=>absurd (show (_:Nat)=_ from e) (by decide)
 case F =>
  intro w mg h KX G;refine' ⟨L2.bG.Tx.mk ?_ ?_ ?_ ?_ ?_ ?_ ?_ ?_ ?_ ?_ ?_ ?_ ?_ ?_ ?_ ?_ ?_ ?_ ?_ ?tR ?_ ?GP ?xo ?xm ?_ ?Jv ?zR ?_ ?_ ?_ ?_ ?_ ?_ ?_ ?_ ?_ ?_ ?_ ?tH ?_ ?DS ?JS ?Bq ?rH ?_ ?BY ?IM ?BN ?_ ?_ ?_ ?_ ?_ ?_ ?_ ?_ ?_ ?_ ?_ ?xg ?_ ?zH ?_ ?_ ?_ ?sX ?_ ?uZ ?wj ?_ ?Hv ?_ ?BK ?_ ?_ ?_ ?_ ?_ ?_ ?_ ?_ ?_ ?_ ?_ ?_ ?_ ?_ ?_ ?_ ?_ ?_ ?_ ?_ ?BG ?_ ?_ ?CB ?_ ?_ ?_ ?_ ?_ ?_ ?_ ?_ ?_ ?_ ?_ ?_ ?_ ?_ ?_ ?_ ?_ ?_ ?_ ?_ ?_ ?_ ?_ ?_ ?_ ?_ ?_ ?_ ?_ ?_ ?_ ?_ ?_ ?_ ?_ ?_ ?_ ?_ ?_ ?_ ?_ ?_ ?_ ?_ ?_ ?_ ?_ ?_ ?_ ?_ ?_ ?_ ?_ ?_ ?_ ?_ ?_ ?_ ?_ ?_ ?_ ?_ ?_ ?_ ?_ ?_ ?_ ?_ ?_ ?_ ?_ ?_ ?_ ?_ ?_ ?_ ?_ ?_ ?_ ?_ ?_ ?_ ?_ ?_ ?_ ?_ ?_ ?_ ?_ ?_ ?_ ?_ ?_ ?_ ?_ ?_ ?_ ?_ ?_ ?_ ?_ ?_ ?_ ?_ ?_ ?_ ?_ ?_ ?_ ?_ ?_ ?_ ?_ ?_ ?_ ?_ ?_ ?_ ?_ ?_ ?_ ?_ ?_ ?_ ?_ ?_ ?_ ?_ ?_ ?_ ?_ ?_ ?_ ?_ ?_ ?_ ?_ ?_ ?_ ?_ ?_ ?_ ?_ ?_ ?_ ?_ ?_ ?_ ?_ ?_ ?_ ?_ ?_ ?_ ?_ ?_ ?_ ?_ ?_ ?_ ?_ ?_ ?_ ?_ ?_ ?_,rfl,rfl⟩

  all_goals try (first | walk_at "mg" | walk_at "ft" | walk_at "mt" | k_is | (show PySem.W.findIn _ _ _=some none; k_is) | walk_at "mn" | kit_is | k_exc | walk_at "mk" | walk_at "cl" | walk_at "xf" | exact rfl | kernel_rfl)
  (case BK=>(refine' L2.bG.So ?l_DOTS; (case l_DOTS=>k_is)))
  (case BG=>(refine' L2.bG.Xn ?l_RIGHTS; (case l_RIGHTS=>k_is)))
  (case CB=>(refine' L2.bG.Ud ?l_SINGLE_RIGHTS; (case l_SINGLE_RIGHTS=>k_is)))
  (case tR=>walk_at "fd")
  (case GP=>exact L2.ji (x := "walk") (y := "walk") (st:=L2.bG.sQ) (ds:=[.bool true]) 1 (by k_is) (by exact rfl) (fun _ _ _ _ _ _ _ us hl=>by (have e:us.length=4:=(by have h:=hl; rw [List.length_append] at h; simp at h; omega)); clear hl; revert us; refine L2.pb ?_; exact fun _ _ _ _=>⟨_,rfl,rfl⟩))
  (case xo=>exact L2.ji (x := "walk") (y := "walk") (st:=L2.bG.sQ) (ds:=[.bool true]) 0 (by k_is) (by exact rfl) (fun _ _ _ _ _ _ _ us hl=>by (have e:us.length=3:=(by have h:=hl; rw [List.length_append] at h; simp at h; omega)); clear hl; revert us; refine L2.si ?_; exact fun _ _ _=>⟨_,rfl,rfl⟩))
  (case xm=>walk_at "fd")
  (case Jv=>exact L2.ji (x := "asked_of") (y := "asked_of") (st:=L2.bG.se) (ds:=[.bool true]) 1 (by k_is) (by exact rfl) (fun _ _ _ _ _ _ _ us hl=>by (have e:us.length=4:=(by have h:=hl; rw [List.length_append] at h; simp at h; omega)); clear hl; revert us; refine L2.pb ?_; exact fun _ _ _ _=>⟨_,rfl,rfl⟩))
  (case zR=>exact L2.ji (x := "asked_of") (y := "asked_of") (st:=L2.bG.se) (ds:=[.bool true]) 0 (by k_is) (by exact rfl) (fun _ _ _ _ _ _ _ us hl=>by (have e:us.length=3:=(by have h:=hl; rw [List.length_append] at h; simp at h; omega)); clear hl; revert us; refine L2.si ?_; exact fun _ _ _=>⟨_,rfl,rfl⟩))
  (case tH=>walk_at "fd")
  (case DS=>exact L2.ji (x := "make_folder") (y := "make_folder") (st:=L2.bG.pM) (ds:=[.str "lgw" _,.str "" _]) 2 (by k_is) (by exact rfl) (fun _ _ _ _ _ _ _ us hl=>by (have e:us.length=5:=(by have h:=hl; rw [List.length_append] at h; simp at h; omega)); clear hl; revert us; refine L2.xl ?_; exact fun _ _ _ _ _=>⟨_,rfl,rfl⟩))
  (case JS=>exact L2.ji (x := "make_folder") (y := "make_folder") (st:=L2.bG.pM) (ds:=[.str "lgw" _,.str "" _]) 1 (by k_is) (by exact rfl) (fun _ _ _ _ _ _ _ us hl=>by (have e:us.length=4:=(by have h:=hl; rw [List.length_append] at h; simp at h; omega)); clear hl; revert us; refine L2.pb ?_; exact fun _ _ _ _=>⟨_,rfl,rfl⟩))
  (case Bq=>exact L2.ji (x := "make_folder") (y := "make_folder") (st:=L2.bG.pM) (ds:=[.str "lgw" _,.str "" _]) 0 (by k_is) (by exact rfl) (fun _ _ _ _ _ _ _ us hl=>by (have e:us.length=3:=(by have h:=hl; rw [List.length_append] at h; simp at h; omega)); clear hl; revert us; refine L2.si ?_; exact fun _ _ _=>⟨_,rfl,rfl⟩))
  (case rH=>walk_at "fd")
  (case BY=>exact L2.ji (x := "make_file") (y := "make_file") (st:=L2.bG.qc) (ds:=[.str "lgw" _,.str "" _]) 2 (by k_is) (by exact rfl) (fun _ _ _ _ _ _ _ us hl=>by (have e:us.length=6:=(by have h:=hl; rw [List.length_append] at h; simp at h; omega)); clear hl; revert us; refine L2.y6 ?_; exact fun _ _ _ _ _ _=>⟨_,rfl,rfl⟩))
  (case IM=>exact L2.ji (x := "make_file") (y := "make_file") (st:=L2.bG.qc) (ds:=[.str "lgw" _,.str "" _]) 1 (by k_is) (by exact rfl) (fun _ _ _ _ _ _ _ us hl=>by (have e:us.length=5:=(by have h:=hl; rw [List.length_append] at h; simp at h; omega)); clear hl; revert us; refine L2.xl ?_; exact fun _ _ _ _ _=>⟨_,rfl,rfl⟩))
  (case BN=>exact L2.ji (x := "make_file") (y := "make_file") (st:=L2.bG.qc) (ds:=[.str "lgw" _,.str "" _]) 0 (by k_is) (by exact rfl) (fun _ _ _ _ _ _ _ us hl=>by (have e:us.length=4:=(by have h:=hl; rw [List.length_append] at h; simp at h; omega)); clear hl; revert us; refine L2.pb ?_; exact fun _ _ _ _=>⟨_,rfl,rfl⟩))
  (case xg=>walk_at "fu")
  (case zH=>exact L2.Binds.all (fun us hl=>match us,hl with | [_,_],_=>rfl))
  (case sX=>walk_at "fu")
  (case uZ=>exact L2.Binds.all (fun us hl=>match us,hl with | [_,_,_],_=>rfl))
  (case wj=>walk_at "fu")
  (case Hv=>exact L2.Binds.all (fun us hl=>match us,hl with | [_],_=>rfl))
  all_goals try (first | walk_at "mg" | walk_at "ft" | walk_at "mt" | k_is | (show PySem.W.findIn _ _ _=some none; k_is) | walk_at "mn" | kit_is | k_exc | walk_at "mk" | walk_at "cl" | walk_at "xf" | exact rfl | kernel_rfl)

