import PyProof.Rows.All
import Wide.All
import OpenK.AllK
import Wide.FinOn
import Lean
import PyProof.EqAt
import PyProof.EqKinds
import PyProof.TupleCall
import PyProof.NsDelKeeps
import PyProof.InstStoreFacts
import KE.KLam
import KE.KRevIter
import PyProof.ZipIter
import KE.KUnpack
import PyProof.Conv_int_bool
import PyProof.CallStr
import PySem.Challenge.RW_leadnames_k46_rights_set
set_option Elab.async false
set_option linter.all false
set_option maxRecDepth 100000
namespace L2
open PySem PySem.W
def oP (tb:String->Option Builtin) (p:Program) (w:World) (n₀:Nat) (ann:Option Value):Nat->SharedT->Thread->Option SharedT
 | 0,_,_=>none
 | n+1,s,t=>match through t with
  | true=>some s
  | false=>match stepOk n₀ ann t with
   | false=>none
   | true=>match stepT (denote tb) p w s t with
    | some (s',t')=>oP tb p w n₀ ann n s' t'
    | none=>none
theorem Im {tb:String->Option Builtin} {p:Program} {w:World} {n₀:Nat} {ann:Option Value}:∀ {n:Nat} {s s':SharedT} {t:Thread},oP tb p w n₀ ann n s t=some s'->topRun tb p w n₀ ann n s.abs t=some s'.abs
 | 0,_,_,_,h=>by cases h
 | n+1,s,s',t,h=>by
  unfold oP at h;unfold topRun;cases he:through t with
  | true=>rw [he] at h; cases h; rfl
  | false =>
   rw [he] at h;cases hk:stepOk n₀ ann t with
   | false=>rw [hk] at h; cases h
   | true =>
    rw [hk] at h;cases hs:stepT (denote tb) p w s t with
    | none=>rw [hs] at h; cases h
    | some r=>obtain ⟨s₂,t₂⟩:=r; rw [hs] at h; rw [stepT_spec hs]; exact Im h
def treeOf:List Obj->Nat->BT->BT
 | [],_,t=>t
 | o::r,n,t=>treeOf r (n+1) (t.ins n o)
theorem LeftO.UI {p q:Program} {loose:List Str} {Xt:Shared->Bool} {α:Type} {Yf:Shared->α} {Ya:World->α} {N:Nat} {g0:Bool} {H₀:Params->Heap} {T₀:Params->BT} {n₀:Nat} {life:Life} {mx:Array GenState} {d₀:Drawn} {k₀:Nat} {ann:Option Value}
  (DY:∀ w:World,(fencedOpening treeTable p w N).map (fun s=>(s.heap,s.gens,s.drawn,s.toks))=some (H₀ w.params,mx,d₀,k₀))
  (tr:∀ P:Params,absHeap (T₀ P) n₀ life=H₀ P)
  (size:∀ P:Params,((H₀ P).isNs mainGlobals && mx.size == 0,(H₀ P).objs.size,(H₀ P).nsMap mainGlobals "__annotations__")=(true,n₀,ann))
  (run:∀ (w:World) (os:OsState),(oP treeTable p w n₀ ann N ⟨T₀ w.params,n₀,life,mx,d₀,k₀,os⟩ (topStub p)).map (fun s=>((staticsOk (importedModules p.main.body) (H₀ w.params) s.abs.heap && namesBound p s.abs.heap && gensDone s.abs && laidKept (H₀ w.params) s.abs.heap),
    openSeen q loose (importedModules p.main.body) Xt g0 s.abs,Yf s.abs))=some (true,openGood q loose,Ya w)):LeftO p q loose Xt Yf Ya N g0:=fun w=>by
 obtain ⟨⟨h,gs,d,k,os⟩,e,e'⟩:=Option.map_eq_some_iff.mp (DY w);obtain ⟨rfl,rfl,rfl,rfl⟩:h=H₀ w.params/\gs=mx/\d=d₀/\k=k₀:=by simpa using e'
 obtain ⟨z1,z2,z3⟩:_/\_/\_:=by simpa only [Prod.mk.injEq] using size w.params
 obtain ⟨s₁,r1,r2⟩:=Option.map_eq_some_iff.mp (run w os);obtain ⟨l1,l2,l3⟩:_/\_/\_:=by simpa only [Prod.mk.injEq] using r2
 have r:=Im r1;have ea:SharedT.abs ⟨T₀ w.params,n₀,life,gs,d,k,os⟩=⟨H₀ w.params,gs,d,k,os⟩:=by
  unfold SharedT.abs;rw [tr]
 rw [ea] at r;have t:topFrom treeTable p w N ⟨H₀ w.params,gs,d,k,os⟩=some s₁.abs:=by
  unfold topFrom;dsimp only;rw [z1,z2,z3,r];show (match staticsOk (importedModules p.main.body) (H₀ w.params) s₁.abs.heap && namesBound p s₁.abs.heap && gensDone s₁.abs && laidKept (H₀ w.params) s₁.abs.heap with | true=>_ | false=>_)=_;rw [l1]
 unfold openEnds;rw [e];show (topFrom treeTable p w N _).map _=_;rw [t];exact congrArg some (Prod.ext l2 l3)
def ee (ok:Nat->Option Value->Thread->Bool) (st:SharedT->Thread->Option (SharedT×Thread)) (n₀:Nat) (ann:Option Value):Nat->SharedT->Thread->Option SharedT
 | 0,_,_=>none
 | n+1,s,t=>match through t with
  | true=>some s
  | false=>match ok n₀ ann t with
   | false=>none
   | true=>match st s t with
    | some (s',t')=>ee ok st n₀ ann n s' t'
    | none=>none
theorem HL {tb:String->Option Builtin} {p:Program} {w:World} {n₀:Nat} {ann:Option Value}:∀ (n:Nat) (s:SharedT) (t:Thread),ee stepOk (stepT (denote tb) p w) n₀ ann n s t=oP tb p w n₀ ann n s t
 | 0,_,_=>rfl
 | n+1,s,t=>by
  unfold ee oP;cases through t with
  | true=>rfl
  | false =>
   cases stepOk n₀ ann t with
   | false=>rfl
   | true =>
    cases stepT (denote tb) p w s t with
    | none=>rfl
    | some r=>exact HL n r.1 r.2
theorem LeftO.Ut {p q:Program} {loose:List Str} {Xt:Shared->Bool} {α:Type} {Yf:Shared->α} {Ya:World->α} {N:Nat} {g0:Bool} {H₀:Params->Heap} {T₀:Params->BT} {n₀:Nat} {life:Life} {mx:Array GenState} {d₀:Drawn} {k₀:Nat} {ann:Option Value}
  {ok:Nat->Option Value->Thread->Bool} {st:(Code->Sem Fin)->Program->World->SharedT->Thread->Option (SharedT×Thread)} {den:(String->Option Builtin)->Code->Sem Fin} {tb:String->Option Builtin}
  (e1:stepOk=ok) (e2:stepT=st) (e3:denote=den) (e4:treeTable=tb)
  (DY:∀ w:World,(fencedOpening treeTable p w N).map (fun s=>(s.heap,s.gens,s.drawn,s.toks))=some (H₀ w.params,mx,d₀,k₀))
  (tr:∀ P:Params,absHeap (T₀ P) n₀ life=H₀ P)
  (size:∀ P:Params,((H₀ P).isNs mainGlobals && mx.size == 0,(H₀ P).objs.size,(H₀ P).nsMap mainGlobals "__annotations__")=(true,n₀,ann))
  (run:∀ (w:World) (os:OsState),(ee ok (st (den tb) p w) n₀ ann N ⟨T₀ w.params,n₀,life,mx,d₀,k₀,os⟩ (topStub p)).map (fun s=>((staticsOk (importedModules p.main.body) (H₀ w.params) s.abs.heap && namesBound p s.abs.heap && gensDone s.abs && laidKept (H₀ w.params) s.abs.heap),
    openSeen q loose (importedModules p.main.body) Xt g0 s.abs,Yf s.abs))=some (true,openGood q loose,Ya w)):LeftO p q loose Xt Yf Ya N g0:=by
 subst e1 e2 e3 e4;refine LeftO.UI DY tr size fun w os=>?_;rw [<- HL];exact run w os
noncomputable def e9 (P:Params):BT:=treeOf (boot_heap P).objs.toList 0 .nil
end L2

namespace L2
open PySem PySem.W PyProof.Rows
theorem Z4 {α β γ:Type} {o:Option α} {F:α->β×γ} {G:β×γ} (h1:o.map (fun s=>(F s).1)=some G.1) (h2:o.map (fun s=>(F s).2)=some G.2):o.map F=some G:=by
 cases o with
 | none=>cases h1
 | some a=>injection h1 with h1; injection h2 with h2; exact congrArg some (Prod.ext h1 h2)
theorem atS {α β:Type} {o:Option α} {s:α} {f:α->β} {g:β} (hs:o=some s) (h:o.map f=some g):f s=g:=by
 subst hs; exact Option.some.inj h
theorem i8 {α β:Type} {a b:α} {c d:β} (h:a=b) (k:c=d):(a,c)=(b,d):=by rw [h,k]
def F0 (p:Program) (H₀:Heap) (s:SharedT):Bool:=staticsOk (importedModules p.main.body) H₀ s.abs.heap && namesBound p s.abs.heap && gensDone s.abs && laidKept H₀ s.abs.heap
def F3 (p q:Program) (loose:List Str) (Xt:Shared->Bool) (g0:Bool) (s:SharedT):Bool:=s.abs.heap.keysOk (looseW q loose) ((recsOf q).map (·.name)) ((litsOf q).map (·.1)) ((clssOf q (looseW q loose)).map (·.name)) && s.abs.heap.accountedOkI (importedModules p.main.body) && s.abs.heap.isNs mainGlobals && s.abs.heap.isNs builtinsNs && tablesOk q s.abs.heap && Xt s.abs && (if g0 then s.abs.gens.size == 0 else !leftWithCleanup s.abs.gens)
def F1 (q:Program) (s:SharedT):=seen ((recsOf q).map (·.name)) (ownsOf q) [] { s.abs with gens:=#[] }
theorem We {p q:Program} {loose:List Str} {Xt:Shared->Bool} {α:Type} {Yf:Shared->α} {Ya:World->α} {g0:Bool} {H₀:Heap} {o:Option SharedT} {w:World}
  (q0:o.map (F0 p H₀)=some true) (q1:o.map (F1 q)=some (expectedOf q)) (q2:o.map (fun s:SharedT=>s.abs.heap.bltView)=some bltViewBooted)
  (q3:o.map (F3 p q loose Xt g0)=some true) (q4:o.map (fun s:SharedT=>tabsOk q s.abs)=some true) (q5:o.map (fun s:SharedT=>pinSeenD q (drecsOf q) s.abs)=some (pinGoodD (drecsOf q)))
  (q6:o.map (fun s:SharedT=>plainSeenE q (looseW q loose) s.abs)=some (plainGoodE q (looseW q loose))) (q7:o.map (fun s:SharedT=>plainSeenD q loose s.abs)=some (plainGoodD q loose))
  (q8:o.map (fun s:SharedT=>wideSeen q s.abs)=some (wideGood q)) (q9:o.map (fun s:SharedT=>clsSeenW q loose s.abs)=some (clsGoodW q loose))
  (o1:o.map (fun s:SharedT=>Yf s.abs)=some (Ya w)) :
  o.map (fun s:SharedT=>(F0 p H₀ s,openSeen q loose (importedModules p.main.body) Xt g0 s.abs,Yf s.abs))=some (true,openGood q loose,Ya w):=by
 obtain ⟨s,hs,a0⟩:=Option.map_eq_some_iff.mp q0;have a1:=atS hs q1;have a2:=atS hs q2;have a3:=atS hs q3;have a4:=atS hs q4;have a5:=atS hs q5;have a6:=atS hs q6;have a7:=atS hs q7;have a8:=atS hs q8;have a9:=atS hs q9;have a10:=atS hs o1;clear q0 q1 q2 q3 q4 q5 q6 q7 q8 q9 o1;subst hs;show some _=some _;refine congrArg some (i8 a0 (i8 ?_ a10));unfold openSeen openGood;exact i8 a1 (i8 a2 (i8 a3 (i8 a4 (i8 a5 (i8 a6 (i8 a7 (i8 a8 a9)))))))
theorem qM {α β γ:Type} {o:Option α} {f:α->β} {g:α->γ} {b:β} {c:γ} (h:o.map (fun s=>(f s,g s))=some (b,c)):o.map f=some b:=by
 cases o with
 | none=>cases h
 | some a=>injection h with h; exact congrArg some (congrArg Prod.fst h)
theorem fL {α β γ:Type} {o:Option α} {f:α->β} {g:α->γ} {b:β} {c:γ} (h:o.map (fun s=>(f s,g s))=some (b,c)):o.map g=some c:=by
 cases o with
 | none=>cases h
 | some a=>injection h with h; exact congrArg some (congrArg Prod.snd h)
theorem rM {α β γ:Type} {o:Option α} {l:List β} {f:α->β->γ} {g:β->γ} (n:Nat) (h1:o.map (fun s=>(l.take n).map (f s))=some ((l.take n).map g)) (h2:o.map (fun s=>(l.drop n).map (f s))=some ((l.drop n).map g)):o.map (fun s=>l.map (f s))=some (l.map g):=by
 cases o with
 | none=>cases h1
 | some a =>
  injection h1 with h1;injection h2 with h2;refine congrArg some ?_;show l.map (f a)=l.map g;rw [<- List.take_append_drop n l,List.map_append,List.map_append];exact congr (congrArg _ h1) h2
theorem P5 {K:Params->Frag} {as:List Addr} {e:∀ P,as=(K P).map (·.1)} {ts:List Addr} {o:Option SharedT} {w:World} (h:o.map (fun s=>(K w.params).map fun p=>s.abs.heap.get? p.1)=some ((K w.params).map fun p=>some p.2)) (ht:o.map (fun s=>ts.map s.abs.heap.get?)=some (ts.map fun _=>some (tabObj #[]))) :
  o.map (fun s=>(kmHook K as e ts).obs s.abs)=some ((kmHook K as e ts).val w):=by
 refine Z4 (F:=fun s:SharedT=>(kmHook K as e ts).obs s.abs) (G:=(kmHook K as e ts).val w) ?_ ht;show o.map (fun s:SharedT=>as.map s.abs.heap.get?)=some ((K w.params).map fun p=>some p.2);rw [e w.params];simp only [List.map_map];exact h
end L2

section
open PySem PySem.W PyProof.Rows
namespace L2.bD
theorem sa:(PySem.Challenge.rw_leadnames_k46_rights_set).row.wellSaid=true:=by kernel_rfl
theorem FJ:(PySem.Challenge.rw_leadnames_k46_rights_set).wellSaid=true:=by
 unfold OpenLaw.wellSaid
 iterate 18 refine look_both ?_ ?_
 ·exact sa
 all_goals kernel_rfl
noncomputable def QV:Program:=view (PySem.Challenge.rw_leadnames_k46_rights_set).prog [0,2,3,4,5,6,7,8,9,10,12,13,14,15,17,18,19,20,21,22,23,24,25,26,27,28,29,30,31,32,33,34,35,37,38,39,40,41,43,44,45,46,47,48,49,50,51,52,56,57,58,59,60,61,62,63,64,65,66,69,70,72,73,75,76,77,78,79,80,81,82,83,84,85,86,87,88]
theorem kZ:∀ w:World,(fencedOpening treeTable (PySem.Challenge.rw_leadnames_k46_rights_set).prog w 15440).map (fun s=>(s.heap,s.gens,s.drawn,s.toks))=some (boot_heap w.params,Array.mk [],boot_drawn,boot_toks):=boot_open rfl rfl (fun _=>rfl)
theorem cw:∀ P:Params,absHeap (L2.e9 P) 11 {}=boot_heap P:=by intro P; kernel_rfl
theorem iX:∀ P:Params,((boot_heap P).isNs mainGlobals && (Array.mk ([]:List GenState)).size == 0,(boot_heap P).objs.size,(boot_heap P).nsMap mainGlobals "__annotations__")=(true,11,some (.ref 6)):=by intro P; kernel_rfl
set_option maxHeartbeats 0
theorem qL (w:World) (os:OsState):((ee PySem.W.Fast.tw6613529449190102663 (PySem.W.Fast.tw10156331382660048174 (PySem.W.Fast.tw11892475500146522536 PySem.W.Fast.tw14364793385576792824) (PySem.Challenge.rw_leadnames_k46_rights_set).prog w) 11 (some (.ref 6)) 15440 ⟨L2.e9 w.params,11,{},Array.mk [],boot_drawn,boot_toks,os⟩ (topStub (PySem.Challenge.rw_leadnames_k46_rights_set).prog))).map (fun s=>(((staticsOk (importedModules (PySem.Challenge.rw_leadnames_k46_rights_set).prog.main.body) (boot_heap w.params) s.abs.heap && namesBound (PySem.Challenge.rw_leadnames_k46_rights_set).prog s.abs.heap && gensDone s.abs && laidKept (boot_heap w.params) s.abs.heap)),s.abs.heap.bltView,pinSeenD QV (drecsOf QV) s.abs,plainSeenD QV [PySem.Str.ofString "walk",PySem.Str.ofString "asked_of",PySem.Str.ofString "make_folder",PySem.Str.ofString "make_file"] s.abs,clsSeenW QV [PySem.Str.ofString "walk",PySem.Str.ofString "asked_of",PySem.Str.ofString "make_folder",PySem.Str.ofString "make_file"] s.abs,[1037,1016].map s.abs.heap.get?))=some ((true,bltViewBooted,pinGoodD (drecsOf QV),plainGoodD QV [PySem.Str.ofString "walk",PySem.Str.ofString "asked_of",PySem.Str.ofString "make_folder",PySem.Str.ofString "make_file"],clsGoodW QV [PySem.Str.ofString "walk",PySem.Str.ofString "asked_of",PySem.Str.ofString "make_folder",PySem.Str.ofString "make_file"],[1037,1016].map fun _=>some (tabObj #[]))):=by kernel_rfl
theorem Xz (w:World) (os:OsState):((ee PySem.W.Fast.tw6613529449190102663 (PySem.W.Fast.tw10156331382660048174 (PySem.W.Fast.tw11892475500146522536 PySem.W.Fast.tw14364793385576792824) (PySem.Challenge.rw_leadnames_k46_rights_set).prog w) 11 (some (.ref 6)) 15440 ⟨L2.e9 w.params,11,{},Array.mk [],boot_drawn,boot_toks,os⟩ (topStub (PySem.Challenge.rw_leadnames_k46_rights_set).prog))).map (fun s=>seen ((recsOf QV).map (·.name)) (ownsOf QV) [] { s.abs with gens:=#[] })=some (expectedOf QV):=by kernel_rfl
theorem Rr (w:World) (os:OsState):((ee PySem.W.Fast.tw6613529449190102663 (PySem.W.Fast.tw10156331382660048174 (PySem.W.Fast.tw11892475500146522536 PySem.W.Fast.tw14364793385576792824) (PySem.Challenge.rw_leadnames_k46_rights_set).prog w) 11 (some (.ref 6)) 15440 ⟨L2.e9 w.params,11,{},Array.mk [],boot_drawn,boot_toks,os⟩ (topStub (PySem.Challenge.rw_leadnames_k46_rights_set).prog))).map (fun s=>wideSeen QV s.abs)=some (wideGood QV):=by kernel_rfl
theorem q3 (w:World) (os:OsState):((ee PySem.W.Fast.tw6613529449190102663 (PySem.W.Fast.tw10156331382660048174 (PySem.W.Fast.tw11892475500146522536 PySem.W.Fast.tw14364793385576792824) (PySem.Challenge.rw_leadnames_k46_rights_set).prog w) 11 (some (.ref 6)) 15440 ⟨L2.e9 w.params,11,{},Array.mk [],boot_drawn,boot_toks,os⟩ (topStub (PySem.Challenge.rw_leadnames_k46_rights_set).prog))).map (fun s=>(s.abs.heap.keysOk (looseW QV [PySem.Str.ofString "walk",PySem.Str.ofString "asked_of",PySem.Str.ofString "make_folder",PySem.Str.ofString "make_file"]) ((recsOf QV).map (·.name)) ((litsOf QV).map (·.1)) ((clssOf QV (looseW QV [PySem.Str.ofString "walk",PySem.Str.ofString "asked_of",PySem.Str.ofString "make_folder",PySem.Str.ofString "make_file"])).map (·.name)) && s.abs.heap.accountedOkI (importedModules (PySem.Challenge.rw_leadnames_k46_rights_set).prog.main.body) && s.abs.heap.isNs mainGlobals && s.abs.heap.isNs builtinsNs && tablesOk QV s.abs.heap && (fun s=>xlAt QV [] s && recOk (RowW.records (OpenRow.toRowW (PySem.Challenge.rw_leadnames_k46_rights_set).row)) s) s.abs && (if true then s.abs.gens.size == 0 else !leftWithCleanup s.abs.gens)))=some (true):=by kernel_rfl
theorem q4 (w:World) (os:OsState):((ee PySem.W.Fast.tw6613529449190102663 (PySem.W.Fast.tw10156331382660048174 (PySem.W.Fast.tw11892475500146522536 PySem.W.Fast.tw14364793385576792824) (PySem.Challenge.rw_leadnames_k46_rights_set).prog w) 11 (some (.ref 6)) 15440 ⟨L2.e9 w.params,11,{},Array.mk [],boot_drawn,boot_toks,os⟩ (topStub (PySem.Challenge.rw_leadnames_k46_rights_set).prog))).map (fun s=>tabsOk QV s.abs)=some (true):=by kernel_rfl
theorem Uk (w:World) (os:OsState):((ee PySem.W.Fast.tw6613529449190102663 (PySem.W.Fast.tw10156331382660048174 (PySem.W.Fast.tw11892475500146522536 PySem.W.Fast.tw14364793385576792824) (PySem.Challenge.rw_leadnames_k46_rights_set).prog w) 11 (some (.ref 6)) 15440 ⟨L2.e9 w.params,11,{},Array.mk [],boot_drawn,boot_toks,os⟩ (topStub (PySem.Challenge.rw_leadnames_k46_rights_set).prog))).map (fun s=>(((plainsOf QV (looseW QV [PySem.Str.ofString "walk",PySem.Str.ofString "asked_of",PySem.Str.ofString "make_folder",PySem.Str.ofString "make_file"])).take 8).take 4).map fun c=>s.abs.heap.plainShapeAt c.withCmp)=some ((((plainsOf QV (looseW QV [PySem.Str.ofString "walk",PySem.Str.ofString "asked_of",PySem.Str.ofString "make_folder",PySem.Str.ofString "make_file"])).take 8).take 4).map fun c=>some c.withCmp.plainShape):=by kernel_rfl
theorem RZ (w:World) (os:OsState):((ee PySem.W.Fast.tw6613529449190102663 (PySem.W.Fast.tw10156331382660048174 (PySem.W.Fast.tw11892475500146522536 PySem.W.Fast.tw14364793385576792824) (PySem.Challenge.rw_leadnames_k46_rights_set).prog w) 11 (some (.ref 6)) 15440 ⟨L2.e9 w.params,11,{},Array.mk [],boot_drawn,boot_toks,os⟩ (topStub (PySem.Challenge.rw_leadnames_k46_rights_set).prog))).map (fun s=>(((plainsOf QV (looseW QV [PySem.Str.ofString "walk",PySem.Str.ofString "asked_of",PySem.Str.ofString "make_folder",PySem.Str.ofString "make_file"])).take 8).drop 4).map fun c=>s.abs.heap.plainShapeAt c.withCmp)=some ((((plainsOf QV (looseW QV [PySem.Str.ofString "walk",PySem.Str.ofString "asked_of",PySem.Str.ofString "make_folder",PySem.Str.ofString "make_file"])).take 8).drop 4).map fun c=>some c.withCmp.plainShape):=by kernel_rfl
theorem Qw (w:World) (os:OsState):((ee PySem.W.Fast.tw6613529449190102663 (PySem.W.Fast.tw10156331382660048174 (PySem.W.Fast.tw11892475500146522536 PySem.W.Fast.tw14364793385576792824) (PySem.Challenge.rw_leadnames_k46_rights_set).prog w) 11 (some (.ref 6)) 15440 ⟨L2.e9 w.params,11,{},Array.mk [],boot_drawn,boot_toks,os⟩ (topStub (PySem.Challenge.rw_leadnames_k46_rights_set).prog))).map (fun s=>((plainsOf QV (looseW QV [PySem.Str.ofString "walk",PySem.Str.ofString "asked_of",PySem.Str.ofString "make_folder",PySem.Str.ofString "make_file"])).take 8).map fun c=>s.abs.heap.plainShapeAt c.withCmp)=some (((plainsOf QV (looseW QV [PySem.Str.ofString "walk",PySem.Str.ofString "asked_of",PySem.Str.ofString "make_folder",PySem.Str.ofString "make_file"])).take 8).map fun c=>some c.withCmp.plainShape):=L2.rM 4 (Uk w os) (RZ w os)
theorem Yo (w:World) (os:OsState):((ee PySem.W.Fast.tw6613529449190102663 (PySem.W.Fast.tw10156331382660048174 (PySem.W.Fast.tw11892475500146522536 PySem.W.Fast.tw14364793385576792824) (PySem.Challenge.rw_leadnames_k46_rights_set).prog w) 11 (some (.ref 6)) 15440 ⟨L2.e9 w.params,11,{},Array.mk [],boot_drawn,boot_toks,os⟩ (topStub (PySem.Challenge.rw_leadnames_k46_rights_set).prog))).map (fun s=>((plainsOf QV (looseW QV [PySem.Str.ofString "walk",PySem.Str.ofString "asked_of",PySem.Str.ofString "make_folder",PySem.Str.ofString "make_file"])).drop 8).map fun c=>s.abs.heap.plainShapeAt c.withCmp)=some (((plainsOf QV (looseW QV [PySem.Str.ofString "walk",PySem.Str.ofString "asked_of",PySem.Str.ofString "make_folder",PySem.Str.ofString "make_file"])).drop 8).map fun c=>some c.withCmp.plainShape):=by kernel_rfl
theorem q6 (w:World) (os:OsState):((ee PySem.W.Fast.tw6613529449190102663 (PySem.W.Fast.tw10156331382660048174 (PySem.W.Fast.tw11892475500146522536 PySem.W.Fast.tw14364793385576792824) (PySem.Challenge.rw_leadnames_k46_rights_set).prog w) 11 (some (.ref 6)) 15440 ⟨L2.e9 w.params,11,{},Array.mk [],boot_drawn,boot_toks,os⟩ (topStub (PySem.Challenge.rw_leadnames_k46_rights_set).prog))).map (fun s=>plainSeenE QV (looseW QV [PySem.Str.ofString "walk",PySem.Str.ofString "asked_of",PySem.Str.ofString "make_folder",PySem.Str.ofString "make_file"]) s.abs)=some (plainGoodE QV (looseW QV [PySem.Str.ofString "walk",PySem.Str.ofString "asked_of",PySem.Str.ofString "make_folder",PySem.Str.ofString "make_file"])):=L2.rM 8 (Qw w os) (Yo w os)
end L2.bD
end
section
open PySem PySem.W PyProof.Rows
local macro_rules | `(tactic| o_head $H)=>`(tactic| (refine (by assumption:∀ h':PySem.W.Hook,h'=_->PySem.W.OpenRow.Holds _) $H ?_; rfl))
set_option maxHeartbeats 0 in
noncomputable def L2.bD.eS:(h:Hook) ×' ((∀ h':Hook,h'=h->(PySem.Challenge.rw_leadnames_k46_rights_set).row.Holds)->(PySem.Challenge.rw_leadnames_k46_rights_set).row.Holds):=by
 refine' ⟨_,fun x=>_⟩
 rotate_left
 k_head
end
section
open PySem PySem.W PyProof.Rows
namespace L2.bD
set_option maxHeartbeats 0
theorem ya (w:World) (os:OsState):((ee PySem.W.Fast.tw6613529449190102663 (PySem.W.Fast.tw10156331382660048174 (PySem.W.Fast.tw11892475500146522536 PySem.W.Fast.tw14364793385576792824) (PySem.Challenge.rw_leadnames_k46_rights_set).prog w) 11 (some (.ref 6)) 15440 ⟨L2.e9 w.params,11,{},Array.mk [],boot_drawn,boot_toks,os⟩ (topStub (PySem.Challenge.rw_leadnames_k46_rights_set).prog))).map (fun s=>(((eS.heap_1 w.params).take 332).take 166).map fun p=>s.abs.heap.get? p.1)=some ((((eS.heap_1 w.params).take 332).take 166).map fun p=>some p.2):=by kernel_rfl
theorem yb (w:World) (os:OsState):((ee PySem.W.Fast.tw6613529449190102663 (PySem.W.Fast.tw10156331382660048174 (PySem.W.Fast.tw11892475500146522536 PySem.W.Fast.tw14364793385576792824) (PySem.Challenge.rw_leadnames_k46_rights_set).prog w) 11 (some (.ref 6)) 15440 ⟨L2.e9 w.params,11,{},Array.mk [],boot_drawn,boot_toks,os⟩ (topStub (PySem.Challenge.rw_leadnames_k46_rights_set).prog))).map (fun s=>(((eS.heap_1 w.params).take 332).drop 166).map fun p=>s.abs.heap.get? p.1)=some ((((eS.heap_1 w.params).take 332).drop 166).map fun p=>some p.2):=by kernel_rfl
theorem yc (w:World) (os:OsState):((ee PySem.W.Fast.tw6613529449190102663 (PySem.W.Fast.tw10156331382660048174 (PySem.W.Fast.tw11892475500146522536 PySem.W.Fast.tw14364793385576792824) (PySem.Challenge.rw_leadnames_k46_rights_set).prog w) 11 (some (.ref 6)) 15440 ⟨L2.e9 w.params,11,{},Array.mk [],boot_drawn,boot_toks,os⟩ (topStub (PySem.Challenge.rw_leadnames_k46_rights_set).prog))).map (fun s=>(((eS.heap_1 w.params).drop 332).take 166).map fun p=>s.abs.heap.get? p.1)=some ((((eS.heap_1 w.params).drop 332).take 166).map fun p=>some p.2):=by kernel_rfl
theorem yd (w:World) (os:OsState):((ee PySem.W.Fast.tw6613529449190102663 (PySem.W.Fast.tw10156331382660048174 (PySem.W.Fast.tw11892475500146522536 PySem.W.Fast.tw14364793385576792824) (PySem.Challenge.rw_leadnames_k46_rights_set).prog w) 11 (some (.ref 6)) 15440 ⟨L2.e9 w.params,11,{},Array.mk [],boot_drawn,boot_toks,os⟩ (topStub (PySem.Challenge.rw_leadnames_k46_rights_set).prog))).map (fun s=>(((eS.heap_1 w.params).drop 332).drop 166).map fun p=>s.abs.heap.get? p.1)=some ((((eS.heap_1 w.params).drop 332).drop 166).map fun p=>some p.2):=by kernel_rfl
theorem o1 (w:World) (os:OsState):((ee PySem.W.Fast.tw6613529449190102663 (PySem.W.Fast.tw10156331382660048174 (PySem.W.Fast.tw11892475500146522536 PySem.W.Fast.tw14364793385576792824) (PySem.Challenge.rw_leadnames_k46_rights_set).prog w) 11 (some (.ref 6)) 15440 ⟨L2.e9 w.params,11,{},Array.mk [],boot_drawn,boot_toks,os⟩ (topStub (PySem.Challenge.rw_leadnames_k46_rights_set).prog))).map (fun s=>Hook.obs eS.1 s.abs)=some (Hook.val eS.1 w) :=
 L2.P5 (K:=eS.heap_1) (e:=fun _=>by kernel_rfl) (L2.rM 332 (L2.rM 166 (ya w os) (yb w os)) (L2.rM 166 (yc w os) (yd w os))) (L2.fL (L2.fL (L2.fL (L2.fL (L2.fL (qL w os))))))
end L2.bD
local macro_rules | `(tactic| o_law)=>`(tactic| refine PySem.W.holds_law L2.bD.FJ fun FJ=>?_)
local macro_rules | `(tactic| k_head)=>`(tactic| (
 refine holds_open (q:=L2.bD.QV) (loose:=[PySem.Str.ofString "walk",PySem.Str.ofString "asked_of",PySem.Str.ofString "make_folder",PySem.Str.ofString "make_file"]) (Xt:=fun s=>xlAt L2.bD.QV [] s && recOk (RowW.records (OpenRow.toRowW (PySem.Challenge.rw_leadnames_k46_rights_set).row)) s) (XP:=XL L2.bD.QV []) (Yf:=Hook.obs L2.bD.eS.1) (Ya:=Hook.val L2.bD.eS.1) (YP:=Hook.says L2.bD.eS.1) (N:=15440) ?hl (Hook.of L2.bD.eS.1) (Hook.keeps L2.bD.eS.1) (fun s e=>xl_of s (Bool.and_eq_true_iff.mp e).1) XL.keeps (by rfl) (by rfl) (by rfl) (fun s e=>recFacts_of (Bool.and_eq_true_iff.mp e).2) (by rfl) (by first | assumption | decide +kernel) (by decide +kernel) ⟨rfl,rfl,rfl,rfl,rfl,by decide +kernel⟩ ?hw ?hc
 case hl =>
  refine L2.LeftO.Ut PySem.W.Fast.te6613529449190102663 PySem.W.Fast.te10156331382660048174 PySem.W.Fast.te11892475500146522536 PySem.W.Fast.te14364793385576792824 L2.bD.kZ L2.bD.cw L2.bD.iX (fun w os=>?_);exact L2.We (L2.qM (L2.bD.qL w os)) (L2.bD.Xz w os) (L2.qM (L2.fL (L2.bD.qL w os))) (L2.bD.q3 w os) (L2.bD.q4 w os) (L2.qM (L2.fL (L2.fL (L2.bD.qL w os)))) (L2.bD.q6 w os) (L2.qM (L2.fL (L2.fL (L2.fL (L2.bD.qL w os))))) (L2.bD.Rr w os) (L2.qM (L2.fL (L2.fL (L2.fL (L2.fL (L2.bD.qL w os)))))) (L2.bD.o1 w os)))
set_option maxHeartbeats 0 in
open_top L2.bD.hd0 for PySem.Challenge.rw_leadnames_k46_rights_set
end

namespace L2
open PySem PySem.Spec PyProof.Rows
abbrev Key:=Sum Int Str
def nK:Key->Value->Bool
 | .inl k,v=>Value.isInt k v
 | .inr x,v=>Value.isStrOf x v
def Zm (w:World):Key->Int
 | .inl k=>hashInt k
 | .inr x=>hashStr w x
theorem j6:∀ {k:Key} {v:Value},nK k v=true->(∃ i t,k=Sum.inl i/\v=Value.int i t)\/(∃ x t,k=Sum.inr x/\v=Value.str x t)
 | .inl i,v,h=>by
  obtain ⟨t,e⟩:=Value.isInt_shape (k:=i) (v:=v) h;exact .inl ⟨i,t,rfl,e⟩
 | .inr x,v,h=>by
  obtain ⟨t,e⟩:=Value.isStrOf_shape (x:=x) (v:=v) h;exact .inr ⟨x,t,rfl,e⟩
theorem Tn (i:Int) (t:Tok):nK (.inl i) (.int i t)=true:=by simp [nK,Value.isInt]
theorem R7 (x:Str) (t:Tok):nK (.inr x) (.str x t)=true:=by simp [nK,Value.isStrOf]
theorem QR (a b:Int):decide ((Sum.inl a:Key)=Sum.inl b)=(a == b):=by
 by_cases e:a=b
 ·subst e; simp
 ·have h:¬ (Sum.inl a:Key)=Sum.inl b:=fun q=>e (Sum.inl.inj q);rw [decide_eq_false h];exact (beq_eq_false_iff_ne.mpr e).symm
theorem XY (a b:Str):decide ((Sum.inr a:Key)=Sum.inr b)=decide (a=b):=by
 by_cases e:a=b
 ·subst e; simp
 ·have h:¬ (Sum.inr a:Key)=Sum.inr b:=fun q=>e (Sum.inr.inj q);rw [decide_eq_false h,decide_eq_false e]
theorem Ww (a:Int) (b:Str):decide ((Sum.inl a:Key)=Sum.inr b)=false:=decide_eq_false (fun q=>nomatch q)
theorem Qj (a:Str) (b:Int):decide ((Sum.inr a:Key)=Sum.inl b)=false:=decide_eq_false (fun q=>nomatch q)
def en (prog:Program) (w:World):PySem.KeyKind prog w Key where
 is:=nK
 hash:=Zm w
 inj:=fun v a b ha hb=>by
  rcases j6 ha with ⟨i,t,rfl,rfl⟩ | ⟨x,t,rfl,rfl⟩
  ·rcases j6 hb with ⟨j,u,rfl,e⟩ | ⟨y,u,rfl,e⟩
   ·injection e with e1 _; rw [e1]
   ·exact nomatch e
  ·rcases j6 hb with ⟨j,u,rfl,e⟩ | ⟨y,u,rfl,e⟩
   ·exact nomatch e
   ·injection e with e1 _; rw [e1]
 byValue:=fun k v h=>by
  rcases j6 h with ⟨i,t,rfl,rfl⟩ | ⟨x,t,rfl,rfl⟩ <;> rfl
 pyHash:=fun hv h=>by
  rcases j6 hv with ⟨i,t,rfl,rfl⟩ | ⟨x,t,rfl,rfl⟩
  ·exact wpAny_pyHash_int h
  ·exact wpAny_pyHash_str h
 eqBool:=fun hu hv h=>by
  rcases j6 hu with ⟨i,t,rfl,rfl⟩ | ⟨x,t,rfl,rfl⟩
  ·rcases j6 hv with ⟨j,u,rfl,rfl⟩ | ⟨y,u,rfl,rfl⟩
   ·rw [QR] at h; exact wpAny_eqBool_int h
   ·rw [Ww] at h; exact SeqAt.EqAt.int_str i t y u _ _ _ _ h
  ·rcases j6 hv with ⟨j,u,rfl,rfl⟩ | ⟨y,u,rfl,rfl⟩
   ·rw [Qj] at h; exact SeqAt.EqAt.str_int x t j u _ _ _ _ h
   ·rw [XY] at h; exact wpAny_eqBool_str h
 «strs»:=fun k x t v h=>by
  rcases j6 h with ⟨i,u,rfl,e⟩ | ⟨y,u,rfl,e⟩
  ·exact nomatch e
  ·injection e with e1 _;subst e1;cases v <;> rfl
theorem Oh (prog:Program) (w:World) (i:Int) (t:Tok):(en prog w).is (.inl i) (.int i t)=true:=Tn i t
theorem Vj (prog:Program) (w:World) (x:Str) (t:Tok):(en prog w).is (.inr x) (.str x t)=true:=R7 x t
inductive V where
 | au | bl (b:Bool) | int (i:Int) | str (x:Str) | byt (b:Array UInt8) | mL (b:UInt64) | ref (a:Addr) | ty (n:String)
 deriving DecidableEq
def RelV:V->Value->Prop
 | .au,u=>u=Value.none
 | .bl b,u=>u=Value.bool b
 | .int i,u=>∃ t,u=Value.int i t
 | .str x,u=>∃ t,u=Value.str x t
 | .byt b,u=>∃ t,u=Value.bytes b t
 | .mL b,u=>∃ t,u=Value.float b t
 | .ref a,u=>u=Value.ref a
 | .ty n,u=>u=Value.type n
abbrev Vals:List V->List Value->Prop:=Paired RelV
theorem Vals.length {xs:List V} {us:List Value} (r:Vals xs us):xs.length=us.length:=Paired.length r
theorem Vals.get:∀ {xs:List V} {us:List Value} {i:Nat} {x:V},Vals xs us->xs[i]?=some x->∃ u,us[i]?=some u/\RelV x u
 | _,_,_,_,.nil,e=>by simp at e
 | _,_,0,_,.cons r _,e=>by simp at e; subst e; exact ⟨_,rfl,r⟩
 | _,_,i+1,x,.cons _ t,e=>by
  obtain ⟨u,h1,h2⟩:=Vals.get (i:=i) (x:=x) t (by simpa using e);exact ⟨u,by simpa using h1,h2⟩
theorem Vals.set {x:V} {u:Value} (r:RelV x u):∀ {xs:List V} {us:List Value} (i:Nat),Vals xs us->Vals (xs.set i x) (us.set i u)
 | _,_,_,.nil=>.nil
 | _,_,0,.cons _ t=>.cons r t
 | _,_,i+1,.cons q t=>.cons q (Vals.set r i t)
theorem Vals.append:∀ {xs ys:List V} {us ws:List Value},Vals xs us->Vals ys ws->Vals (xs++ys) (us++ws)
 | _,_,_,_,.nil,s=>s
 | _,_,_,_,.cons r t,s=>.cons r (Vals.append t s)
theorem Vals.take:∀ {xs:List V} {us:List Value} (n:Nat),Vals xs us->Vals (xs.take n) (us.take n)
 | _,_,0,_=>.nil
 | _,_,_+1,.nil=>.nil
 | _,_,n+1,.cons r t=>.cons r (Vals.take n t)
theorem Vals.drop:∀ {xs:List V} {us:List Value} (n:Nat),Vals xs us->Vals (xs.drop n) (us.drop n)
 | _,_,0,r=>r
 | _,_,_+1,.nil=>.nil
 | _,_,n+1,.cons _ t=>Vals.drop n t
def eg:Option V->Option Value->Prop
 | some v,some u=>RelV v u
 | none,none=>True
 | _,_=>False
def KV {κ:Type}:List (κ×V)->List (κ×Value)->Prop:=Paired fun (p:κ×V) (q:κ×Value)=>p.1=q.1/\RelV p.2 q.2
def kV:Key->V
 | .inl i=>.int i
 | .inr x=>.str x
inductive HO where
 /-- a list -/
 | lst (xs:List V)
 /-- a tuple (never changes) -/
 | tup (xs:List V)
 /-- a dict whose keys are ints and texts; one whose keys are tuples of ints and texts (jt empty one is both) -/
 | dK (kvs:List (Key×V)) | dT (kvs:List (List Key×V))
 /-- a set of ints: aj members,aj size -/
 | set (S:Int->Bool) (n:Nat)
 /-- an instance of jt class at C,aj dict at dx,aj attributes -/
 | ins (C dx:Addr) (fs:List (Str×V))
 /-- jt dict of jt instance at x -/
 | own (x:Addr)
 /-- jt dict of an exception -/
 | xd (fs:List (Str×V))
 /-- a bound method,f of x -/
 | met (f x:Addr)
 /-- a range object lo,lo+1,.. below hi -/
 | vh (lo hi:Int)
 /-- a thing that is known to jt object (jt script; a dict while a loop walks it): read,never written while it is so -/
 | eA (o:Obj) (u:HO)
 /-- a code object's table -/
 | lY (ps:Array Value)
 /-- any other thing,by what is true of aj one object (a def of one's own: SetO a S n:=HO.ext fun h=>..) -/
 | ext (φ:Heap->Prop)
abbrev Hp:=Addr->Option HO
def upd (H:Hp) (a:Addr) (o:HO):Hp:=fun b=>if b=a then some o else H b
theorem ax {H:Hp} {a:Addr} {o:HO}:upd H a o a=some o:=by unfold upd; rw [if_pos rfl]
theorem ag {H:Hp} {a b:Addr} {o:HO} (h:b≠a):upd H a o b=H b:=by unfold upd; rw [if_neg h]
theorem lb {H:Hp} {a:Addr} {o u:HO}:upd (upd H a o) a u=upd H a u:=by
 funext b; unfold upd; split <;> rfl
theorem TB {H:Hp} {a b:Addr} {o u:HO} (h:H a=some o) (h':H b=some u) (d:o≠u):a≠b:=by
 intro e; subst e; rw [h] at h'; exact d (Option.some.inj h')
theorem fU {H:Hp} {a b:Addr} {o:HO} (h:H a=some o) (h':H b=none):a≠b:=by
 intro e; subst e; rw [h] at h'; cases h'
def zo (h:Heap) (a:Addr) (items:Array Value):Prop:=∃ o,h.get? a=some o/\o.cls=.type "tuple" /\ ∃ n,o.data=.seq items n/\o.dict=none
theorem zo.t {h:Heap} {a:Addr} {items:Array Value} (x:zo h a items):IsTup h a items:=let ⟨o,e,c,n,d,_⟩:=x; ⟨o,e,c,n,d⟩
section
variable (P:Program) (w:World)
def bH (H:Hp) (h:Heap) (a:Addr):HO->Prop
 | .lst xs=>xs.length<=sizeLine/\∃ (aj:List Value) (n:Nat),Vals xs aj/\h.get? a=some { cls:=.type "list",data:=.seq aj.toArray n }
 | .tup xs=>xs.length<=sizeLine/\∃ aj:List Value,Vals xs aj/\zo h a aj.toArray
 | .dK kvs=>kvs.length<=sizeLine/\(a == sysModules)=false/\∃ vs,KV kvs vs/\h.DictOf (en P w) a vs
 | .dT kvs=>kvs.length<=sizeLine/\(a == sysModules)=false/\∃ xs:List (List Key×Addr×Value),
   Paired (fun (p:List Key×V) (q:List Key×Addr×Value)=>p.1=q.1/\H q.2.1=some (.tup (p.1.map kV))/\RelV p.2 q.2.2) kvs xs /\
   ∃ o es ep,h.get? a=some o/\o.ExactDict/\o.data=.dict es ep/\es.toList=xs.map (entryOfKey (tupleKind (en P w)))/\(xs.map (·.1)).Nodup
 | .set S n=>h.SetOf (intKind P w) a S n
 | .ins C dx fs=>H dx=some (.own a)/\fs.length<=1000/\dx≠a/\h.get? a=some (PySem.W.instObj C dx) /\
   ∃ mA,h.Ns1 dx mA/\(∀ f,eg (fs.lookup f) (mA f))/\PySem.Within mA (fs.map (·.1))
 | .own _=>∃ o,h.get? a=some o
 | .xd fs=>∃ mA,h.Ns1 a mA/\∀ f,eg (fs.lookup f) (mA f)
 | .vh lo hi=>∃ t u v,h.get? a=some { cls:=.type "range",data:=.fields #[.int lo t,.int hi u,.int 1 v] }
 | .eA o u=>h.get? a=some o/\bH H h a u
 | .lY ps=>h.get? a=some { cls:=.none,data:=.fields ps }
 | .met f x=>h.get? a=some (PySem.W.methodObj (.ref f) (.ref x))
 | .ext φ=>φ h/\(∃ o,h.get? a=some o)/\∀ h1 h2:Heap,φ h1->(∀ o,h1.get? a=some o->h2.get? a=some o)->φ h2
def bZ (H:Hp) (h:Heap):Prop:=∀ a o,H a=some o->bH P w H h a o
end
section
variable {P:Program} {w:World} {H H':Hp} {h h':Heap} {a:Addr} {o:HO}
theorem bH.lt (x:bH P w H h a o):a < h.objs.size:=by
 cases o with
 | lst xs=>obtain ⟨_,_,_,_,e⟩:=x; exact Heap.lt_size e
 | tup xs=>obtain ⟨_,_,_,p⟩:=x; exact p.t.lt
 | dK kvs=>obtain ⟨_,_,_,_,o,_,_,e,_⟩:=x; exact Heap.lt_size e
 | dT kvs=>obtain ⟨_,_,_,_,o,_,_,e,_⟩:=x; exact Heap.lt_size e
 | set S n=>obtain ⟨o,_,_,_,e,_⟩:=x; exact Heap.lt_size e
 | ins C dx fs=>obtain ⟨_,_,_,e,_⟩:=x; exact Heap.lt_size e
 | own y=>obtain ⟨_,e⟩:=x; exact Heap.lt_size e
 | xd fs=>obtain ⟨_,⟨_,_,_,e,_⟩,_⟩:=x; exact Heap.lt_size e
 | vh lo hi=>obtain ⟨_,_,_,e⟩:=x; exact Heap.lt_size e
 | eA ob u=>obtain ⟨e,_⟩:=x; exact Heap.lt_size e
 | lY ps=>exact Heap.lt_size (show h.get? a=some _ from x)
 | met f y=>exact Heap.lt_size (show h.get? a=some _ from x)
 | ext φ=>obtain ⟨_,⟨_,e⟩,_⟩:=x; exact Heap.lt_size e
theorem Paired.Cz {α β:Type} {F G:α->β->Prop}:∀ {l₁:List α} {l₂:List β},Paired F l₁ l₂->(∀ a b,F a b->G a b)->Paired G l₁ l₂
 | _,_,.nil,_=>.nil
 | _,_,.cons r t,f=>.cons (f _ _ r) (Paired.Cz t f)
theorem bH.gg (x:bH P w H h a o) (k:∀ b u,(b=a\/H b=some (.own a))->h.get? b=some u->h'.get? b=some u)
  (ho:∀ b,H b=some (.own a)->H' b=some (.own a)) (ht:∀ b xs,H b=some (.tup xs)->H' b=some (.tup xs)):bH P w H' h' a o:=by
 induction o with
 | lst xs=>obtain ⟨z,aj,n,r,e⟩:=x; exact ⟨z,aj,n,r,k _ _ (.inl rfl) e⟩
 | tup xs=>obtain ⟨z,aj,r,ob,e,c⟩:=x; exact ⟨z,aj,r,ob,k _ _ (.inl rfl) e,c⟩
 | dK kvs=>obtain ⟨z,y,vs,r,ob,es,ep,e,c⟩:=x; exact ⟨z,y,vs,r,ob,es,ep,k _ _ (.inl rfl) e,c⟩
 | dT kvs =>
  obtain ⟨z,y,xs,r,ob,es,ep,e,c⟩:=x;exact ⟨z,y,xs,Paired.Cz r fun p q z=>⟨z.1,ht _ _ z.2.1,z.2.2⟩,ob,es,ep,k _ _ (.inl rfl) e,c⟩
 | set S n=>obtain ⟨ob,es,ep,t,e,c⟩:=x; exact ⟨ob,es,ep,t,k _ _ (.inl rfl) e,c⟩
 | ins C dx fs =>
  obtain ⟨d,z,ne,e,mA,⟨od,es,ep,e2,c⟩,r⟩:=x;exact ⟨ho _ d,z,ne,k _ _ (.inl rfl) e,mA,⟨od,es,ep,k _ _ (.inr d) e2,c⟩,r⟩
 | own y=>obtain ⟨ob,e⟩:=x; exact ⟨ob,k _ _ (.inl rfl) e⟩
 | xd fs=>obtain ⟨mA,⟨od,es,ep,e,c⟩,r⟩:=x; exact ⟨mA,⟨od,es,ep,k _ _ (.inl rfl) e,c⟩,r⟩
 | vh lo hi=>obtain ⟨t,u,v,e⟩:=x; exact ⟨t,u,v,k _ _ (.inl rfl) e⟩
 | eA ob u ih=>obtain ⟨e,q⟩:=x; exact ⟨k _ _ (.inl rfl) e,ih q⟩
 | lY ps =>
  have e:h.get? a=some { cls:=.none,data:=.fields ps }:=x;show h'.get? a=some { cls:=.none,data:=.fields ps };exact k a _ (.inl rfl) e
 | met f y =>
  have e:h.get? a=some (PySem.W.methodObj (.ref f) (.ref y)):=x;show h'.get? a=some (PySem.W.methodObj (.ref f) (.ref y));exact k a _ (.inl rfl) e
 | ext φ=>obtain ⟨p,⟨o,e⟩,st⟩:=x; exact ⟨st _ _ p fun o q=>k _ _ (.inl rfl) q,⟨o,k _ _ (.inl rfl) e⟩,st⟩
theorem bZ.lt (x:bZ P w H h) (e:H a=some o):a < h.objs.size:=(x a o e).lt
theorem bZ.fresh (x:bZ P w H h) (e:h.objs.size<=a):H a=none:=by
 cases q:H a with
 | none=>rfl
 | some u=>exact absurd (Nat.lt_of_lt_of_le (x.lt q) e) (Nat.lt_irrefl _)
theorem bZ.kept (x:bZ P w H h) (k:∀ b u,h.get? b=some u->h'.get? b=some u):bZ P w H h':=fun a o e =>
 (x a o e).gg (fun b u _ q=>k b u q) (fun _ q=>q) fun _ _ q=>q
theorem bZ.laid (x:bZ P w H h) (k:∀ b u,h.get? b=some u->h'.get? b=some u) (hp:h.objs.size<=a) (new:bH P w (upd H a o) h' a o):bZ P w (upd H a o) h':=fun b u e=>by
 have hn:=x.fresh hp;by_cases hb:b=a
 ·subst hb; rw [ax] at e; cases e; exact new
 ·rw [ag hb] at e;exact (x b u e).gg (fun c v _ q=>k c v q) (fun c q=>by rw [ag (fU q hn)]; exact q) fun c xs q=>by rw [ag (fU q hn)]; exact q
end
def Rd (H:Hp) (a:Addr) (u:HO):Prop:=H a=some u\/∃ o,H a=some (.eA o u)
theorem Rd.ok {P:Program} {w:World} {H:Hp} {h:Heap} {a:Addr} {u:HO} (r:Rd H a u) (x:bZ P w H h):bH P w H h a u:=by
 rcases r with r | ⟨o,r⟩
 ·exact x a u r
 ·obtain ⟨_,q⟩:=x a _ r;exact q
def tU:Option HO->Prop
 | some (.lst _)=>True
 | some (.dK _)=>True
 | some (.dT _)=>True
 | some (.set _ _)=>True
 | some (.ins _ _ _)=>True
 | some (.ext _)=>True
 | _=>False
section
variable {P:Program} {w:World} {H:Hp} {h h':Heap} {x e:Addr} {o':HO}
theorem bZ.write (ok:bZ P w H h) (mu:tU (H x)) (he:e=x\/H e=some (.own x)) (k:∀ b u,b≠e->h.get? b=some u->h'.get? b=some u) (qa:∃ u,h'.get? e=some u)
  (new:bH P w (upd H x o') h' x o'):bZ P w (upd H x o') h':=fun b u q=>by
 have Nq:∀ c y,H c=some (.own y)->c≠x:=fun c y r z=>by subst z; rw [r] at mu; exact mu
 have ntup:∀ c xs,H c=some (.tup xs)->c≠x:=fun c xs r z=>by subst z; rw [r] at mu; exact mu
 by_cases hb:b=x
 ·subst hb; rw [ax] at q; cases q; exact new
 ·rw [ag hb] at q;by_cases oj:b=e
  ·have q':H b=some (.own x):=by
    rcases he with z | z
    ·exact absurd (oj.trans z) hb
    ·rw [oj]; exact z
   rw [q] at q'; cases q';obtain ⟨v,hv⟩:=qa;exact ⟨v,by rw [oj]; exact hv⟩
  ·refine (ok b u q).gg (fun c v hc r=>k c v ?_ r) (fun c r=>by rw [ag (Nq c b r)]; exact r) fun c xs r=>by rw [ag (ntup c xs r)]; exact r
   rcases hc with rfl | hc
   ·exact oj
   ·rintro rfl;rcases he with z | z
    ·exact Nq c b hc z
    ·rw [hc] at z; cases z; exact hb rfl
end
structure Un (fs ex:List Addr) (H H':Hp) (h h':Heap):Prop where
 keep:∀ b o,h.get? b=some o->H b=none->b ∉ fs->b ∉ ex->h'.get? b=some o
 slot:∀ b o,h.get? b=some o->H b=none->b∈fs->b ∉ ex->∃ sl,h'.get? b=some { o with slots:=sl }
 free:∀ b o,h.get? b=some o->H b=none->b ∉ ex->H' b=none
 there:∀ b o,h.get? b=some o->b ∉ ex->∃ o',h'.get? b=some o'
 fS:∀ b xs,H b=some (.tup xs)->H' b=some (.tup xs)
 fg:∀ b o u,H b=some (.eA o u)->H' b=some (.eA o u)
 fH:∀ b ps,H b=some (.lY ps)->∃ more,H' b=some (.lY (ps++more))
section
variable {fs fs' ex ex':List Addr} {H H1 H2:Hp} {h h1 h2 h':Heap} {a x e:Addr} {o:HO}
theorem Un.any (u:Un fs ex H H1 h h1) {b:Addr} {ob:Obj} (q:h.get? b=some ob) (n:H b=none) (hx:b ∉ ex):∃ sl,h1.get? b=some { ob with slots:=sl }:=by
 by_cases hb:b∈fs
 ·exact u.slot b ob q n hb hx
 ·exact ⟨ob.slots,u.keep b ob q n hb hx⟩
theorem Un.kept (k:∀ b u,h.get? b=some u->h'.get? b=some u):Un fs ex H H h h' :=
 ⟨fun b ob q _ _ _=>k b ob q,fun b ob q _ _ _=>⟨ob.slots,k b ob q⟩,fun _ _ _ n _=>n,fun b ob q _=>⟨ob,k b ob q⟩,fun _ _ q=>q,fun _ _ _ q=>q,fun _ ps q=>⟨#[],by rw [q]; simp⟩⟩
theorem Un.refl:Un fs ex H H h h:=Un.kept fun _ _ q=>q
theorem Un.laid (k:∀ b u,h.get? b=some u->h'.get? b=some u) (hp:h.objs.size<=a) (hn:H a=none):Un fs ex H (upd H a o) h h' where
 keep:=fun b u q _ _ _=>k b u q
 slot:=fun b u q _ _ _=>⟨u.slots,k b u q⟩
 free:=fun b u q n _=>by rw [ag (Nat.ne_of_lt (Nat.lt_of_lt_of_le (Heap.lt_size q) hp))]; exact n
 there:=fun b u q _=>⟨u,k b u q⟩
 fS:=fun b xs q=>by rw [ag (fU q hn)]; exact q
 fg:=fun b u xs q=>by rw [ag (fU q hn)]; exact q
 fH:=fun b ps q=>⟨#[],by rw [ag (fU q hn),q]; simp⟩
theorem Un.write (mu:tU (H x)) (he:e=x\/H e=some (.own x)) (k:∀ b u,b≠e->h.get? b=some u->h'.get? b=some u) (qa:∃ u,h'.get? e=some u):Un fs ex H (upd H x o) h h':=by
 have hx:∀ b,H b=none->b≠x:=fun b n z=>by subst z; rw [n] at mu; exact mu
 have hb:∀ b,H b=none->b≠e:=fun b n z=>by
  subst z;rcases he with r | r
  ·exact hx b n r
  ·rw [n] at r; cases r
 have hm:∀ b u,H b=some u->¬ tU (some u)->b≠x:=fun b u q nm z=>by subst z; rw [q] at mu; exact nm mu
 refine ⟨fun b u q n _ _=>k b u (hb b n) q,fun b u q n _ _=>⟨u.slots,k b u (hb b n) q⟩,fun b u q n _=>by rw [ag (hx b n)]; exact n,fun b u q _=>?_,
  fun b xs q=>by rw [ag (hm b _ q fun z=>z)]; exact q,fun b u xs q=>by rw [ag (hm b _ q fun z=>z)]; exact q,fun b ps q=>⟨#[],by rw [ag (hm b _ q fun z=>z),q]; simp⟩⟩
 by_cases oj:b=e
 ·subst oj; exact qa
 ·exact ⟨u,k b u oj q⟩
end
def wu (h:Heap) (H:Hp):List Addr:=(List.range h.objs.size).filter fun a=>(H a).isSome
def iK (h:Heap) (H:Hp):Heap:=PySem.W.hideAll h (wu h H)
theorem Yi (h:Heap) (H:Hp):(iK h H).objs.size=h.objs.size:=PySem.W.hideAll_size _ _
theorem P7 {h:Heap} {H:Hp} {b:Addr} {o:Obj} (e:h.get? b=some o) (n:H b=none):(iK h H).get? b=some o :=
 PySem.W.hideAll_get _ e fun hm=>by
  have q:(H b).isSome=true:=(List.mem_filter.mp hm).2;rw [n] at q; simp at q
theorem Xi {h:Heap} {H:Hp} {b:Addr} {o:Obj} (e:(iK h H).get? b=some o):h.get? b=some o/\H b=none:=by
 have e':h.get? b=some o:=PySem.W.of_hideAll (wu h H) e;refine ⟨e',?_⟩;cases q:H b with
 | none=>rfl
 | some x =>
  have hm:b∈wu h H:=List.mem_filter.mpr ⟨List.mem_range.mpr (Heap.lt_size e'),by simp [q]⟩;have z:(iK h H).get? b=none:=PySem.W.hideAll_none (wu h H) hm;rw [z] at e; cases e
def Qi (g h:Heap) (L:Addr):List (Addr×Obj):=(List.range h.objs.size).filterMap fun a=>if a=L\/(g.get? a).isSome=true then none else (h.get? a).map fun o=>(a,o)
def rest (g h:Heap) (L d:Addr):List (Addr×Obj):=(Qi g h L).filter fun p=>decide (p.1≠d)
structure Mod (K:PySem.W.Frag) (mg:Str->Option Value) (base:Heap):Prop where
 hV:K.In base
 glob:base.Ns mainGlobals mg
 blt:∃ mb,base.Ns builtinsNs mb/\∀ x:Str,x ≠ "__name__" -> mb x=bootBuiltins x
 nolimit:base.NoLimit
structure Cx where
 prog:Program
 w:World
 K:PySem.W.Frag
 mg:Str->Option Value
 base:Heap
 A:Around
 N:List Str
 s₀:Shared
 H₀:Hp
 env:Env
 outer:List Env
 stack:List Env
 ex:List Addr
 fn:Str->Bool
 calm:Bool
 pn:List (Addr×Obj)
 xe:Value->Shared->Prop
def bF (l:List Env):List Addr:=l.filterMap (·.frame)
abbrev Cx.fs (X:Cx):List Addr:=bF X.outer
def lE (sc:Scope) (x:Str):Prop:=sc.names.lookup x=some .local\/sc.names.lookup x=some .cell\/sc.names.lookup x=some .free
def Loc (sc:Scope) (x:Str):Prop:=sc.names.lookup x=some .local\/sc.names.lookup x=some .cell
def Look (env:Env) (h:Heap) (m:Str->Option Value) (x:Str) (u:Value):Prop :=
 (env.kindOf x=some .local/\m x=some u)\/((env.kindOf x=some .cell\/env.kindOf x=some .free)/\∃ c,env.cells.lookup x=some c/\h.IsCell c (some u))
structure Cx.Ok (X:Cx):Prop where
 mod:Mod X.K X.mg X.base
 kind:X.env.scope.kind=.function
 glob:X.env.globals=mainGlobals
 blt:X.env.builtins=builtinsNs
 above:X.s₀.heap.objs.size<=X.env.locals
 inj:∀ x y c,X.env.cells.lookup x=some c->X.env.cells.lookup y=some c->x=y
 has:∀ x,(X.env.kindOf x=some .cell\/X.env.kindOf x=some .free)->∃ c,X.env.cells.lookup x=some c
 km:∀ x c,X.fn x=true->X.env.cells.lookup x=some c->X.s₀.heap.objs.size<=c
 hd:X.calm=true->X.A.handled=none
 frames:X.A.frames=some X.stack
 df:X.stack=X.outer\/(X.stack=X.env::X.outer/\X.env.frame=some X.env.locals)
 rJ:∀ b∈X.ex,b≠X.env.locals/\∀ x c,X.env.cells.lookup x=some c->c≠b
 bs:∀ b o,X.base.get? b=some o->X.s₀.heap.get? b=some o/\X.H₀ b=none
 gy:X.base.objs.size<=X.s₀.heap.objs.size
 lV:∀ b o,X.base.get? b=some o->b ∉ X.ex
 lZ:∀ b∈X.ex,b ∉ X.fs
 eU:X.s₀.heap.FunFrames X.base X.outer
 iL:∀ b∈X.fs,X.H₀ b=none
structure Inv (X:Cx) (pins:List (Addr×Obj)) (σ:List (Option V)) (H:Hp) (s:Shared):Prop where
 ok:X.Ok
 os:s.os=X.s₀.os
 bare:AllBare s.gens
 base:Un X.fs X.ex X.H₀ H X.s₀.heap s.heap
 loc:∃ m,s.heap.Ns X.env.locals m/\∀ (i:Nat) (x:Str) (v:V),X.N[i]?=some x->σ[i]?=some (some v)->lE X.env.scope x->∃ u,RelV v u/\Look X.env s.heap m x u
 cell:∀ x c,X.env.cells.lookup x=some c->∃ v,s.heap.IsCell c v
 free:H X.env.locals=none
 eT:∀ x c,X.env.cells.lookup x=some c->H c=none
 pin:∀ p∈X.pn++pins,s.heap.get? p.1=some p.2/\H p.1=none/\p.1≠X.env.locals/\p.1 ∉ X.fs/\∀ v,p.2.data≠.cell v
 aA:bZ X.prog X.w H s.heap
 len:σ.length=X.N.length
section
variable {X:Cx} {pins:List (Addr×Obj)} {σ:List (Option V)} {H H':Hp} {s:Shared} {h':Heap}
theorem Cx.Ok.Qz (ok:X.Ok) {b:Addr} {o:Obj} (e:X.base.get? b=some o):b ∉ X.fs:=fun hb=>by
 have:=(ok.eU.mem hb).1;rw [e] at this; cases this
theorem Inv.bs (I:Inv X pins σ H s):∀ b o,X.base.get? b=some o->s.heap.get? b=some o/\H b=none:=fun b o e =>
 ⟨I.base.keep b o (I.ok.bs b o e).1 (I.ok.bs b o e).2 (I.ok.Qz e) (I.ok.lV b o e),I.base.free b o (I.ok.bs b o e).1 (I.ok.bs b o e).2 (I.ok.lV b o e)⟩
theorem Inv.bk (I:Inv X pins σ H s):∀ b o,X.base.get? b=some o->s.heap.get? b=some o:=fun b o e=>(I.bs b o e).1
theorem Inv.mod (I:Inv X pins σ H s):Mod X.K X.mg X.base:=I.ok.mod
theorem Inv.bT (I:Inv X pins σ H s):X.K.In s.heap:=I.ok.mod.hV.keeps I.bk
theorem Inv.lt (I:Inv X pins σ H s):X.env.locals < s.heap.objs.size:=let ⟨_,hn,_⟩:=I.loc; hn.lt
theorem Inv.sz (I:Inv X pins σ H s):X.s₀.heap.objs.size<=s.heap.objs.size:=Nat.le_trans I.ok.above (Nat.le_of_lt I.lt)
theorem Inv.GI (I:Inv X pins σ H s) {a:Addr} (h:s.heap.objs.size<=a):a ∉ X.fs:=fun hb=>by
 obtain ⟨_,o,ho,_⟩:=I.ok.eU.mem hb;exact absurd (Nat.lt_of_lt_of_le (Heap.lt_size ho) (Nat.le_trans I.sz h)) (Nat.lt_irrefl _)
theorem Inv.ja (I:Inv X pins σ H s):∀ x c,X.env.cells.lookup x=some c->c≠X.env.locals:=fun x c e z=>by
 obtain ⟨v,o,ho,hd⟩:=I.cell x c e;obtain ⟨m,⟨o',es,ep,ho',hd',_⟩,_⟩:=I.loc;rw [z,ho'] at ho; cases ho; rw [hd'] at hd; cases hd
theorem Inv.eU (I:Inv X pins σ H s):s.heap.FunFrames X.base X.outer:=by
 have all:∀ (l:List Env),(∀ b∈bF l,b∈X.fs)->X.s₀.heap.FunFrames X.base l->s.heap.FunFrames X.base l:=by
  intro l
  induction l with
  | nil=>intro _ _; trivial
  | cons env r ih =>
   intro hs hl;obtain ⟨hk,⟨L,o,hf,hn,ho,hd⟩,hr⟩:=hl;have hL:L∈X.fs:=hs L (by unfold bF; rw [List.filterMap_cons,hf]; exact List.mem_cons_self);obtain ⟨sl,e⟩:=I.base.slot L o ho (I.ok.iL L hL) hL fun z=>I.ok.lZ L z hL;exact ⟨hk,⟨L,_,hf,hn,e,hd⟩,ih (fun b hb=>hs b (by unfold bF; rw [List.filterMap_cons,hf]; exact List.mem_cons_of_mem _ hb)) hr⟩
 exact all X.outer (fun _ hb=>hb) I.ok.eU
theorem Inv.stack (I:Inv X pins σ H s):s.heap.FunFrames X.base X.stack:=by
 rcases I.ok.df with e | ⟨e,hf⟩
 ·rw [e]; exact I.eU
 ·rw [e];obtain ⟨m,hn,_⟩:=I.loc;refine .cons (by rw [I.ok.kind]; decide) hf hn ?_ I.eU;exact Heap.get?_none_of_le (Nat.le_trans I.ok.gy I.ok.above)
theorem Inv.rX (I:Inv X pins σ H s):∀ b∈bF X.stack,b∈X.env.locals::X.fs:=fun b hb=>by
 rcases I.ok.df with e | ⟨e,hf⟩
 ·rw [e] at hb; exact List.mem_cons_of_mem _ hb
 ·rw [e] at hb;unfold bF at hb;rw [List.filterMap_cons,hf] at hb;exact hb
theorem Inv.uG (I:Inv X pins σ H s):∀ b∈bF X.stack,H b=none:=fun b hb=>by
 rcases List.mem_cons.mp (I.rX b hb) with e | hb
 ·rw [e]; exact I.free
 ·obtain ⟨_,o,ho,_⟩:=I.ok.eU.mem hb;exact I.base.free b o ho (I.ok.iL b hb) fun z=>I.ok.lZ b z hb
theorem Inv.step {g':Array GenState} {t':Nat} {d':Drawn} {ch:List Addr} (I:Inv X pins σ H s)
  (jz:∀ b∈ch,(b∈X.ex\/X.s₀.heap.objs.size<=b)/\b≠X.env.locals/\(∀ x c,X.env.cells.lookup x=some c->c≠b)/\∀ p∈X.pn++pins,p.1≠b)
  (keep:∀ b o,b≠X.env.locals->b ∉ X.fs->b ∉ ch->s.heap.get? b=some o->H b=none->h'.get? b=some o)
  (slot:∀ b o,b≠X.env.locals->b∈X.fs->b ∉ ch->s.heap.get? b=some o->H b=none->∃ sl,h'.get? b=some { o with slots:=sl }) (free:∀ b o,b ∉ ch->s.heap.get? b=some o->H b=none->H' b=none)
  (there:∀ b o,b ∉ ch->s.heap.get? b=some o->∃ o',h'.get? b=some o')
  (fS:∀ b xs,H b=some (.tup xs)->H' b=some (.tup xs)) (fg:∀ b o u,H b=some (.eA o u)->H' b=some (.eA o u)) (fH:∀ b ps,H b=some (.lY ps)->∃ more,H' b=some (.lY (ps++more)))
  (ns:∀ m,s.heap.Ns X.env.locals m->h'.Ns X.env.locals m) (aA:bZ X.prog X.w H' h') (hg:AllBare g') :
  Inv X pins σ H' { s with heap:=h',gens:=g',drawn:=d',toks:=t' }:=by
 have ub:∀ b o,X.s₀.heap.get? b=some o->b≠X.env.locals:=fun b o e=>Nat.ne_of_lt (Nat.lt_of_lt_of_le (Heap.lt_size e) I.ok.above);have xT:∀ b o,X.s₀.heap.get? b=some o->b ∉ X.ex->b ∉ ch:=fun b o e hx hb=>by
  rcases (jz b hb).1 with z | z
  ·exact hx z
  ·exact absurd (Nat.lt_of_lt_of_le (Heap.lt_size e) z) (Nat.lt_irrefl _)
 have cellK:∀ x c,X.env.cells.lookup x=some c->∀ v,s.heap.IsCell c v->h'.IsCell c v:=fun x c e v ⟨o,ho,hd⟩=>by
  have ug:c ∉ ch:=fun z=>(jz c z).2.2.1 x c e rfl;by_cases hc:c∈X.fs
  ·obtain ⟨sl,q⟩:=slot c o (I.ja x c e) hc ug ho (I.eT x c e);exact ⟨_,q,hd⟩
  ·exact ⟨o,keep c o (I.ja x c e) hc ug ho (I.eT x c e),hd⟩
 refine ⟨I.ok,I.os,hg,⟨fun b o e n hb hx=>?_,fun b o e n hb hx=>?_,fun b o e n hx=>?_,fun b o e hx=>?_,fun b xs e=>fS b xs (I.base.fS b xs e),fun b o xs e=>fg b o xs (I.base.fg b o xs e),fun b ps e=>?_⟩,?_,fun x c e=>?_,?_,fun x c e=>?_,fun p hp=>?_,aA,I.len⟩
 ·exact keep b o (ub b o e) hb (xT b o e hx) (I.base.keep b o e n hb hx) (I.base.free b o e n hx)
 ·obtain ⟨sl,e1⟩:=I.base.slot b o e n hb hx;obtain ⟨sl',e2⟩:=slot b _ (ub b o e) hb (xT b o e hx) e1 (I.base.free b o e n hx);exact ⟨sl',e2⟩
 ·obtain ⟨o',e1⟩:=I.base.there b o e hx;exact free b o' (xT b o e hx) e1 (I.base.free b o e n hx)
 ·obtain ⟨o',e1⟩:=I.base.there b o e hx;exact there b o' (xT b o e hx) e1
 ·obtain ⟨m1,e1⟩:=I.base.fH b ps e;obtain ⟨m2,e2⟩:=fH b _ e1;exact ⟨m1++m2,by rw [e2,Array.append_assoc]⟩
 ·obtain ⟨m,hn,hl⟩:=I.loc;refine ⟨m,ns m hn,fun i x v e1 e2 e3=>?_⟩;obtain ⟨u,r,l⟩:=hl i x v e1 e2 e3;refine ⟨u,r,?_⟩;rcases l with l | ⟨k,c,e,z⟩
  ·exact .inl l
  ·exact .inr ⟨k,c,e,cellK x c e _ z⟩
 ·obtain ⟨v,z⟩:=I.cell x c e;exact ⟨v,cellK x c e v z⟩
 ·obtain ⟨m,⟨o,_,_,ho,_⟩,_⟩:=I.loc;exact free _ o (fun z=>(jz _ z).2.1 rfl) ho I.free
 ·obtain ⟨v,o,ho,hd⟩:=I.cell x c e;exact free c o (fun z=>(jz c z).2.2.1 x c e rfl) ho (I.eT x c e)
 ·obtain ⟨e,n,ne,nf,d⟩:=I.pin p hp;have ug:p.1 ∉ ch:=fun z=>(jz p.1 z).2.2.2 p hp rfl;exact ⟨keep p.1 p.2 ne nf ug e n,free p.1 p.2 ug e n,ne,nf,d⟩
theorem Inv.un {t':Nat} (I:Inv X pins σ H s) (u:Un X.fs [] H H' s.heap h') (aA:bZ X.prog X.w H' h'):Inv X pins σ H' { s with heap:=h',toks:=t' }:=by
 obtain ⟨m,⟨o,es,ep,ho,r⟩,_⟩:=id I.loc;obtain ⟨sl,hL⟩:=u.any ho I.free (by simp);exact I.step (g':=s.gens) (d':=s.drawn) (ch:=[]) (fun _ z=>nomatch z) (fun b o _ hb _ e n=>u.keep b o e n hb (by simp)) (fun b o _ hb _ e n=>u.slot b o e n hb (by simp)) (fun b o _ e n=>u.free b o e n (by simp)) (fun b o _ e=>u.there b o e (by simp)) u.fS u.fg u.fH (fun m' hm=>by
  obtain ⟨o',es',ep',ho',r'⟩:=hm;rw [ho] at ho'; cases ho';exact ⟨_,es',ep',hL,r'⟩) aA I.bare
theorem Inv.call {g':Array GenState} {t':Nat} {d':Drawn} {ch:List Addr} (I:Inv X pins σ H s) (u:Un (bF X.stack) ch H H' s.heap h') (aA:bZ X.prog X.w H' h') (hg:AllBare g')
  (jz:∀ b∈ch,(b∈X.ex\/X.s₀.heap.objs.size<=b)/\b≠X.env.locals/\(∀ x c,X.env.cells.lookup x=some c->c≠b)/\∀ p∈X.pn++pins,p.1≠b) :
  Inv X pins σ H' { s with heap:=h',gens:=g',drawn:=d',toks:=t' }:=by
 obtain ⟨m,⟨o,es,ep,ho,r⟩,_⟩:=id I.loc;obtain ⟨sl,hL⟩:=u.any ho I.free fun z=>(jz _ z).2.1 rfl;exact I.step (ch:=ch) jz (fun b o hL hb hc e n=>u.keep b o e n (fun z=>(List.mem_cons.mp (I.rX b z)).elim hL hb) hc) (fun b o _ _ hc e n=>u.any e n hc) (fun b o hc e n=>u.free b o e n hc) (fun b o hc e=>u.there b o e hc) u.fS u.fg u.fH (fun m' hm=>by
  obtain ⟨o',es',ep',ho',r'⟩:=hm;rw [ho] at ho'; cases ho';exact ⟨_,es',ep',hL,r'⟩) aA hg
theorem Inv.turned {t':Nat} {it:Addr} (I:Inv X pins σ H s) (k:∀ b o,b≠it->s.heap.get? b=some o->h'.get? b=some o) (hn:H it=none) (hL:it≠X.env.locals)
  (h1:it∈X.ex\/X.s₀.heap.objs.size<=it) (h2:∀ x c,X.env.cells.lookup x=some c->c≠it) (h3:∀ p∈X.pn++pins,p.1≠it):Inv X pins σ H { s with heap:=h',toks:=t' }:=by
 have MG:∀ b u,H b=some u->b≠it:=fun b u e z=>by rw [z,hn] at e; cases e
 refine I.step (g':=s.gens) (d':=s.drawn) (ch:=[it]) (fun b hb=>?_) (fun b o _ _ hc e _=>k b o (fun z=>hc (by simp [z])) e) (fun b o _ _ hc e _=>⟨o.slots,k b o (fun z=>hc (by simp [z])) e⟩) (fun _ _ _ _ n=>n)
  (fun b o hc e=>⟨o,k b o (fun z=>hc (by simp [z])) e⟩) (fun _ _ e=>e) (fun _ _ _ e=>e) (fun b ps e=>⟨#[],by rw [e]; simp⟩) (fun m hm=>?_) (fun b u e=>?_) I.bare
 ·have e:b=it:=by simpa using hb
  subst e;exact ⟨h1,hL,h2,h3⟩
 ·obtain ⟨o,es,ep,ho,r⟩:=hm;exact ⟨o,es,ep,k _ o (Ne.symm hL) ho,r⟩
 ·refine (I.aA b u e).gg (fun c v hc q=>k c v ?_ q) (fun _ q=>q) fun _ _ q=>q;rcases hc with z | z
  ·rw [z]; exact MG b u e
  ·exact MG c _ z
theorem Inv.tok (I:Inv X pins σ H s) (t:Nat):Inv X pins σ H { s with toks:=t }:=I.un (h':=s.heap) (t':=t) Un.refl I.aA
theorem Inv.kept {t':Nat} (I:Inv X pins σ H s) (k:∀ b u,s.heap.get? b=some u->h'.get? b=some u):Inv X pins σ H { s with heap:=h',toks:=t' }:=I.un (Un.kept k) (I.aA.kept k)
theorem Inv.laid {a:Addr} {o:HO} {t':Nat} (I:Inv X pins σ H s) (k:∀ b u,s.heap.get? b=some u->h'.get? b=some u) (hp:s.heap.objs.size<=a) (new:bH X.prog X.w (upd H a o) h' a o) :
  Inv X pins σ (upd H a o) { s with heap:=h',toks:=t' }:=I.un (Un.laid k hp (I.aA.fresh hp)) (I.aA.laid k hp new)
theorem Inv.write {x e:Addr} {o:HO} {t':Nat} (I:Inv X pins σ H s) (mu:tU (H x)) (he:e=x\/H e=some (.own x)) (k:∀ b u,b≠e->s.heap.get? b=some u->h'.get? b=some u) (qa:∃ u,h'.get? e=some u)
  (new:bH X.prog X.w (upd H x o) h' x o):Inv X pins σ (upd H x o) { s with heap:=h',toks:=t' }:=I.un (Un.write mu he k qa) (I.aA.write mu he k qa new)
theorem Inv.sC {pins':List (Addr×Obj)} (I:Inv X pins σ H s) (h:∀ p∈pins',s.heap.get? p.1=some p.2/\H p.1=none/\p.1≠X.env.locals/\p.1 ∉ X.fs/\∀ v,p.2.data≠.cell v):Inv X pins' σ H s :=
 ⟨I.ok,I.os,I.bare,I.base,I.loc,I.cell,I.free,I.eT,fun p hp=>(List.mem_append.mp hp).elim (fun z=>I.pin p (List.mem_append_left _ z)) (h p),I.aA,I.len⟩
theorem As {N:List Str} (hN:N.Nodup) {i j:Nat} {x:Str} (a:N[i]?=some x) (b:N[j]?=some x):i=j:=by
 obtain ⟨h1,e1⟩:=List.getElem?_eq_some_iff.mp a;obtain ⟨h2,e2⟩:=List.getElem?_eq_some_iff.mp b;exact (List.getElem_inj hN).mp (e1.trans e2.symm)
theorem Ib {M:Model} {A:Around} {E:Value->Shared->Prop} {i:Nat} {x:Str} {v:V} {u:Value} {Q:Unit->Shared->Prop} (I:Inv X pins σ H s) (hN:X.N.Nodup) (hi:X.N[i]?=some x) (hx:Loc X.env.scope x) (r:RelV v u)
  (h:∀ s',Inv X pins (σ.set i (some v)) H s'->(∃ a,Heap.SameBut a s.heap s'.heap/\(a=X.env.locals\/X.env.cells.lookup x=some a))->Q () s') (hf:X.fn x=true\/X.env.scope.names.lookup x=some .local:=by first | exact .inl rfl | exact .inr rfl | assumption):wpAny M A (storeName X.env x u) Q E s:=by
 obtain ⟨m,hn,hl⟩:=id I.loc;have DR:(X.env.scope.kind == .class || (X.env.scope.kind == .module && X.env.locals != X.env.globals))=false:=by rw [I.ok.kind]; rfl
 have MC:i < σ.length:=by rw [I.len]; exact (List.getElem?_eq_some_iff.mp hi).1
 have ja:=I.ja;have tracked:∀ {a:Addr} {h':Heap},(∃ o,s.heap.get? a=some o/\H a=none)->Heap.SameBut a s.heap h'->bZ X.prog X.w H h':=fun {a h'} ha hs b ob e=>by
  obtain ⟨_,_,mz⟩:=ha;refine (I.aA b ob e).gg (fun c w' hc q=>(hs.2 c ?_).trans q) (fun _ q=>q) fun _ _ q=>q;rintro rfl;rcases hc with rfl | hc
  ·rw [mz] at e; cases e
  ·rw [mz] at hc; cases hc
 rcases hx with hk | hk
 ·refine wpAny_storeName_local hk hn (fun h' hn' hs=>?_) DR;obtain ⟨oL,_,_,gM,_⟩:=id hn;refine h _ ⟨I.ok,I.os,I.bare,⟨fun b o e n hb hx=>?_,fun b o e n hb hx=>?_,I.base.free,fun b o e hx=>?_,I.base.fS,I.base.fg,I.base.fH⟩,⟨_,hn',fun j y v' e1 e2 e3=>?_⟩,fun y c e=>?_,I.free,I.eT,fun p hp=>?_,tracked ⟨oL,gM,I.free⟩ hs,by simpa using I.len⟩ ⟨_,hs,.inl rfl⟩
  ·exact (hs.2 b (Nat.ne_of_lt (Nat.lt_of_lt_of_le (Heap.lt_size e) I.ok.above))).trans (I.base.keep b o e n hb hx)
  ·obtain ⟨sl,e1⟩:=I.base.slot b o e n hb hx;exact ⟨sl,(hs.2 b (Nat.ne_of_lt (Nat.lt_of_lt_of_le (Heap.lt_size e) I.ok.above))).trans e1⟩
  ·obtain ⟨o',e1⟩:=I.base.there b o e hx;exact ⟨o',(hs.2 b (Nat.ne_of_lt (Nat.lt_of_lt_of_le (Heap.lt_size e) I.ok.above))).trans e1⟩
  ·by_cases hj:j=i
   ·subst hj;rw [hi] at e1; cases e1;rw [List.getElem?_set_self MC] at e2;cases e2;exact ⟨u,r,.inl ⟨hk,by simp⟩⟩
   ·rw [List.getElem?_set_ne (Ne.symm hj)] at e2;obtain ⟨u',r',q⟩:=hl j y v' e1 e2 e3;refine ⟨u',r',?_⟩;rcases q with ⟨k,e⟩ | ⟨k,c,e,z⟩
    ·refine .inl ⟨k,?_⟩;have:y≠x:=fun e=>hj (As hN e1 (e ▸ hi));simp [this,e]
    ·exact .inr ⟨k,c,e,z.sameBut hs (ja y c e)⟩
  ·obtain ⟨w',z⟩:=I.cell y c e;exact ⟨w',z.sameBut hs (ja y c e)⟩
  ·obtain ⟨e,n,ne,nf,d⟩:=I.pin p hp;exact ⟨(hs.2 p.1 ne).trans e,n,ne,nf,d⟩
 ·have nQ:X.fn x=true:=by
   rcases hf with z | z
   ·exact z
   ·rw [z] at hk; cases hk
  obtain ⟨c,hc⟩:=I.ok.has x (.inl hk);obtain ⟨w',z⟩:=I.cell x c hc;refine wpAny_storeName_cell I.ok.kind hk hc z (fun h' hc' hs=>?_);obtain ⟨oc,MN,hocd⟩:=id z;refine h { s with heap:=h' } ⟨I.ok,I.os,I.bare,⟨fun b o e n hb hx=>?_,fun b o e n hb hx=>?_,I.base.free,fun b o e hx=>?_,I.base.fS,I.base.fg,I.base.fH⟩,⟨m,hn.sameBut hs (Ne.symm (ja x c hc)),fun j y v' e1 e2 e3=>?_⟩,fun y c' e=>?_,I.free,I.eT,fun p hp=>?_,tracked ⟨oc,MN,I.eT x c hc⟩ hs,by simpa using I.len⟩ ⟨c,hs,.inr hc⟩
  ·exact (hs.2 b (Nat.ne_of_lt (Nat.lt_of_lt_of_le (Heap.lt_size e) (I.ok.km x c nQ hc)))).trans (I.base.keep b o e n hb hx)
  ·obtain ⟨sl,e1⟩:=I.base.slot b o e n hb hx;exact ⟨sl,(hs.2 b (Nat.ne_of_lt (Nat.lt_of_lt_of_le (Heap.lt_size e) (I.ok.km x c nQ hc)))).trans e1⟩
  ·obtain ⟨o',e1⟩:=I.base.there b o e hx;exact ⟨o',(hs.2 b (Nat.ne_of_lt (Nat.lt_of_lt_of_le (Heap.lt_size e) (I.ok.km x c nQ hc)))).trans e1⟩
  ·by_cases hj:j=i
   ·subst hj;rw [hi] at e1; cases e1;rw [List.getElem?_set_self MC] at e2;cases e2;exact ⟨u,r,.inr ⟨.inl hk,c,hc,hc'⟩⟩
   ·rw [List.getElem?_set_ne (Ne.symm hj)] at e2;obtain ⟨u',r',q⟩:=hl j y v' e1 e2 e3;refine ⟨u',r',?_⟩;rcases q with q | ⟨k,c',e,z'⟩
    ·exact .inl q
    ·refine .inr ⟨k,c',e,z'.sameBut hs ?_⟩;rintro rfl;exact hj (As hN e1 (I.ok.inj _ _ _ e hc ▸ hi))
  ·by_cases xI:c'=c
   ·subst xI; exact ⟨_,hc'⟩
   ·obtain ⟨w2,z2⟩:=I.cell y c' e;exact ⟨w2,z2.sameBut hs xI⟩
  ·obtain ⟨e,n,ne,nf,d⟩:=I.pin p hp;refine ⟨(hs.2 p.1 ?_).trans e,n,ne,nf,d⟩;intro q;rw [q,MN] at e;have q':oc=p.2:=Option.some.inj e;exact d w' (by rw [<- q']; exact hocd)
theorem BW {M:Model} {A:Around} {E:Value->Shared->Prop} {i:Nat} {x:Str} {v:V} {u:Value} {Q:Unit->Shared->Prop} (I:Inv X pins σ H s) (hN:X.N.Nodup) (hi:X.N[i]?=some x) (hx:Loc X.env.scope x) (r:RelV v u)
  (h:∀ s',Inv X pins (σ.set i (some v)) H s'->Q () s') (hf:X.fn x=true\/X.env.scope.names.lookup x=some .local:=by first | exact .inl rfl | exact .inr rfl | assumption):wpAny M A (storeName X.env x u) Q E s :=
 Ib I hN hi hx r (fun s' I' _=>h s' I') hf
theorem Inv.FY {s':Shared} {ch:List Addr} (I:Inv X pins σ H s) (ho:s'.os=s.os) (u:Un (bF X.stack) ch H H' s.heap s'.heap) (aA:bZ X.prog X.w H' s'.heap) (hg:AllBare s'.gens)
  (jz:∀ b∈ch,(b∈X.ex\/X.s₀.heap.objs.size<=b)/\b≠X.env.locals/\(∀ x c,X.env.cells.lookup x=some c->c≠b)/\∀ p∈X.pn++pins,p.1≠b):Inv X pins σ H' s':=by
 obtain ⟨h',g',d',t',o'⟩:=s';have e:o'=s.os:=ho;subst e;exact I.call (g':=g') (t':=t') (d':=d') u aA hg jz
end
abbrev XK:=Value->Option Addr->Hp->Prop
abbrev St:=List (Option V)
abbrev VK:=V->Hp->Prop
abbrev TE:=St->Hp->VK->Prop
abbrev TT:=St->Hp->(Bool->Hp->Prop)->Prop
abbrev TA:=St->Hp->(List V->Hp->Prop)->Prop
structure Ends where
 nx:St->Hp->Prop
 rt:VK
 bk:St->Hp->Prop:=fun _ _=>False
 ct:St->Hp->Prop:=fun _ _=>False
abbrev TS:=Ends->St->Hp->Prop
def EP (X:Cx) (pins:List (Addr×Obj)) (σ:St) (Q:VK) (u:Value) (s':Shared):Prop:=∃ v H',Inv X pins σ H' s'/\RelV v u/\Q v H'
def TP (X:Cx) (pins:List (Addr×Obj)) (σ:St) (Q:Bool->Hp->Prop) (b:Bool) (s':Shared):Prop:=∃ H',Inv X pins σ H' s'/\Q b H'
def AP (X:Cx) (pins:List (Addr×Obj)) (σ:St) (Q:List V->Hp->Prop) (us:List Value) (s':Shared):Prop:=∃ vs H',Inv X pins σ H' s'/\Vals vs us/\Q vs H'
def SP (X:Cx) (pins:List (Addr×Obj)) (D:Ends) (f:Flow) (s':Shared):Prop :=
 match f with
 | .next=>∃ σ' H',Inv X pins σ' H' s'/\D.nx σ' H'
 | .brk=>∃ σ' H',Inv X pins σ' H' s'/\D.bk σ' H'
 | .cont=>∃ σ' H',Inv X pins σ' H' s'/\D.ct σ' H'
 | .ret u=>∃ v σ' H',Inv X pins σ' H' s'/\RelV v u/\D.rt v H'
def PE (X:Cx) (e:Expr) (t:TE):Prop :=
 ∀ (pins:List (Addr×Obj)) (s:Shared) (σ:St) (H:Hp) (Q:VK),Inv X pins σ H s->t σ H Q->wpAny (model X.prog X.w) X.A (eval e X.env) (EP X pins σ Q) X.xe s
def PT (X:Cx) (e:Expr) (t:TT):Prop :=
 ∀ (pins:List (Addr×Obj)) (s:Shared) (σ:St) (H:Hp) (Q:Bool->Hp->Prop),Inv X pins σ H s->t σ H Q->wpAny (model X.prog X.w) X.A (isTrue e X.env (eval e X.env)) (TP X pins σ Q) X.xe s
def PW (X:Cx) (e:Expr) (t:TT):Prop :=
 ∀ (whole:Sem Value) (pins:List (Addr×Obj)) (s:Shared) (σ:St) (H:Hp) (Q:Bool->Hp->Prop),Inv X pins σ H s->t σ H Q->wpAny (model X.prog X.w) X.A (isTrue e X.env whole) (TP X pins σ Q) X.xe s
theorem PW.pt {X:Cx} {e:Expr} {t:TT} (h:PW X e t):PT X e t:=h _
def PA (X:Cx) (es:List Expr) (t:TA):Prop :=
 ∀ (pos:Pos) (pins:List (Addr×Obj)) (s:Shared) (σ:St) (H:Hp) (Q:List V->Hp->Prop),Inv X pins σ H s->t σ H Q->wpAny (model X.prog X.w) X.A (spliced (backTo pos (starEach es X.env))) (AP X pins σ Q) X.xe s
def PS (X:Cx) (st:Stmt) (t:TS):Prop :=
 ∀ (pins:List (Addr×Obj)) (s:Shared) (σ:St) (H:Hp) (D:Ends),Inv X pins σ H s->t D σ H->wpAny (model X.prog X.w) X.A (exec st X.env) (SP X pins D) X.xe s
def cT (X:Cx) (st:List Stmt) (t:TS):Prop :=
 ∀ (pins:List (Addr×Obj)) (s:Shared) (σ:St) (H:Hp) (D:Ends),Inv X pins σ H s->t D σ H->wpAny (model X.prog X.w) X.A (execs st X.env) (SP X pins D) X.xe s
theorem aD {α:Type} {t:Sem α} {Q Q':α->Shared->Prop} {M:Model} {A:Around} {E:Value->Shared->Prop} {s:Shared} (h:wpAny M A t Q E s) (hQ:∀ a s,Q a s->Q' a s):wpAny M A t Q' E s:=wpAny_mono h hQ fun _ _ x=>x
section
variable {X:Cx}
def Ii (i:Nat):TE:=fun σ H Q=>∃ v,σ[i]?=some (some v)/\Q v H
def tC (v:V):TE:=fun _ H Q=>Q v H
theorem By {i:Nat} {x:Str} {pos:Pos} (hN:X.N[i]?=some x) (hv:lE X.env.scope x) (hd:(x == ("__debug__" : Str))=false:=by decide) (bM:(x == ("__classdict__" : Str))=false:=by decide):PE X (.Name x pos) (Ii i):=by
 intro pins s σ H Q I h;obtain ⟨v,e,h⟩:=h;obtain ⟨m,hn,hl⟩:=I.loc;obtain ⟨u,r,l⟩:=hl i x v hN e hv;have fin:EP X pins σ Q u s:=⟨v,H,I,r,h⟩;rcases l with ⟨hk,hm⟩ | ⟨hk,c,hc,Ng⟩
 ·exact wpAny_Name (wpAny_loadName_local I.ok.kind hk hn hm fin) hd
 ·rcases hk with hk | hk
  ·exact wpAny_Name (wpAny_loadName_cell I.ok.kind hk hc Ng fin) hd
  ·exact wpAny_Name (wpAny_loadName_free I.ok.kind hk hc Ng fin bM) hd
theorem Om {i j pos}:PE X (.Constant (.int i) j pos) (tC (.int i)):=fun _ _ _ H _ I h=>wpAny_Constant_int ⟨.int i,H,I.tok _,⟨_,rfl⟩,h⟩
theorem Vu {b j pos}:PE X (.Constant (.bool b) j pos) (tC (.bl b)):=fun _ _ _ H _ I h=>Constant_bool ⟨.bl b,H,I,rfl,h⟩
theorem Ug {j pos}:PE X (.Constant .none j pos) (tC .au):=fun _ _ _ H _ I h=>Constant_none ⟨.au,H,I,rfl,h⟩
theorem Sg {x j pos}:PE X (.Constant (.str x) j pos) (tC (.str x)):=fun _ _ _ H _ I h=>Calls.Constant_str ⟨.str x,H,I.tok _,⟨_,rfl⟩,h⟩
def Gl (X:Cx) (x:Str):Prop:=X.env.kindOf x=some .globalImplicit
theorem jR {E:Value->Shared->Prop} {pins:List (Addr×Obj)} {s:Shared} {σ:St} {H:Hp} {x:Str} {u:Value} {pos:Pos} {Q:Value->Shared->Prop} (I:Inv X pins σ H s) (hg:Gl X x) (hm:X.mg x=some u) (h:Q u s)
  (hd:(x == ("__debug__" : Str))=false:=by decide):wpAny (model X.prog X.w) X.A (eval (.Name x pos) X.env) Q E s :=
 Calls.Name_function_global I.ok.kind hg (Calls.loadGlobal_global (by rw [I.ok.glob]; exact I.mod.glob.keeps I.bk) hm h) hd
theorem mD {E:Value->Shared->Prop} {pins:List (Addr×Obj)} {s:Shared} {σ:St} {H:Hp} {x:Str} {u:Value} {pos:Pos} {Q:Value->Shared->Prop} (I:Inv X pins σ H s) (hg:Gl X x) (hm:X.mg x=none) (hv:bootBuiltins x=some u) (h:Q u s)
  (hn:x ≠ "__name__" := by decide) (hd:(x == ("__debug__" : Str))=false:=by decide):wpAny (model X.prog X.w) X.A (eval (.Name x pos) X.env) Q E s:=by
 obtain ⟨mb,h1,h2⟩:=I.mod.blt;exact Calls.Name_function_global I.ok.kind hg (Calls.loadGlobal_builtin (by rw [I.ok.glob]; exact I.mod.glob.keeps I.bk) hm (by rw [I.ok.blt]; exact h1.keeps I.bk) ((h2 x hn).trans hv) h) hd
theorem Uu {x:Str} {v:V} {u:Value} {pos:Pos} (hg:Gl X x) (hm:X.mg x=some u) (r:RelV v u) (hd:(x == ("__debug__" : Str))=false:=by decide):PE X (.Name x pos) (tC v) :=
 fun _ _ _ H _ I h=>jR I hg hm ⟨v,H,I,r,h⟩ hd
theorem Oc {x:Str} {v:V} {u:Value} {pos:Pos} (hg:Gl X x) (hm:X.mg x=none) (hv:bootBuiltins x=some u) (r:RelV v u) (hn:x ≠ "__name__" := by decide) (hd:(x == ("__debug__" : Str))=false:=by decide):PE X (.Name x pos) (tC v) :=
 fun _ _ _ H _ I h=>mD I hg hm hv ⟨v,H,I,r,h⟩ hn hd
def Zs (ta tb:TE) (k:Int->Int->Hp->Prop):St->Hp->Prop:=fun σ H=>ta σ H fun x H1=>tb σ H1 fun y H2=>∃ i j,x=.int i/\y=.int j/\k i j H2
variable {a b:Expr} {ta tb:TE} {pos:Pos}
def PC (X:Cx) (op:CmpOp) (a b:Expr) (t:TE):Prop :=
 ∀ (pins:List (Addr×Obj)) (s:Shared) (σ:St) (H:Hp) (Q:VK),Inv X pins σ H s->t σ H Q ->
  wpAny (model X.prog X.w) X.A (eval a X.env) (fun v s₁=>wpAny (model X.prog X.w) X.A (eval b X.env) (fun u s₂=>wpAny (model X.prog X.w) X.A (compareOp op v u) (EP X pins σ Q) X.xe s₂) X.xe s₁) X.xe s
theorem uV (b:Expr) {op:CmpOp} (h:op≠.In) (h2:op≠.NotIn):behindInMarks op b=false:=by
 have e1:(op == CmpOp.In)=false:=by cases op <;> first | rfl | exact absurd rfl h
 have e2:(op == CmpOp.NotIn)=false:=by cases op <;> first | rfl | exact absurd rfl h2
 cases b <;> simp [behindInMarks,e1,e2]
def oH (p:Int->Int->Bool) (ta tb:TE):TE:=fun σ H Q=>Zs ta tb (fun i j H2=>Q (.bl (p i j)) H2) σ H
abbrev tLt:TE->TE->TE:=oH fun i j=>decide (i < j)
abbrev tLe:TE->TE->TE:=oH fun i j=>decide (i<=j)
abbrev tGt:TE->TE->TE:=oH fun i j=>decide (j < i)
abbrev tGe:TE->TE->TE:=oH fun i j=>decide (j<=i)
abbrev aar:TE->TE->TE:=oH fun i j=>decide (i=j)
abbrev aaj:TE->TE->TE:=oH fun i j=>!decide (i=j)
def RJ (ta:TE):TE:=fun σ H Q=>ta σ H fun x H1=>Q (.bl (decide (x=.au))) H1
def tB (t:TE):TT:=fun σ H Q=>t σ H fun x H1=>∃ c,x=.bl c/\Q c H1
variable {tA tB':TT} {rest:List Expr}
def zh (t u:TT):TT:=fun σ H Q=>t σ H fun c H1=>if c=true then u σ H1 Q else Q false H1
def zr (t u:TT):TT:=fun σ H Q=>t σ H fun c H1=>if c=true then Q true H1 else u σ H1 Q
def yk (t:TT):TT:=fun σ H Q=>t σ H fun c H1=>Q (!c) H1
theorem Zo (ha:PT X a tA):PW X (.BoolOp .And [a] pos) tA:=by
 intro wh pins s σ H Q I h;refine isTrue_and (aD (ha pins s σ H Q I h) fun c s1 e=>?_);cases c with
 | true=>exact isTrue_and_nil e
 | false=>exact e
theorem Qn (ha:PT X a tA):PW X (.BoolOp .Or [a] pos) tA:=by
 intro wh pins s σ H Q I h;refine isTrue_or (aD (ha pins s σ H Q I h) fun c s1 e=>?_);cases c with
 | false=>exact isTrue_or_nil e
 | true=>exact e
theorem YR (ha:PT X a tA) (hb:PW X (.BoolOp .And (b::rest) pos) tB'):PW X (.BoolOp .And (a::b::rest) pos) (zh tA tB'):=by
 intro wh pins s σ H Q I h;refine isTrue_and (aD (ha pins s σ H _ I h) fun c s1 ⟨H1,I1,q1⟩=>?_);cases c with
 | true=>exact hb wh pins s1 σ H1 Q I1 q1
 | false=>exact ⟨H1,I1,q1⟩
theorem Tv (ha:PT X a tA) (hb:PW X (.BoolOp .Or (b::rest) pos) tB'):PW X (.BoolOp .Or (a::b::rest) pos) (zr tA tB'):=by
 intro wh pins s σ H Q I h;refine isTrue_or (aD (ha pins s σ H _ I h) fun c s1 ⟨H1,I1,q1⟩=>?_);cases c with
 | true=>exact ⟨H1,I1,q1⟩
 | false=>exact hb wh pins s1 σ H1 Q I1 q1
theorem Tp (ha:PT X a tA):PT X (.UnaryOp .Not a pos) (yk tA):=by
 intro pins s σ H Q I h;exact isTrue_not (ha pins s σ H (fun c H1=>Q (!c) H1) I h)
theorem Wi {op} {t:TE} (h:PE X a t):PE X (.BoolOp op [a] pos) t:=fun pins s σ H Q I hw=>BoolOp_one (h pins s σ H Q I hw)
def Ce (t:TT) (ta tb:TE):TE:=fun σ H Q=>t σ H fun c H1=>if c=true then ta σ H1 Q else tb σ H1 Q
theorem Xw {c:Expr} (hc:PT X c tA) (ha:PE X a ta) (hb:PE X b tb):PE X (.IfExp c a b pos) (Ce tA ta tb):=by
 intro pins s σ H Q I h;refine wpAny_IfExp (aD (hc pins s σ H _ I h) fun d s1 ⟨H1,I1,q1⟩=>?_);cases d with
 | true=>exact ha pins s1 σ H1 Q I1 q1
 | false=>exact hb pins s1 σ H1 Q I1 q1
end
def aC (K:PySem.W.Frag) (H:Hp) (a:Addr) (xs:List V):Prop :=
 Rd H a (.lst xs) \/
  ∃ (o:Obj) (aj:Array Value) (n:Nat),K.lookup a=some o/\o.cls=.type "list" /\ o.dict=none/\o.data=.seq aj n/\aj.size<=sizeLine/\Vals xs aj.toList
def bC (K:PySem.W.Frag) (H:Hp) (a:Addr) (xs:List V):Prop :=
 Rd H a (.tup xs) \/
  ∃ (o:Obj) (aj:Array Value) (n:Nat),K.lookup a=some o/\o.cls=.type "tuple" /\ o.data=.seq aj n/\aj.size<=sizeLine/\Vals xs aj.toList
def Sz:Value->Option V
 | .none=>some .au
 | .bool b=>some (.bl b)
 | .int i _=>some (.int i)
 | .str x _=>some (.str x)
 | .bytes b _=>some (.byt b)
 | .float b _=>some (.mL b)
 | .ref a=>some (.ref a)
 | .type n=>some (.ty n)
 | _=>none
theorem RelV.abs {x:V} {u:Value} (r:RelV x u):Sz u=some x:=by
 cases x with
 | au=>cases r; rfl
 | bl _=>cases r; rfl
 | int _=>obtain ⟨t,rfl⟩:=r; rfl
 | str _=>obtain ⟨t,rfl⟩:=r; rfl
 | byt _=>obtain ⟨t,rfl⟩:=r; rfl
 | mL _=>obtain ⟨t,rfl⟩:=r; rfl
 | ref _=>cases r; rfl
 | ty _=>cases r; rfl
theorem RelV.inj {x y:V} {u:Value} (r:RelV x u) (q:RelV y u):x=y:=Option.some.inj (r.abs.symm.trans q.abs)
theorem Vals.inj:∀ {xs ys:List V} {us:List Value},Vals xs us->Vals ys us->xs=ys
 | _,_,_,.nil,.nil=>rfl
 | _,_,_,.cons r t,.cons r' t'=>by rw [r.inj r',Vals.inj t t']
section
variable {X:Cx} {pins:List (Addr×Obj)} {σ:St} {H:Hp} {s:Shared} {a:Addr} {xs ys:List V}
theorem aC.of {K:PySem.W.Frag} (h:H a=some (.lst xs)):aC K H a xs:=.inl (.inl h)
theorem bC.of {K:PySem.W.Frag} (h:H a=some (.tup xs)):bC K H a xs:=.inl (.inl h)
theorem Inv.list (I:Inv X pins σ H s) (h:aC X.K H a xs):∃ aj:List Value,Vals xs aj/\PlainL s.heap a aj.toArray/\xs.length<=sizeLine:=by
 rcases h with h | ⟨o,aj,n,hk,hc,hd,hs,hz,r⟩
 ·obtain ⟨z,aj,n,r,e⟩:=h.ok I.aA;exact ⟨aj,r,⟨_,n,e,rfl,rfl,rfl⟩,z⟩
 ·refine ⟨aj.toList,r,⟨o,n,I.bT a o hk,hc,hd,by simpa using hs⟩,?_⟩;have e:=r.length;simp only [Array.length_toList] at e;omega
theorem Inv.tuple (I:Inv X pins σ H s) (h:bC X.K H a xs):∃ aj:List Value,Vals xs aj/\IsTup s.heap a aj.toArray/\xs.length<=sizeLine:=by
 rcases h with h | ⟨o,aj,n,hk,hc,hs,hz,r⟩
 ·obtain ⟨z,aj,r,p⟩:=h.ok I.aA;exact ⟨aj,r,p.t,z⟩
 ·refine ⟨aj.toList,r,⟨o,I.bT a o hk,hc,n,by simpa using hs⟩,?_⟩;have e:=r.length;simp only [Array.length_toList] at e;omega
theorem Inv.YO (I:Inv X pins σ H s) (h:aC X.K H a xs) (h':aC X.K H a ys):xs=ys:=by
 obtain ⟨aj,r,⟨o,n,e,_,_,d⟩,_⟩:=I.list h;obtain ⟨its',r',⟨o',n',e',_,_,d'⟩,_⟩:=I.list h';rw [e] at e'; cases e';rw [d] at d';injection d' with d1 _;have:aj=its':=by simpa using congrArg Array.toList d1
 subst this;exact r.inj r'
end
abbrev Cx.cg (X:Cx) (E:Value->Shared->Prop):Cx:={ X with xe:=E }
abbrev Cx.pd (X:Cx):Cx:=X.cg fun _ _=>False
theorem Cx.Ok.cg {X:Cx} (ok:X.Ok) (E:Value->Shared->Prop):(X.cg E).Ok :=
 ⟨ok.mod,ok.kind,ok.glob,ok.blt,ok.above,ok.inj,ok.has,ok.km,ok.hd,ok.frames,ok.df,ok.rJ,ok.bs,ok.gy,ok.lV,ok.lZ,ok.eU,ok.iL⟩
theorem Cx.Ok.lW {X:Cx} {E:Value->Shared->Prop} (ok:(X.cg E).Ok):X.Ok :=
 ⟨ok.mod,ok.kind,ok.glob,ok.blt,ok.above,ok.inj,ok.has,ok.km,ok.hd,ok.frames,ok.df,ok.rJ,ok.bs,ok.gy,ok.lV,ok.lZ,ok.eU,ok.iL⟩
section
variable {X:Cx} {pins:List (Addr×Obj)} {σ:St} {H:Hp} {s:Shared} {E:Value->Shared->Prop}
theorem Inv.cg (I:Inv X pins σ H s) (E:Value->Shared->Prop):Inv (X.cg E) pins σ H s:=⟨I.ok.cg E,I.os,I.bare,I.base,I.loc,I.cell,I.free,I.eT,I.pin,I.aA,I.len⟩
theorem Inv.lW (I:Inv (X.cg E) pins σ H s):Inv X pins σ H s:=⟨I.ok.lW,I.os,I.bare,I.base,I.loc,I.cell,I.free,I.eT,I.pin,I.aA,I.len⟩
theorem SP.lW {D:Ends} {f:Flow} {s':Shared} (h:SP (X.cg E) pins D f s'):SP X pins D f s':=by
 cases f with
 | next=>obtain ⟨σ',H',I,q⟩:=h; exact ⟨σ',H',I.lW,q⟩
 | brk=>obtain ⟨σ',H',I,q⟩:=h; exact ⟨σ',H',I.lW,q⟩
 | cont=>obtain ⟨σ',H',I,q⟩:=h; exact ⟨σ',H',I.lW,q⟩
 | ret u=>obtain ⟨v,σ',H',I,r,q⟩:=h; exact ⟨v,σ',H',I.lW,r,q⟩
theorem cT.pd {st:List Stmt} {t:TS} (h:cT X.pd st t):cT X st t:=fun pins s σ H D I hw =>
 wpAny_mono (h pins s σ H D (I.cg _) hw) (fun _ _ q=>q.lW) fun _ _ z=>False.elim z
end
section
variable {X:Cx} {st:Stmt} {rest:List Stmt} {t u:TS} {e:Expr} {te:TE} {pos:Pos}
def BE:TS:=fun D σ H=>D.nx σ H
def UP (t u:TS):TS:=fun D σ H=>t { D with nx:=u D } σ H
theorem Rw:cT X [] BE:=fun _ _ σ H _ I h=>wpAny_execs_nil ⟨σ,H,I,h⟩
theorem Uw (h1:PS X st t) (h2:cT X rest u):cT X (st::rest) (UP t u):=by
 intro pins s σ H D I h;refine wpAny_execs_cons (aD (h1 pins s σ H { D with nx:=u D } I h) fun f s1 q=>?_);cases f with
 | next =>
  obtain ⟨σ',H',I',q⟩:=q;exact h2 pins s1 σ' H' D I' q
 | ret v=>exact q
 | brk=>exact q
 | cont=>exact q
theorem Sd (h1:PS X st t):cT X [st] t:=by
 intro pins s σ H D I h;refine wpAny_execs_cons (aD (h1 pins s σ H D I h) fun f s1 q=>?_);cases f with
 | next=>exact wpAny_execs_nil q
 | ret v=>exact q
 | brk=>exact q
 | cont=>exact q
theorem Inv.quiet {pins:List (Addr×Obj)} {σ:St} {H:Hp} {s:Shared} (I:Inv X pins σ H s):interactive X.env=false:=by simp [interactive,I.ok.kind]
def CL (te:TE):TS:=fun D σ H=>te σ H fun _ H1=>D.nx σ H1
theorem OZ (he:PE X e te) (hs:swapsWith e none pos.line X.env=pure false:=by rfl):PS X (.Expr e pos) (CL te):=by
 intro pins s σ H D I h;exact wpAny_Expr_any (aD (he pins s σ H _ I h) fun v s1 ⟨x,H1,I1,r1,q1⟩=>⟨σ,H1,I1,q1⟩) I.quiet hs
def B9 (te:TE):TS:=fun D σ H=>te σ H D.rt
theorem NR (he:PE X e te):PS X (.Return (some e) pos) (B9 te):=by
 intro pins s σ H D I h;exact wpAny_Return_some (aD (he pins s σ H _ I h) fun v s1 ⟨x,H1,I1,r1,q1⟩=>⟨x,σ,H1,I1,r1,q1⟩)
def Bh:TS:=fun D _ H=>D.rt .au H
theorem T1:PS X (.Return none pos) Bh:=fun _ _ σ H _ I h=>wpAny_Return_none ⟨.au,σ,H,I,rfl,h⟩
def B2 (c:TT) (t u:TS):TS:=fun D σ H=>c σ H fun b H1=>if b=true then t D σ H1 else u D σ H1
theorem W5 {c:Expr} {a b:List Stmt} {tc:TT} (hc:PT X c tc) (ha:cT X a t) (hb:cT X b u):PS X (.If c a b pos) (B2 tc t u):=by
 intro pins s σ H D I h;refine wpAny_If (aD (hc pins s σ H _ I h) fun d s1 ⟨H1,I1,q1⟩=>?_);cases d with
 | true=>exact ha pins s1 σ H1 D I1 q1
 | false=>exact hb pins s1 σ H1 D I1 q1
def Cb:TS:=fun _ _ _=>False
theorem Rk:PS X st Cb:=fun _ _ _ _ _ _ h=>h.elim
end
abbrev TG:=V->St->Hp->(St->Hp->Prop)->Prop
abbrev iW:=List V->St->Hp->(St->Hp->Prop)->Prop
def PG (X:Cx) (target:Expr) (t:TG):Prop :=
 ∀ (pins:List (Addr×Obj)) (s:Shared) (σ:St) (H:Hp) (v:V) (u:Value) (Q:St->Hp->Prop),Inv X pins σ H s->RelV v u->t v σ H Q ->
  wpAny (model X.prog X.w) X.A (assign target X.env u) (fun _ s'=>∃ σ' H',Inv X pins σ' H' s'/\Q σ' H') X.xe s
def rR (X:Cx) (ts:List Expr) (t:iW):Prop :=
 ∀ (pins:List (Addr×Obj)) (s:Shared) (σ:St) (H:Hp) (vs:List V) (us:List Value) (Q:St->Hp->Prop),Inv X pins σ H s->Vals vs us->t vs σ H Q ->
  wpAny (model X.prog X.w) X.A (assignInOrder ((assignEach ts X.env).map (·.2)) us) (fun _ s'=>∃ σ' H',Inv X pins σ' H' s'/\Q σ' H') X.xe s
abbrev sH:=V->V->V->Hp->(Hp->Prop)->Prop
def wb (X:Cx) (t:sH):Prop :=
 ∀ (pins:List (Addr×Obj)) (s:Shared) (σ:St) (H:Hp) (o i v:V) (ov iv u:Value) (Q:Hp->Prop),Inv X pins σ H s->RelV o ov->RelV i iv->RelV v u->t o i v H Q ->
  wpAny (model X.prog X.w) X.A (setItem ov iv u) (fun _ s'=>∃ H',Inv X pins σ H' s'/\Q H') X.xe s
abbrev TIp:=V->V->Hp->VK->Prop
section
variable {X:Cx} {pos:Pos}
def fJ (i:Nat):TG:=fun v σ H Q=>Q (σ.set i (some v)) H
theorem Ss {i:Nat} {x:Str} (hN:X.N.Nodup) (hi:X.N[i]?=some x) (hx:Loc X.env.scope x) (hf:X.fn x=true\/X.env.scope.names.lookup x=some .local:=by first | exact .inl rfl | exact .inr rfl | assumption):PG X (.Name x pos) (fJ i):=by
 intro pins s σ H v u Q I r h;exact wpAny_assign_Name (BW I hN hi hx r (fun s' I'=>⟨_,H,I',h⟩) hf)
def zb:iW:=fun vs σ H Q=>vs=[]/\Q σ H
def zH (t:TG) (u:iW):iW:=fun vs σ H Q=>∃ v r,vs=v::r/\t v σ H fun σ' H'=>u r σ' H' Q
theorem OT:rR X [] zb:=by
 intro pins s σ H vs us Q I r h;obtain ⟨e,h⟩:=h;subst e;cases r;exact assignInOrder_nil ⟨σ,H,I,h⟩
theorem ZS {e:Expr} {es:List Expr} {t:TG} {u:iW} (h1:PG X e t) (h2:rR X es u)
  (hs:(assignEach (e::es) X.env).map (·.2)=assign e X.env::(assignEach es X.env).map (·.2):=by rfl):rR X (e::es) (zH t u):=by
 intro pins s σ H vs us Q I r h;obtain ⟨v,vr,e1,h⟩:=h;subst e1;cases r with
 | cons r rr =>
  rw [hs];refine assignInOrder_cons (aD (h1 pins s σ H _ _ _ I r h) fun _ s1 ⟨σ1,H1,I1,q1⟩=>?_);exact h2 pins s1 σ1 H1 _ _ Q I1 rr q1
def yx (K:PySem.W.Frag) (n:Nat) (t:iW):TG:=fun v σ H Q=>∃ a xs,v=.ref a/\bC K H a xs/\xs.length=n/\t xs σ H Q
theorem Vd {es:List Expr} {k:Nat} {t:iW} {n:Nat} (hc:X.calm=true) (h:rR X es t)
  (hn:(assignEach es X.env).length=n:=by rfl) (aR:(assignEach es X.env).findIdx? (·.1)=none:=by rfl):PG X (.Tuple es k pos) (yx X.K n t):=by
 intro pins s σ H v u Q I r hw;obtain ⟨a,xs,e1,hq,hl,hw⟩:=hw;subst e1;cases r;obtain ⟨aj,rv,ht,hz⟩:=I.tuple hq;refine assign_Tuple_tuple (I.ok.hd hc) ht (by simp [hn,<- hl,rv.length]) aR fun h' hx=>?_;have I1:Inv X pins σ H { s with heap:=h' }:=I.kept (t':=s.toks) fun b o e=>hx b o (Nat.ne_of_lt (Heap.lt_size e)) e;exact h pins _ σ H xs _ Q I1 (by simpa using rv) hw
def Bk (to ti:TE) (t:sH):TG:=fun v σ H Q=>to σ H fun o H1=>ti σ H1 fun i H2=>t o i v H2 fun H3=>Q σ H3
theorem Vz {o i:Expr} {to ti:TE} {t:sH} (ho:PE X o to) (hi:PE X i ti) (hs:wb X t)
  (ha:∀ v,assign (.Subscript o i pos) X.env v=(do
   let ov <- holding [v] (eval o X.env)
   let iv <- holding [v,ov] (eval i X.env)
   standAt pos
   holding [v,ov,iv] (setItem ov iv v)
   release [v,ov,iv] []):=by intro _; rfl):PG X (.Subscript o i pos) (Bk to ti t):=by
 intro pins s σ H v u Q I r h;rw [ha];refine wpAny_bind (wpAny_holding (aD (ho pins s σ H _ I h) fun ov s1 ⟨x,H1,I1,r1,q1⟩=>?_));refine wpAny_bind (wpAny_holding (aD (hi pins s1 σ H1 _ I1 q1) fun iv s2 ⟨y,H2,I2,r2,q2⟩=>?_));refine wpAny_bind (wpAny_standAt (wpAny_bind (wpAny_holding (aD (hs pins s2 σ H2 x y v ov iv u _ I2 r1 r2 r q2) fun _ s3 ⟨H3,I3,q3⟩=>?_))));exact wpAny_release ⟨σ,H3,I3,q3⟩
def lI (te:TE) (g:TG):TS:=fun D σ H=>te σ H fun x H1=>g x σ H1 D.nx
theorem VP {tg e:Expr} {te:TE} {g:TG} (he:PE X e te) (hg:PG X tg g) (hs:swapsWithSole [tg] e pos.line X.env=pure false:=by rfl) (hw:swappedStores [tg] e X.env=pure none:=by rfl)
  (h1:(assignEach [tg] X.env).map (·.2)=[assign tg X.env]:=by rfl):PS X (.Assign [tg] e pos) (lI te g):=by
 intro pins s σ H D I h;refine wpAny_Assign_stores (aD (he pins s σ H _ I h) fun v s1 ⟨x,H1,I1,r1,q1⟩=>?_) hs hw;rw [h1];exact aD (hg pins s1 σ H1 x v _ I1 r1 q1) fun _ s2 q=>q
theorem Yj {i:Nat} {x:Str} {e:Expr} {te:TE} {pos':Pos} (hN:X.N.Nodup) (hi:X.N[i]?=some x) (hx:Loc X.env.scope x) (he:PE X e te) (hs:swapsWith e (some (.Name x pos')) pos.line X.env=pure false:=by rfl) (hf:X.fn x=true\/X.env.scope.names.lookup x=some .local:=by first | exact .inl rfl | exact .inr rfl | assumption) :
  PS X (.Assign [.Name x pos'] e pos) (lI te (fJ i)):=by
 intro pins s σ H D I h;refine wpAny_Assign_Name (aD (he pins s σ H _ I h) fun v s1 ⟨y,H1,I1,r1,q1⟩=>?_) hs;exact BW I1 hN hi hx r1 (fun s2 I2=>⟨_,H1,I2,q1⟩) hf
end
section
variable {X:Cx} {pos:Pos}
def Hl (c:TT) (tb:TS):TS:=fun D σ H=>∃ W:Nat->St->Hp->Prop,(∃ m,W m σ H)/\∀ m σ H,W m σ H ->
 c σ H fun b H1=>if b=true then ∃ N:St->Hp->Prop,(∀ σ' H',N σ' H'->∃ m',m' < m/\W m' σ' H')/\tb { D with nx:=N,ct:=N,bk:=D.nx } σ H1 else D.nx σ H1
theorem SG {c:Expr} {body:List Stmt} {tc:TT} {tb:TS} (hp:PassesOwn (model X.prog X.w) X.A X.env X.xe) (hc:PT X c tc) (hb:cT X body tb):PS X (.While c body [] pos) (Hl tc tb):=by
 intro pins s σ H D I h;obtain ⟨W,⟨m0,w0⟩,turn⟩:=h;refine wpAny_While (codeAny_whileLoop (fun n s'=>∃ σ' H',Inv X pins σ' H' s'/\W n σ' H') ?_ m0 ⟨σ,H,I,w0⟩);rintro n s1 ⟨σ1,H1,I1,w1⟩;refine wpAny_passesOwn hp (aD (hc pins s1 σ1 H1 _ I1 (turn n σ1 H1 w1)) fun b s2 ⟨H2,I2,q2⟩=>?_);cases b with
 | true =>
  obtain ⟨N,hN,q2⟩:=q2;rw [if_pos rfl];refine wpAny_passesOwn hp (aD (hb pins s2 σ1 H2 _ I2 q2) fun f s3 q3=>?_);cases f with
  | next =>
   obtain ⟨σ3,H3,I3,n3⟩:=q3;obtain ⟨m',hm,w3⟩:=hN σ3 H3 n3;exact ⟨m',hm,σ3,H3,I3,w3⟩
  | cont =>
   obtain ⟨σ3,H3,I3,n3⟩:=q3;obtain ⟨m',hm,w3⟩:=hN σ3 H3 n3;exact ⟨m',hm,σ3,H3,I3,w3⟩
  | brk=>exact q3
  | ret v=>exact q3
 | false =>
  rw [if_neg Bool.false_ne_true];exact wpAny_execs_nil ⟨σ1,H2,I2,q2⟩
end
structure It where
 go:Nat->Hp->Prop
 ky:Nat->Hp->V->Hp->Prop
 stop:Nat->Hp->Prop
def jJ (X:Cx) (pins:List (Addr×Obj)) (H:Hp) (b:Addr):Prop :=
 H b=none/\b≠X.env.locals/\b ∉ X.fs/\(b∈X.ex\/X.s₀.heap.objs.size<=b)/\(∀ x c,X.env.cells.lookup x=some c->c≠b)/\∀ p∈X.pn++pins,p.1≠b
theorem Inv.Cg {X:Cx} {pins:List (Addr×Obj)} {σ:St} {H H':Hp} {s:Shared} {b:Addr} (I:Inv X pins σ H s) (hb:s.heap.objs.size<=b) (hn:H' b=none):jJ X pins H' b:=by
 refine ⟨hn,Nat.ne_of_gt (Nat.lt_of_lt_of_le I.lt hb),I.GI hb,.inr (Nat.le_trans I.sz hb),fun x c e z=>?_,fun p hp z=>?_⟩
 ·obtain ⟨v,q⟩:=I.cell x c e;exact absurd (Nat.lt_of_lt_of_le q.lt (by rw [z]; exact hb)) (Nat.lt_irrefl _)
 ·exact absurd (Nat.lt_of_lt_of_le (Heap.lt_size (I.pin p hp).1) (by rw [z]; exact hb)) (Nat.lt_irrefl _)
structure Turn (P:Program) (w:World) (K:PySem.W.Frag) (tg:Expr) (J:It) (fp:List Addr) (it:Addr) (tn:Nat->Heap->Prop):Prop where
 mem:it∈fp
 obj:∀ i h,tn i h->∀ b∈fp,∃ o,h.get? b=some o/\∀ v,o.data≠.cell v
 keep:∀ i h h',tn i h->(∀ b∈fp,∀ o,h.get? b=some o->h'.get? b=some o)->tn i h'
 item:∀ (X:Cx),X.prog=P->X.w=w->X.K=K->X.calm=true->∀ (i:Nat) (pins:List (Addr×Obj)) (s:Shared) (σ:St) (H:Hp) (E:Value->Shared->Prop),Inv X pins σ H s->(∀ b∈fp,jJ X pins H b)->tn i s.heap->J.go i H ->
  wpAny (model P w) X.A (pyNext (.ref it)) (fun r s1=>∃ u,r=some u /\
   wpAny (model P w) X.A (letOwnedTupleGo tg (.ref it) u) (fun _ s2=>∃ x H',Inv X pins σ H' s2/\RelV x u/\J.ky i H x H'/\tn (i+1) s2.heap/\∀ b∈fp,H' b=none) E s1) E s
 done:∀ (X:Cx),X.prog=P->X.w=w->X.K=K->X.calm=true->∀ (i:Nat) (pins:List (Addr×Obj)) (s:Shared) (σ:St) (H:Hp) (E:Value->Shared->Prop),Inv X pins σ H s->(∀ b∈fp,jJ X pins H b)->tn i s.heap->J.stop i H ->
  wpAny (model P w) X.A (pyNext (.ref it)) (fun r s1=>r=none/\Inv X pins σ H s1) E s
 self:∀ (A:Around) (i:Nat) (s:Shared) (Q:Value->Shared->Prop) (E:Value->Shared->Prop),tn i s.heap->Q (.ref it) s->wpAny (model P w) A (pyIter (.ref it)) Q E s
abbrev TI:=St->Hp->(It->Hp->Prop)->Prop
def HJ (X:Cx) (pins:List (Addr×Obj)) (σ:St) (tg:Expr) (R:It->Hp->Prop) (Eu:Value) (s2:Shared):Prop :=
 ∃ (it:Addr) (fp:List Addr) (tn:Nat->Heap->Prop) (J:It) (H':Hp),Eu=.ref it/\Inv X pins σ H' s2/\Turn X.prog X.w X.K tg J fp it tn/\tn 0 s2.heap/\(∀ b∈fp,jJ X pins H' b)/\R J H'
def PI (X:Cx) (tg iter:Expr) (wi:TI):Prop :=
 ∀ (pins:List (Addr×Obj)) (s:Shared) (σ:St) (H:Hp) (R:It->Hp->Prop),Inv X pins σ H s->wi σ H R ->
  wpAny (model X.prog X.w) X.A (eval iter X.env) (fun v s1=>wpAny (model X.prog X.w) X.A (pyIter v) (HJ X pins σ tg R) X.xe s1) X.xe s
theorem zc {M:Model} {A:Around} {E:Value->Shared->Prop} {s:Shared} {tg:Expr} {it:Addr} {u:Value} {o:Obj} {n:String} {vs:Array Value} {Q:Unit->Shared->Prop} (ho:s.heap.get? it=some o) (hc:o.cls=.type n) (hd:o.data=.fields vs)
  (hn:["enumerate","zip","dict_itemiterator","dict_reverseitemiterator","odict_iterator","itertools.zip_longest","itertools.pairwise"].contains n=false) (hQ:Q () s):wpAny M A (letOwnedTupleGo tg (.ref it) u) Q E s:=by
 unfold letOwnedTupleGo;cases tg <;> first
  | exact wpAny_pure hQ
  | (cases u <;> first
    | exact wpAny_pure hQ
    | (refine wpAny_bind (wpAny_load ho ?_)
       rw [hc,hd];show wpAny M A (if (["enumerate","zip","dict_itemiterator","dict_reverseitemiterator","odict_iterator","itertools.zip_longest","itertools.pairwise"].contains n && vs[0]? == some (rawInt _))=true then _ else _) Q E s;rw [if_neg (by intro h; rw [hn,Bool.false_and] at h; cases h)];exact wpAny_pure hQ))
def jS (K:PySem.W.Frag) (a:Addr):It :=
 ⟨fun i H=>∃ xs x,aC K H a xs/\xs[i]?=some x,fun i H x H'=>H'=H/\∀ xs,aC K H a xs->xs[i]?=some x,fun i H=>∃ xs,aC K H a xs/\xs.length<=i⟩
def kD (lo:Int) (n:Nat):It:=⟨fun i _=>i < n,fun i H x H'=>H'=H/\x=.int (lo+i),fun i _=>n<=i⟩
theorem PK {P:Program} {w:World} {K:PySem.W.Frag} {tg:Expr} (a it:Addr):Turn P w K tg (jS K a) [it] it (fun i h=>h.IsListIter it a i) where
 mem:=by simp
 obj:=fun i h st b hb=>by
  have e:b=it:=by simpa using hb
  subst e;obtain ⟨o,e,c,d⟩:=st;exact ⟨o,e,fun v z=>by rw [d] at z; cases z⟩
 keep:=fun i h h' st k=>st.at fun o e=>k it (by simp) o e
 item:=by
  intro X hP hw hK hc i pins s σ H E I hf st hg;subst hP hw hK;obtain ⟨xs,x,hq,hx⟩:=hg;obtain ⟨aj,rv,p,hz⟩:=I.list hq;obtain ⟨u,hu,ru⟩:=rv.get hx;obtain ⟨f0,f1,f2,f3,f4,f5⟩:=hf it (by simp);refine wpAny_pyNext_list_item st p.isList (x:=u) (by simpa using hu) fun h' st' sb=>?_;have I1:Inv X pins σ H { s with heap:=h' }:=I.turned (t':=s.toks) (fun b o hb e=>(sb.2 b hb).trans e) f0 f1 f3 f4 f5;obtain ⟨o,e,c,d⟩:=id st';exact ⟨u,rfl,zc (s:={ s with heap:=h' }) e c d (by decide) ⟨x,H,I1,ru,⟨rfl,fun ys hy=>by rw [I.YO hy hq]; exact hx⟩,st',fun b hb=>(hf b hb).1⟩⟩
 done:=by
  intro X hP hw hK hc i pins s σ H E I hf st hg;subst hP hw hK;obtain ⟨xs,hq,hx⟩:=hg;obtain ⟨aj,rv,p,hz⟩:=I.list hq;obtain ⟨f0,f1,f2,f3,f4,f5⟩:=hf it (by simp);have hl:=rv.length;exact wpAny_pyNext_list_end (I.ok.hd hc) st p.isList (by simp; omega) fun h' eb=>⟨rfl,I.turned (t':=s.toks) (fun b o hb e=>eb b o hb e) f0 f1 f3 f4 f5⟩
 self:=fun _ _ _ _ _ st h=>wpAny_pyIter_listiter st h
theorem YV {P:Program} {w:World} {K:PySem.W.Frag} {tg:Expr} (it:Addr) (lo:Int) (n:Nat):Turn P w K tg (kD lo n) [it] it (fun i h=>IsRangeIter h it (lo+(i:Nat) * 1) ((n:Int) - (i:Nat)) 1) where
 mem:=by simp
 obj:=fun i h st b hb=>by
  have e:b=it:=by simpa using hb
  subst e;exact ⟨_,st,fun v z=>by
   have z':Data.fields _=Data.cell v:=z;cases z'⟩
 keep:=fun i h h' st k=>k it (by simp) _ st
 item:=by
  intro X hP hw hK hc i pins s σ H E I hf st hg;subst hP hw hK;obtain ⟨f0,f1,f2,f3,f4,f5⟩:=hf it (by simp);have W:=Walks.range (prog:=X.prog) (w:=X.w) (I.ok.hd hc) it lo 1 n;refine W.item i s _ _ hg st fun v h' tk hv st' kk=>?_;obtain ⟨t,rfl⟩:=hv;have I1:Inv X pins σ H { s with heap:=h',toks:=tk }:=I.turned (fun b o hb e=>kk b o (by simpa using hb) e) f0 f1 f3 f4 f5;refine ⟨_,rfl,zc (s:={ s with heap:=h',toks:=tk }) (n := "range_iterator") st' rfl rfl (by decide) ⟨.int (lo+i),H,I1,⟨t,?_⟩,⟨rfl,rfl⟩,st',fun b hb=>(hf b hb).1⟩⟩;rw [Int.mul_one]
 done:=by
  intro X hP hw hK hc i pins s σ H E I hf st hg;subst hP hw hK;obtain ⟨f0,f1,f2,f3,f4,f5⟩:=hf it (by simp);exact wpAny_pyNext_range_end (I.ok.hd hc) st (by have:n<=i:=hg; omega) fun h' eb=>⟨rfl,I.turned (t':=s.toks) (fun b o hb e=>eb b o hb e) f0 f1 f3 f4 f5⟩
 self:=fun _ _ _ _ _ st h=>wpAny_pyIter_rangeiter st h
section
variable {X:Cx} {tg:Expr}
def Uo (K:PySem.W.Frag) (tl:TE):TI:=fun σ H R=>tl σ H fun x H1=>∃ a,x=.ref a/\(∃ xs,aC K H1 a xs)/\R (jS K a) H1
theorem O3 {l:Expr} {tl:TE} (hl:PE X l tl):PI X tg l (Uo X.K tl):=by
 intro pins s σ H R I h;refine aD (hl pins s σ H _ I h) fun v s1 ⟨x,H1,I1,r1,q1⟩=>?_;obtain ⟨a,e,⟨xs,hq⟩,q⟩:=q1;subst e;cases r1;obtain ⟨aj,rv,p,hz⟩:=I1.list hq;refine wpAny_pyIter_list p.isList ?_;refine ⟨s1.heap.objs.size,[s1.heap.objs.size],_,_,H1,rfl,I1.kept (t':=s1.toks) fun b o e=>Heap.get?_push_of_some _ e,PK a _,⟨_,Heap.get?_push_size _ rfl,rfl,rfl⟩,fun b hb=>?_,q⟩;have e:b=s1.heap.objs.size:=by simpa using hb
 subst e;exact I1.Cg (Nat.le_refl _) (I1.aA.fresh (Nat.le_refl _))
theorem VH {pins:List (Addr×Obj)} {σ:St} {H:Hp} {s:Shared} {R:It->Hp->Prop} {E:Value->Shared->Prop} {lo hi:Int} {t u v:Tok} {tk:Nat} (I:Inv X pins σ H s) (h1:-(2 ^ 62)<=lo) (h2:lo < 2 ^ 62) (h3:-(2 ^ 62)<=hi) (h4:hi < 2 ^ 62)
  (q:R (kD lo (hi - lo).toNat) H):wpAny (model X.prog X.w) X.A (pyIter (.ref s.heap.objs.size)) (HJ X pins σ tg R) E { s with heap:=s.heap.push { cls:=.type "range",data:=.fields #[.int lo t,.int hi u,.int 1 v] },toks:=tk }:=by
 refine wpAny_pyIter_range (IsRange.new ..) (small_one h1 h2 h3 h4) ?_;have I1:Inv X pins σ H { s with heap:=s.heap.push { cls:=.type "range",data:=.fields #[.int lo t,.int hi u,.int 1 v] },toks:=tk }:=I.kept fun b o e=>Heap.get?_push_of_some _ e;refine ⟨(s.heap.push { cls:=.type "range",data:=.fields #[.int lo t,.int hi u,.int 1 v] }).objs.size,[(s.heap.push { cls:=.type "range",data:=.fields #[.int lo t,.int hi u,.int 1 v] }).objs.size],_,_,H,rfl,
  I1.kept (t':=tk) fun b o e=>Heap.get?_push_of_some _ e,YV _ lo (hi - lo).toNat,?_,fun b hb=>?_,q⟩
 ·have e1:lo+((0:Nat):Int) * 1=lo:=by simp
  have e2:(((hi - lo).toNat:Nat):Int) - ((0:Nat):Int)=Builtin.Range.rangeSize lo hi 1:=by rw [rangeSize_one]; split <;> omega
  show IsRangeIter _ _ (lo+((0:Nat):Int) * 1) ((((hi - lo).toNat:Nat):Int) - ((0:Nat):Int)) 1;rw [e1,e2];exact Heap.get?_push_size _ rfl
 ·have e:b=(s.heap.push { cls:=.type "range",data:=.fields #[.int lo t,.int hi u,.int 1 v] }).objs.size:=by simpa using hb
  subst e;exact I1.Cg (Nat.le_refl _) (I1.aA.fresh (Nat.le_refl _))
def Y8 (ta:TA):TI:=fun σ H R=>ta σ H fun vs H1=>∃ j:Int,vs=[.int j]/\-(2 ^ 62)<=j/\j < 2 ^ 62/\R (kD 0 j.toNat) H1
theorem Z3 {a:Expr} {ta:TA} {p pos:Pos} (hg:Gl X "range") (hm:X.mg "range" = none) (ha:PA X [a] ta) (hs:starEach [a] X.env=[(false,eval a X.env)]:=by rfl):PI X tg (.Call (.Name "range" p) [a] [] pos) (Y8 ta):=by
 intro pins s σ H R I h;refine Call_ (mD I hg hm boot_range (PyProof.Rows.callWith_type1 (aD (ha pos pins s σ H _ I h) fun us s1 ⟨vs,H1,I1,r1,q1⟩=>?_) hs rfl));obtain ⟨j,e,q1,q2,q⟩:=q1;subst e;cases r1 with
 | cons r rr =>
  cases rr;obtain ⟨t,rfl⟩:=r;exact call_range_1 (VH I1 (by omega) (by omega) q1 q2 (by simpa using q))
def yR (wi:TI) (g:TG) (tb:TS):TS:=fun D σ H=>wi σ H fun J H1=>∃ W:Nat->Nat->St->Hp->Prop,(∃ m,W 0 m σ H1)/\∀ i m σ H,W i m σ H ->
 (J.stop i H/\D.nx σ H)\/(J.go i H/\∃ N:St->Hp->Prop,(∀ σ' H',N σ' H'->∃ m',m' < m/\W (i+1) m' σ' H')/\∀ x H',J.ky i H x H'->g x σ H' fun σ2 H2=>tb { D with nx:=N,ct:=N,bk:=D.nx } σ2 H2)
def tI (fp:List Addr) (h:Heap):List (Addr×Obj):=fp.filterMap fun b=>(h.get? b).map fun o=>(b,o)
theorem vn {fp:List Addr} {h:Heap} {b:Addr} {o:Obj} (hb:b∈fp) (e:h.get? b=some o):(b,o)∈tI fp h:=List.mem_filterMap.mpr ⟨b,hb,by rw [e]; rfl⟩
theorem ZT {fp:List Addr} {h:Heap} {p:Addr×Obj} (hp:p∈tI fp h):p.1∈fp/\h.get? p.1=some p.2:=by
 obtain ⟨b,hb,e⟩:=List.mem_filterMap.mp hp;cases q:h.get? b with
 | none=>rw [q] at e; cases e
 | some o =>
  rw [q] at e;have e':(b,o)=p:=Option.some.inj e;subst e';exact ⟨hb,q⟩
theorem Inv.pinned {pins:List (Addr×Obj)} {σ:St} {H:Hp} {s:Shared} {fp:List Addr} (I:Inv X pins σ H s) (hf:∀ b∈fp,jJ X pins H b) (ho:∀ b∈fp,∃ o,s.heap.get? b=some o/\∀ v,o.data≠.cell v):Inv X (pins++tI fp s.heap) σ H s :=
 I.sC fun p hp=>(List.mem_append.mp hp).elim (fun z=>I.pin p (List.mem_append_right _ z)) fun z=>by
  obtain ⟨hb,e⟩:=ZT z;obtain ⟨f0,f1,f2,_⟩:=hf p.1 hb;obtain ⟨o,e',d⟩:=ho p.1 hb;rw [e] at e'; cases e';exact ⟨e,f0,f1,f2,d⟩
theorem Inv.Co {pins pl:List (Addr×Obj)} {σ:St} {H:Hp} {s:Shared} (I:Inv X (pins++pl) σ H s):Inv X pins σ H s:=I.sC fun p hp=>I.pin p (List.mem_append_right _ (List.mem_append_left _ hp))
theorem P6 {iter:Expr} {body:List Stmt} {wi:TI} {g:TG} {tb:TS} {pos:Pos} (hp:PassesOwn (model X.prog X.w) X.A X.env X.xe) (hc:X.calm=true) (hi:PI X tg iter wi) (hg:PG X tg g) (hb:cT X body tb)
  (hs:∀ x,foldedSetIterable iter X.env x=pure x:=by intro _; rfl):PS X (.For tg iter body [] pos) (yR wi g tb):=by
 intro pins s σ H D I h;refine wpAny_For (aD (hi pins s σ H _ I h) fun v s1 h1=>aD h1 fun Eu s2 h2=>?_) hs;obtain ⟨it,fp,tn,J,H2,e,I2,T,jy,f2,W,⟨m0,w0⟩,turn⟩:=h2;subst e
 -- what stays true of jt iterator's objects through jt loop
 have D2:∀ {H':Hp},(∀ b∈fp,H' b=none)->∀ b∈fp,jJ X pins H' b:=fun hn b hb=>⟨hn b hb,(f2 b hb).2⟩;refine codeAny_forLoop_any (fun n s'=>∃ i σ' H',Inv X pins σ' H' s'/\tn i s'.heap/\(∀ b∈fp,H' b=none)/\W i n σ' H') ?_ m0 ⟨0,σ,H2,I2,jy,fun b hb=>(f2 b hb).1,w0⟩;rintro n s3 ⟨i,σ3,H3,I3,Ms,xv,w3⟩;rcases turn i n σ3 H3 w3 with ⟨stop,qn⟩ | ⟨go,N,hN,step⟩
 ·refine wpAny_passesOwn hp (aD (T.done X rfl rfl rfl hc i pins s3 σ3 H3 X.xe I3 (D2 xv) Ms stop) fun r s4 ⟨hr,I4⟩=>?_);subst hr;exact wpAny_execs_nil ⟨σ3,H3,I4,qn⟩
 ·refine wpAny_passesOwn hp (aD (T.item X rfl rfl rfl hc i pins s3 σ3 H3 X.xe I3 (D2 xv) Ms go) fun r s4 ⟨u,hr,h4⟩=>?_);subst hr;refine wpAny_passesOwn hp (aD h4 fun _ s5 ⟨x,H5,I5,r5,y5,qo,xk⟩=>?_);have I5':=I5.pinned (D2 xk) (T.obj _ _ qo);refine wpAny_passesOwn hp (aD (hg _ s5 σ3 H5 x u _ I5' r5 (step x H5 y5)) fun _ s6 ⟨σ6,H6,I6,q6⟩=>?_);refine wpAny_passesOwn hp (aD (hb _ s6 σ6 H6 _ I6 q6) fun f s7 q7=>?_);have again:∀ {σ7:St} {H7:Hp},Inv X (pins++tI fp s5.heap) σ7 H7 s7->N σ7 H7->∃ m,m < n/\∃ i σ' H',Inv X pins σ' H' s7/\tn i s7.heap/\(∀ b∈fp,H' b=none)/\W i m σ' H':=fun {σ7 H7} I7 n7=>by
   obtain ⟨m',hm,w7⟩:=hN σ7 H7 n7;refine ⟨m',hm,i+1,σ7,H7,I7.Co,T.keep _ _ _ qo fun b hb o e=>(I7.pin (b,o) (List.mem_append_right _ (List.mem_append_right _ (vn hb e)))).1,fun b hb=>?_,w7⟩;obtain ⟨o,e,d⟩:=T.obj _ _ qo b hb;exact (I7.pin (b,o) (List.mem_append_right _ (List.mem_append_right _ (vn hb e)))).2.1
  cases f with
  | next=>obtain ⟨σ7,H7,I7,n7⟩:=q7; exact again I7 n7
  | cont=>obtain ⟨σ7,H7,I7,n7⟩:=q7; exact again I7 n7
  | brk=>obtain ⟨σ7,H7,I7,q7⟩:=q7; exact ⟨σ7,H7,I7.Co,q7⟩
  | ret v=>obtain ⟨x7,σ7,H7,I7,r7,q7⟩:=q7; exact ⟨x7,σ7,H7,I7.Co,r7,q7⟩
end
theorem Q4 {K:PySem.W.Frag} {a:Addr} {xs:List V} {g:TG} {tb:TS} {D:Ends} {σ:St} {H:Hp} (Pv:Nat->St->Hp->Prop) (h0:Pv 0 σ H) (hl:∀ i σ H,i<=xs.length->Pv i σ H->aC K H a xs)
  (hs:∀ i x σ H,xs[i]?=some x->Pv i σ H->g x σ H fun σ2 H2=>tb { D with nx:=Pv (i+1),ct:=Pv (i+1),bk:=D.nx } σ2 H2) (hd:∀ σ H,Pv xs.length σ H->D.nx σ H) :
  ∃ W:Nat->Nat->St->Hp->Prop,(∃ m,W 0 m σ H)/\∀ i m σ H,W i m σ H ->
   ((jS K a).stop i H/\D.nx σ H)\/((jS K a).go i H/\∃ N:St->Hp->Prop,(∀ σ' H',N σ' H'->∃ m',m' < m/\W (i+1) m' σ' H')/\∀ x H',(jS K a).ky i H x H'->g x σ H' fun σ2 H2=>tb { D with nx:=N,ct:=N,bk:=D.nx } σ2 H2):=by
 refine ⟨fun i m σ H=>m=xs.length - i/\i<=xs.length/\Pv i σ H,⟨xs.length,by simp,Nat.zero_le _,h0⟩,?_⟩;rintro i m σ H ⟨rfl,hi,p⟩;have q:=hl i σ H hi p;by_cases bL:i < xs.length
 ·refine .inr ⟨⟨xs,xs[i],q,by simp [bL]⟩,Pv (i+1),fun σ' H' p'=>⟨xs.length - (i+1),by omega,rfl,bL,p'⟩,fun x H' y=>?_⟩;obtain ⟨e,y⟩:=y;subst e;exact hs i x σ _ (y xs q) p
 ·have e:i=xs.length:=by omega
  subst e;exact .inl ⟨⟨xs,q,Nat.le_refl _⟩,hd σ H p⟩
theorem Vo {lo:Int} {n:Nat} {g:TG} {tb:TS} {D:Ends} {σ:St} {H:Hp} (Pv:Nat->St->Hp->Prop) (h0:Pv 0 σ H)
  (hs:∀ i σ H,i < n->Pv i σ H->g (.int (lo+i)) σ H fun σ2 H2=>tb { D with nx:=Pv (i+1),ct:=Pv (i+1),bk:=D.nx } σ2 H2) (hd:∀ σ H,Pv n σ H->D.nx σ H) :
  ∃ W:Nat->Nat->St->Hp->Prop,(∃ m,W 0 m σ H)/\∀ i m σ H,W i m σ H ->
   ((kD lo n).stop i H/\D.nx σ H)\/((kD lo n).go i H/\∃ N:St->Hp->Prop,(∀ σ' H',N σ' H'->∃ m',m' < m/\W (i+1) m' σ' H')/\∀ x H',(kD lo n).ky i H x H'->g x σ H' fun σ2 H2=>tb { D with nx:=N,ct:=N,bk:=D.nx } σ2 H2):=by
 refine ⟨fun i m σ H=>m=n - i/\i<=n/\Pv i σ H,⟨n,by simp,Nat.zero_le _,h0⟩,?_⟩;rintro i m σ H ⟨rfl,hi,p⟩;by_cases bL:i < n
 ·refine .inr ⟨bL,Pv (i+1),fun σ' H' p'=>⟨n - (i+1),by omega,rfl,bL,p'⟩,fun x H' y=>?_⟩;obtain ⟨e,y⟩:=y;subst e y;exact hs i σ _ bL p
 ·have e:i=n:=by omega
  subst e;exact .inl ⟨Nat.le_refl _,hd σ H p⟩
abbrev R2:=V->V->Hp->VK->Prop
def aX (X:Cx) (f:Value->Value->Sem Value) (r:R2):Prop :=
 ∀ (pins:List (Addr×Obj)) (s:Shared) (σ:St) (H:Hp) (x y:V) (v u:Value) (Q:VK),Inv X pins σ H s->RelV x v->RelV y u->r x y H Q ->
  wpAny (model X.prog X.w) X.A (f v u) (EP X pins σ Q) X.xe s
def sY (X:Cx) (f:Value->Sem Value) (r:V->Hp->VK->Prop):Prop :=
 ∀ (pins:List (Addr×Obj)) (s:Shared) (σ:St) (H:Hp) (x:V) (v:Value) (Q:VK),Inv X pins σ H s->RelV x v->r x H Q ->
  wpAny (model X.prog X.w) X.A (f v) (EP X pins σ Q) X.xe s
def cy (X:Cx) (f:Value) (r:List V->Hp->VK->Prop):Prop :=
 ∀ (pins:List (Addr×Obj)) (s:Shared) (σ:St) (H:Hp) (xs:List V) (us:List Value) (Q:VK),Inv X pins σ H s->Vals xs us->r xs H Q ->
  wpAny (model X.prog X.w) X.A (call f us) (EP X pins σ Q) X.xe s
def kg (r:R2) (ta tb:TE):TE:=fun σ H Q=>ta σ H fun x H1=>tb σ H1 fun y H2=>r x y H2 Q
def zf (r:V->Hp->VK->Prop) (ta:TE):TE:=fun σ H Q=>ta σ H fun x H1=>r x H1 Q
def rI (C:Int->Int->Prop) (g:Int->Int->V):R2:=fun x y H Q=>∃ i j,x=.int i/\y=.int j/\C i j/\Q (g i j) H
def mS (g:Int->Int->V):R2:=fun x y H Q=>∃ i j,x=.int i/\y=.int j/\Q (g i j) H
def rU (g:Int->V):V->Hp->VK->Prop:=fun x H Q=>∃ i,x=.int i/\Q (g i) H
section
variable {X:Cx} {a b c:Expr} {ta tb tc:TE} {pos:Pos}
theorem yz (ha:PE X a ta) (hb:PE X b tb) {pins:List (Addr×Obj)} {s:Shared} {σ:St} {H:Hp} {R:V->V->Hp->Prop} (I:Inv X pins σ H s)
  (h:ta σ H fun x H1=>tb σ H1 fun y H2=>R x y H2) {Q:Value->Shared->Prop} {f:Value->Value->Sem Value}
  (hf:∀ v u s2 x y H2,Inv X pins σ H2 s2->RelV x v->RelV y u->R x y H2->wpAny (model X.prog X.w) X.A (f v u) Q X.xe s2) :
  wpAny (model X.prog X.w) X.A (eval a X.env) (fun v s₁=>wpAny (model X.prog X.w) X.A (eval b X.env) (fun u s₂=>wpAny (model X.prog X.w) X.A (f v u) Q X.xe s₂) X.xe s₁) X.xe s:=by
 refine aD (ha pins s σ H _ I h) fun v s1 ⟨x,H1,I1,r1,q1⟩=>?_;refine aD (hb pins s1 σ H1 _ I1 q1) fun u s2 ⟨y,H2,I2,r2,q2⟩=>?_;exact hf v u s2 x y H2 I2 r1 r2 q2
theorem Td {op:Operator} {r:R2} (ho:aX X (binaryOp op) r) (ha:PE X a ta) (hb:PE X b tb):PE X (.BinOp a op b pos) (kg r ta tb):=by
 intro pins s σ H Q I h;exact wpAny_BinOp (yz ha hb I h fun v u s2 x y H2 I2 rx ry q=>ho pins s2 σ H2 x y v u Q I2 rx ry q)
theorem Wf {op:UnaryOp} {r:V->Hp->VK->Prop} (ho:sY X (unaryOp op) r) (ha:PE X a ta):PE X (.UnaryOp op a pos) (zf r ta):=by
 intro pins s σ H Q I h;exact UnaryOp_ (aD (ha pins s σ H _ I h) fun v s1 ⟨x,H1,I1,r1,q1⟩=>ho pins s1 σ H1 x v Q I1 r1 q1)
theorem vi {f:Value->Value->Sem Value} {C:Int->Int->Prop} {g:Int->Int->Int}
  (rule:∀ (i j:Int) (t u:Tok) (s:Shared) (Q:Value->Shared->Prop) (E:Value->Shared->Prop),C i j->Q (.int (g i j) s.toks) { s with toks:=s.toks+1 }->wpAny (model X.prog X.w) X.A (f (.int i t) (.int j u)) Q E s) :
  aX X f (rI C fun i j=>.int (g i j)):=by
 intro pins s σ H x y v u Q I rx ry h;obtain ⟨i,j,rfl,rfl,hc,q⟩:=h;obtain ⟨t,rfl⟩:=rx;obtain ⟨t',rfl⟩:=ry;exact rule i j t t' s _ _ hc ⟨.int (g i j),H,I.tok _,⟨_,rfl⟩,q⟩
theorem Se {f:Value->Value->Sem Value} {g:Int->Int->Int}
  (rule:∀ (i j:Int) (t u:Tok) (s:Shared) (Q:Value->Shared->Prop) (E:Value->Shared->Prop),Q (.int (g i j) s.toks) { s with toks:=s.toks+1 }->wpAny (model X.prog X.w) X.A (f (.int i t) (.int j u)) Q E s) :
  aX X f (mS fun i j=>.int (g i j)):=by
 intro pins s σ H x y v u Q I rx ry h;obtain ⟨i,j,rfl,rfl,q⟩:=h;obtain ⟨t,rfl⟩:=rx;obtain ⟨t',rfl⟩:=ry;exact rule i j t t' s _ _ ⟨.int (g i j),H,I.tok _,⟨_,rfl⟩,q⟩
theorem Aw {f:Value->Value->Sem Value} {g:Int->Int->Bool}
  (rule:∀ (i j:Int) (t u:Tok) (s:Shared) (Q:Value->Shared->Prop) (E:Value->Shared->Prop),Q (.bool (g i j)) s->wpAny (model X.prog X.w) X.A (f (.int i t) (.int j u)) Q E s) :
  aX X f (mS fun i j=>.bl (g i j)):=by
 intro pins s σ H x y v u Q I rx ry h;obtain ⟨i,j,rfl,rfl,q⟩:=h;obtain ⟨t,rfl⟩:=rx;obtain ⟨t',rfl⟩:=ry;exact rule i j t t' s _ _ ⟨.bl (g i j),H,I,rfl,q⟩
def GH (i j:Int):Prop:=0 < j/\j < 1073741824
def KY (i j:Int):Prop:=0<=j/\j<=1000000/\i.natAbs < 2 ^ 64
def vm (i j:Int):Prop:=(-(2 ^ 64) < i/\i < 2 ^ 64)\/(-(2 ^ 64) < j/\j < 2 ^ 64)
theorem vm.ok {i j:Int} (h:vm i j):IntMulOk i j:=by
 rcases h with ⟨h1,h2⟩ | ⟨h1,h2⟩
 ·exact .of_left (intBits_le_64 h1 h2)
 ·exact .of_right (intBits_le_64 h1 h2)
theorem VE:aX X (binaryOp .Add) (mS fun i j=>.int (i+j)):=Se fun _ _ _ _ _ _ _ q=>add_int q
theorem Ud:aX X (binaryOp .Mult) (rI vm fun i j=>.int (i * j)):=vi fun _ _ _ _ _ _ _ hc q=>mul_int q hc.ok
theorem N9:aX X (binaryOp .FloorDiv) (rI GH fun i j=>.int (i / j)):=vi fun i j _ _ _ _ _ hc q=>by
 have h1:(0:Int) < j:=hc.1;have h2:j < 1073741824:=hc.2;exact floordiv_int (by omega) (by rw [Int.fdiv_eq_ediv_of_nonneg i (by omega)]; exact q) (.inl (PyProof.noPylong_small (by omega)))
theorem Uj:aX X (binaryOp .Mod) (rI (fun _ j=>0 < j) fun i j=>.int (i % j)):=vi fun i j _ _ _ _ _ hc q=>by
 have h1:(0:Int) < j:=hc;exact mod_int' (by omega) (by rw [Int.fmod_eq_emod_of_nonneg i (by omega)]; exact q)
theorem OQ:aX X (binaryOp .Pow) (rI KY fun i j=>.int (i ^ j.toNat)):=vi fun _ _ _ _ _ _ _ hc q=>pow_int_small hc.1 hc.2.1 hc.2.2 q
theorem Uv {f:Value->Sem Value} {g:Int->Int}
  (rule:∀ (i:Int) (t:Tok) (s:Shared) (Q:Value->Shared->Prop) (E:Value->Shared->Prop),Q (.int (g i) s.toks) { s with toks:=s.toks+1 }->wpAny (model X.prog X.w) X.A (f (.int i t)) Q E s) :
  sY X f (rU fun i=>.int (g i)):=by
 intro pins s σ H x v Q I rx h;obtain ⟨i,rfl,q⟩:=h;obtain ⟨t,rfl⟩:=rx;exact rule i t s _ _ ⟨.int (g i),H,I.tok _,⟨_,rfl⟩,q⟩
theorem Sk:sY X (unaryOp .USub) (rU fun i=>.int (-i)):=Uv fun _ _ _ _ _ q=>neg_int q
end
def vA:V->V->Bool
 | .au,.au=>true | .au,.int _=>true | .int _,.au=>true | .au,.bl _=>true | .bl _,.au=>true | .au,.str _=>true | .str _,.au=>true
 | .int _,.int _=>true | .bl _,.bl _=>true | .str _,.str _=>true | .byt _,.byt _=>true
 | .int _,.str _=>true | .str _,.int _=>true | .bl _,.str _=>true | .str _,.bl _=>true
 | _,_=>false
def SR:R2:=fun x y H Q=>vA x y=true/\Q (.bl (decide (x=y))) H
def VM:R2:=fun x y H Q=>vA x y=true/\Q (.bl (!decide (x=y))) H
theorem HF {i j:Int}:decide (V.int i=V.int j)=(i == j):=by
 rw [Bool.eq_iff_iff];simp
theorem E5 {i j:Bool}:decide (V.bl i=V.bl j)=(i == j):=by
 rw [Bool.eq_iff_iff];simp
theorem Kn {i j:Str}:decide (V.str i=V.str j)=(i == j):=by
 rw [Bool.eq_iff_iff];simp
theorem HX {i j:Array UInt8}:decide (V.byt i=V.byt j)=(i.toList == j.toList):=by
 rw [Bool.eq_iff_iff];cases i;cases j;simp
section
variable {X:Cx} {a b c:Expr} {ta tb tc:TE} {pos:Pos}
theorem ck {pins:List (Addr×Obj)} {σ:St} {H:Hp} {s:Shared} {Q:VK} {k k':Bool} (I:Inv X pins σ H s) (q:Q (.bl k) H) (e:k=k'):EP X pins σ Q (.bool k') s:=by
 subst e;exact ⟨.bl k,H,I,rfl,q⟩
theorem Zr:aX X (compareOp .Eq) SR:=by
 intro pins s σ H x y v u Q I rx ry h;obtain ⟨hs,q⟩:=h;cases x with
 | au =>
  cases rx;cases y with
  | au=>cases ry; exact PySem.EqNone.eq_none_none (ck I q (by simp))
  | bl j=>cases ry; exact PySem.EqNone.eq_none_bool (ck I q (by simp))
  | int j=>obtain ⟨t',rfl⟩:=ry; exact PySem.EqNone.eq_none_int (ck I q (by simp))
  | str j=>obtain ⟨t',rfl⟩:=ry; exact PySem.EqNone.eq_none_str (ck I q (by simp))
  | _=>exact absurd (show false=true from hs) Bool.false_ne_true
 | bl i =>
  cases rx;cases y with
  | au=>cases ry; exact PySem.EqNone.eq_bool_none (ck I q (by simp))
  | bl j=>cases ry; exact eq_bool (ck I q E5)
  | str j=>obtain ⟨t',rfl⟩:=ry; exact PySem.EqMixed.eq_bool_str (ck I q (by simp))
  | _=>exact absurd (show false=true from hs) Bool.false_ne_true
 | int i =>
  obtain ⟨t,rfl⟩:=rx;cases y with
  | au=>cases ry; exact PySem.EqNone.eq_int_none (ck I q (by simp))
  | int j=>obtain ⟨t',rfl⟩:=ry; exact eq_int (ck I q HF)
  | str j=>obtain ⟨t',rfl⟩:=ry; exact PySem.EqMixed.eq_int_str (ck I q (by simp))
  | _=>exact absurd (show false=true from hs) Bool.false_ne_true
 | str i =>
  obtain ⟨t,rfl⟩:=rx;cases y with
  | au=>cases ry; exact PySem.EqNone.eq_str_none (ck I q (by simp))
  | bl j=>cases ry; exact PySem.EqMixed.eq_str_bool (ck I q (by simp))
  | int j=>obtain ⟨t',rfl⟩:=ry; exact PySem.EqMixed.eq_str_int (ck I q (by simp))
  | str j=>obtain ⟨t',rfl⟩:=ry; exact eq_str (ck I q Kn)
  | _=>exact absurd (show false=true from hs) Bool.false_ne_true
 | byt i =>
  obtain ⟨t,rfl⟩:=rx;cases y with
  | byt j=>obtain ⟨t',rfl⟩:=ry; exact PySem.W.eq_bytes (ck I q HX)
  | _=>exact absurd (show false=true from hs) Bool.false_ne_true
 | _=>cases y <;> exact absurd (show false=true from hs) Bool.false_ne_true
theorem Sy:aX X (compareOp .NotEq) VM:=by
 intro pins s σ H x y v u Q I rx ry h;obtain ⟨hs,q⟩:=h;cases x with
 | au =>
  cases rx;cases y with
  | au=>cases ry; exact PySem.EqNone.ne_none_none (ck I q (by simp))
  | bl j=>cases ry; exact PySem.EqNone.ne_none_bool (ck I q (by simp))
  | int j=>obtain ⟨t',rfl⟩:=ry; exact PySem.EqNone.ne_none_int (ck I q (by simp))
  | str j=>obtain ⟨t',rfl⟩:=ry; exact PySem.EqNone.ne_none_str (ck I q (by simp))
  | _=>exact absurd (show false=true from hs) Bool.false_ne_true
 | bl i =>
  cases rx;cases y with
  | au=>cases ry; exact PySem.EqNone.ne_bool_none (ck I q (by simp))
  | bl j=>cases ry; exact ne_bool (ck I q (congrArg not E5))
  | str j=>obtain ⟨t',rfl⟩:=ry; exact PySem.EqMixed.ne_bool_str (ck I q (by simp))
  | _=>exact absurd (show false=true from hs) Bool.false_ne_true
 | int i =>
  obtain ⟨t,rfl⟩:=rx;cases y with
  | au=>cases ry; exact PySem.EqNone.ne_int_none (ck I q (by simp))
  | int j=>obtain ⟨t',rfl⟩:=ry; exact ne_int (ck I q (congrArg not HF))
  | str j=>obtain ⟨t',rfl⟩:=ry; exact PySem.EqMixed.ne_int_str (ck I q (by simp))
  | _=>exact absurd (show false=true from hs) Bool.false_ne_true
 | str i =>
  obtain ⟨t,rfl⟩:=rx;cases y with
  | au=>cases ry; exact PySem.EqNone.ne_str_none (ck I q (by simp))
  | bl j=>cases ry; exact PySem.EqMixed.ne_str_bool (ck I q (by simp))
  | int j=>obtain ⟨t',rfl⟩:=ry; exact PySem.EqMixed.ne_str_int (ck I q (by simp))
  | str j=>obtain ⟨t',rfl⟩:=ry; exact ne_str (ck I q (congrArg not Kn))
  | _=>exact absurd (show false=true from hs) Bool.false_ne_true
 | byt i =>
  obtain ⟨t,rfl⟩:=rx;cases y with
  | byt j=>obtain ⟨t',rfl⟩:=ry; exact PySem.W.ne_bytes (ck I q (congrArg not HX))
  | _=>exact absurd (show false=true from hs) Bool.false_ne_true
 | _=>cases y <;> exact absurd (show false=true from hs) Bool.false_ne_true
theorem Vc:aX X (compareOp .Lt) (mS fun i j=>.bl (decide (i < j))):=Aw fun _ _ _ _ _ _ _ q=>lt_int q
theorem Y9:aX X (compareOp .LtE) (mS fun i j=>.bl (decide (i<=j))):=Aw fun _ _ _ _ _ _ _ q=>le_int q
theorem UJ:aX X (compareOp .Gt) (mS fun i j=>.bl (decide (j < i))):=Aw fun _ _ _ _ _ _ _ q=>gt_int q
theorem Ye:aX X (compareOp .In) (fun x y H Q=>∃ i j,x=.str i/\y=.str j/\Q (.bl (!(Builtin.Str.occurrences j i 0 j.length 1).isEmpty)) H):=by
 intro pins s σ H x y v u Q I rx ry h;obtain ⟨i,j,rfl,rfl,q⟩:=h;obtain ⟨t,rfl⟩:=rx;obtain ⟨t',rfl⟩:=ry;exact in_str (ck I q rfl)
theorem vU:aX X (compareOp .Is) (fun x y H Q=>y=.au/\Q (.bl (decide (x=.au))) H):=by
 intro pins s σ H x y v u Q I rx ry h;obtain ⟨rfl,q⟩:=h;cases ry;refine is_none_gen (ck I q ?_);cases x <;> first
  | (cases rx; rfl)
  | (obtain ⟨t,rfl⟩:=rx; rfl)
theorem Ft:aX X (compareOp .IsNot) (fun x y H Q=>y=.au/\Q (.bl (!decide (x=.au))) H):=by
 intro pins s σ H x y v u Q I rx ry h;obtain ⟨rfl,q⟩:=h;cases ry;refine isnot_none_gen (ck I q ?_);cases x <;> first
  | (cases rx; rfl)
  | (obtain ⟨t,rfl⟩:=rx; rfl)
theorem aX.or {f:Value->Value->Sem Value} {r r':R2} (h:aX X f r) (h':aX X f r'):aX X f (fun x y H Q=>r x y H Q\/r' x y H Q):=by
 intro pins s σ H x y v u Q I rx ry q;rcases q with q | q
 ·exact h pins s σ H x y v u Q I rx ry q
 ·exact h' pins s σ H x y v u Q I rx ry q
theorem U1 {op:CmpOp} {r:R2} (ho:aX X (compareOp op) r) (ha:PE X a ta) (hb:PE X b tb) (hm:behindInMarks op b=false):PE X (.Compare a [op] [b] pos) (kg r ta tb):=by
 intro pins s σ H Q I h;exact wpAny_Compare1 (yz ha hb I h fun v u s2 x y H2 I2 rx ry q=>ho pins s2 σ H2 x y v u Q I2 rx ry q) hm
theorem qW:(sizeLine:Nat) < 2 ^ 63:=by rw [sizeLine_eq]; decide
theorem WD:aX X (binaryOp .Add) (fun x y H Q=>∃ i j,x=.str i/\y=.str j/\i.length+j.length<=sizeLine/\Q (.str (i++j)) H):=by
 intro pins s σ H x y v u Q I rx ry h;obtain ⟨i,j,rfl,rfl,hz,q⟩:=h;obtain ⟨t,rfl⟩:=rx;obtain ⟨t',rfl⟩:=ry;exact add_str (fun t' tk=>⟨.str (i++j),H,I.tok _,⟨_,rfl⟩,q⟩) hz
theorem vals1 {x:V} {us:List Value} (r:Vals [x] us):∃ u,us=[u]/\RelV x u:=by
 cases r with
 | cons r1 r2=>cases r2; exact ⟨_,rfl,r1⟩
theorem vals2 {x y:V} {us:List Value} (r:Vals [x,y] us):∃ u w',us=[u,w']/\RelV x u/\RelV y w':=by
 cases r with
 | cons r1 r2 =>
  cases r2 with
  | cons r3 r4=>cases r4; exact ⟨_,_,rfl,r1,r3⟩
def O8 (K:PySem.W.Frag) (x:V) (H:Hp) (n:Nat):Prop :=
 match x with
 | .str y=>y.length<=sizeLine/\n=y.length
 | .byt y=>y.size<=sizeLine/\n=y.size
 | .ref p=>(∃ xs,aC K H p xs/\n=xs.length)\/∃ xs,bC K H p xs/\n=xs.length
 | _=>False
theorem Qe:cy X (.builtin "len") (fun xs H Q=>∃ x n,xs=[x]/\O8 X.K x H n/\Q (.int n) H):=by
 intro pins s σ H xs us Q I r h;obtain ⟨x,n,rfl,e,q⟩:=h;obtain ⟨u,rfl,rx⟩:=vals1 r;have hl:=qW;have hs:sizeLine=16777216:=sizeLine_eq;cases x with
 | str y =>
  obtain ⟨t,rfl⟩:=rx;obtain ⟨hy,e'⟩:y.length<=sizeLine/\n=y.length:=e;subst e';exact len_str (by omega) ⟨.int _,H,I.tok _,⟨_,rfl⟩,q⟩
 | byt y =>
  obtain ⟨t,rfl⟩:=rx;obtain ⟨hy,e'⟩:y.size<=sizeLine/\n=y.size:=e;subst e';exact PySem.W.len_bytes (by omega) ⟨.int _,H,I.tok _,⟨_,rfl⟩,q⟩
 | ref p =>
  cases rx;have e':(∃ xs,aC X.K H p xs/\n=xs.length)\/∃ xs,bC X.K H p xs/\n=xs.length:=e;rcases e' with ⟨xs,hx,e'⟩ | ⟨xs,hx,e'⟩
  ·subst e';obtain ⟨aj,r',pl,hz⟩:=I.list hx;have hlen:=r'.length;exact Calls.call_len_list pl.isList (by simp only [List.size_toArray]; omega) ⟨.int xs.length,H,I.tok _,⟨_,by simp only [List.size_toArray]; rw [hlen]⟩,q⟩
  ·subst e';obtain ⟨aj,r',pl,hz⟩:=I.tuple hx;have hlen:=r'.length;exact len_tuple pl (by simp only [List.size_toArray]; omega) ⟨.int xs.length,H,I.tok _,⟨_,by simp only [List.size_toArray]; rw [hlen]⟩,q⟩
 | _=>exact (show False from e).elim
end
structure mF (h:Heap) (x dx C:Addr) (mA:Str->Option Value):Prop where
 obj:h.get? x=some (PySem.W.instObj C dx)
 ns:h.Ns1 dx mA
 ne:dx≠x
theorem Qh {h:Heap} {dx:Addr} {mA:Str->Option Value} (n:h.Ns1 dx mA):∃ od,h.get? dx=some od/\∀ name,PySem.W.lookIn name od=some (mA name):=by
 obtain ⟨o,es,ep,ho,hd,hk,_,hm⟩:=n;refine ⟨o,ho,fun name=>?_⟩;have e:=hm name;unfold nsFind findBy at e;rw [<- Array.find?_toList] at e;unfold PySem.W.lookIn;rw [hd];dsimp only;split
 ·rename_i y q;rw [q] at e;exact congrArg some e
 ·rename_i q;rw [q] at e;have a:es.toList.any (·.refKey)=false:=by
   rw [List.any_eq_false];intro y hy;obtain ⟨z,t,hkey⟩:=hk y (Array.mem_toList_iff.mp hy);simp [DictEntry.refKey,hkey]
  have a':¬ es.toList.any (·.refKey)=true:=by rw [a]; exact Bool.false_ne_true
  rw [if_neg a'];exact congrArg some e
theorem mF.look {h:Heap} {x dx C:Addr} {mA:Str->Option Value} (I:mF h x dx C mA):∃ od,PySem.W.InstAt h x (PySem.W.instObj C dx) C (some od)/\∀ name,PySem.W.lookIn name od=some (mA name) :=
 let ⟨od,ho,hl⟩:=Qh I.ns
 ⟨od,⟨I.obj,rfl,rfl,ho⟩,hl⟩
section
variable {prog:Program} {w:World} {A:Around} {E:Value->Shared->Prop} {s:Shared} {K:PySem.W.Frag} {x dx C f:Addr} {mA:Str->Option Value} {name:Str} {v:Value}
theorem get_map {expr:Bool} {Q:Value->Shared->Prop} (X:K.In s.heap) (I:mF s.heap x dx C mA) (hg:PySem.W.plainGet K C name=true) (hh:PySem.W.hasDictIn K C=true)
  (ha:PySem.W.findIn K (.ref C) name=some none) (hv:mA name=some v) (hv':PySem.W.handedIn v=true) (h:Q v { s with toks:=s.toks+1 }) :
  wpAny (model prog w) A (getAttr (.ref x) name expr) Q E s:=by
 obtain ⟨od,J,hl⟩:=I.look;exact PySem.W.get_value X J (PySem.W.plainGet_of hg).1 (PySem.W.findObj_own hh ha rfl (by rw [hl,hv])) hv' h
theorem ZZ {pl:Sem Bool} {Q:Value×List Value->Shared->Prop} (X:K.In s.heap) (I:mF s.heap x dx C mA) (hg:PySem.W.plainGet K C name=true)
  (hf:PySem.W.findIn K (.ref C) name=some (some (.ref f))) (ht:PySem.W.isFn K (.ref f)=true) (hv:mA name=none) (h:Q (.ref f,[.ref x]) s) :
  wpAny (model prog w) A (getMethod (.ref x) name pl) Q E s:=by
 obtain ⟨od,J,hl⟩:=I.look;exact PySem.W.method_fn X J (PySem.W.plainGet_of hg).1 (PySem.W.plainGet_of hg).2 hf (beq_iff_eq.mp ht) (by show (PySem.W.lookIn name od).map (·.isSome)=some false; rw [hl,hv]; rfl) h
theorem S7 {ns:List Str} {Q:Unit->Shared->Prop} (X:K.In s.heap) (I:mF s.heap x dx C mA)
  (hs:PySem.W.findIn K (.ref C) "__setattr__" = some (some (.builtin "object.__setattr__"))) (hp:PySem.W.plainOver K C=true) (ht:PySem.W.takerIn K C name=some none) (hh:PySem.W.hasDictIn K C=true)
  (hw:PySem.Within mA ns) (hsz:ns.length<=sizeLine)
  (h:∀ h',mF h' x dx C (fun y=>if y=name then some v else mA y)->Heap.SameBut dx s.heap h'->Q () { s with heap:=h',toks:=s.toks+2 }) :
  wpAny (model prog w) A (setAttr (.ref x) name v) Q E s:=by
 obtain ⟨od,J,hl⟩:=I.look;refine PySem.W.set_plain X J hs (PySem.W.osa_open (s:={ s with toks:=s.toks+1 }) (r:=none) X J hp ht fun b=>?_);obtain ⟨cd,hc,hd'⟩:=PySem.W.any_some hh;have hx:s.heap.get? x=some ⟨.ref C,some dx,.plain,#[]⟩:=I.obj;refine wpAny_bind (wpAny_pure (wpAny_bind (wpAny_bind (wpAny_loadPart hx (wpAny_bind (PySem.W.Looks.here (s:={ s with toks:=s.toks+1 }) (PySem.W.looks_clsIn X hc) ?_))))));rw [hd'];refine wpAny_pure (a:=some dx) (wpAny_bind (wpAny_pure (wpAny_bind ?_)));refine wpAny_nsSet1 (s:={ s with toks:=s.toks+1 }) I.ns fun h' iu xE=>?_;obtain ⟨oD,esD,epD,Es,El,Ek⟩:=iu.count (PySem.Within.cons name v hw);refine wpAny_bind (wpAny_lookBehind Es (by rw [El]; exact pastItsLine_dict (Nat.le_trans Ek (by rw [List.length_cons]; omega))) ?_);exact wpAny_pure (h _ ⟨(xE.2 _ (Ne.symm I.ne)).trans I.obj,iu,I.ne⟩ xE)
theorem Y5 {R:Result->Shared->Prop} {vs:List Value} {kw:List (Str×Value)} (X:K.In s.heap) (hm:PySem.W.makesIn K C=true)
  (hi:PySem.W.findIn K (.ref C) "__init__" = some (some (.ref f))) (hf:PySem.W.typeIn K (.ref f)=some (.type "function"))
  (h:codeAny (model prog w) (A.under (.builtin "type.__call__" ⟨.ref C::vs,kw⟩)) (.call (.ref f) ⟨.ref (s.heap.objs.size+1)::vs,kw⟩) (PySem.W.InitBack (s.heap.objs.size+1) R)
   { s with heap:=(s.heap.push PySem.W.emptyDict).push (PySem.W.instObj C s.heap.objs.size) }) :
  codeAny (model prog w) A (.call (.ref C) ⟨vs,kw⟩) R s:=by
 obtain ⟨hh,g,d,t,os⟩:=s;exact PySem.W.make_core (PySem.W.makes_of X hm) (PySem.W.looks_findIn X hi) (fun self=>PySem.W.bind_fn X self hf) (.inl rfl) h
end
def ay (f:Str) (v:V):List (Str×V)->List (Str×V)
 | []=>[(f,v)]
 | (g,x)::r=>if g=f then (g,v)::r else (g,x)::ay f v r
theorem dS (f g:Str) (v:V):∀ fs:List (Str×V),(ay f v fs).lookup g=if g=f then some v else fs.lookup g
 | []=>by
  show List.lookup g [(f,v)]=_;by_cases h:g=f
  ·have hb:(g == f)=true:=beq_iff_eq.mpr h;simp only [List.lookup,hb,if_pos h]
  ·have hb:(g == f)=false:=beq_eq_false_iff_ne.mpr h;simp only [List.lookup,hb,if_neg h]
 | (k,x)::r=>by
  have ih:=dS f g v r;rw [show ay f v ((k,x)::r)=(if k=f then (k,v)::r else (k,x)::ay f v r) from rfl];by_cases hk:k=f
  ·rw [if_pos hk];by_cases h:g=k
   ·have hb:(g == k)=true:=beq_iff_eq.mpr h;simp only [List.lookup,hb,if_pos (h.trans hk)]
   ·have hb:(g == k)=false:=beq_eq_false_iff_ne.mpr h;simp only [List.lookup,hb,if_neg (fun e:g=f=>h (e.trans hk.symm))]
  ·rw [if_neg hk];by_cases h:g=k
   ·have hb:(g == k)=true:=beq_iff_eq.mpr h;simp only [List.lookup,hb,if_neg (fun e:g=f=>hk (h.symm.trans e))]
   ·have hb:(g == k)=false:=beq_eq_false_iff_ne.mpr h;simp only [List.lookup,hb];exact ih
theorem zp (f:Str) (v:V):∀ fs:List (Str×V),f∈(ay f v fs).map (·.1)/\∀ g,g∈fs.map (·.1)->g∈(ay f v fs).map (·.1)
 | []=>⟨by simp [ay],fun g h=>by simp at h⟩
 | (k,x)::r=>by
  obtain ⟨i1,i2⟩:=zp f v r;rw [show ay f v ((k,x)::r)=(if k=f then (k,v)::r else (k,x)::ay f v r) from rfl];by_cases hk:k=f
  ·rw [if_pos hk];subst hk;exact ⟨by simp,fun g h=>by simpa using h⟩
  ·rw [if_neg hk];refine ⟨?_,fun g h=>?_⟩
   ·rw [List.map_cons];exact List.mem_cons_of_mem _ i1
   ·rw [List.map_cons] at h ⊢;rcases List.mem_cons.mp h with e | e
    ·exact List.mem_cons.mpr (.inl e)
    ·exact List.mem_cons_of_mem _ (i2 g e)
theorem Ar (f:Str) (v:V):∀ fs:List (Str×V),(ay f v fs).length<=fs.length+1
 | []=>by simp [ay]
 | (k,x)::r=>by
  have ih:=Ar f v r;rw [show ay f v ((k,x)::r)=(if k=f then (k,v)::r else (k,x)::ay f v r) from rfl];by_cases hk:k=f
  ·rw [if_pos hk,List.length_cons,List.length_cons]; omega
  ·rw [if_neg hk,List.length_cons,List.length_cons]; omega
theorem eg.some_of {v:V} {o:Option Value} (r:eg (some v) o):∃ u,o=some u/\RelV v u:=by
 cases o with
 | none=>exact (show False from r).elim
 | some u=>exact ⟨u,rfl,r⟩
theorem eg.none_of {o:Option Value} (r:eg none o):o=none:=by
 cases o with
 | none=>rfl
 | some u=>exact (show False from r).elim
theorem Z1 {v:V} {u:Value} (r:RelV v u):PySem.W.handedIn u=true:=by
 cases v with
 | au=>cases (show u=Value.none from r); rfl
 | bl b=>cases (show u=Value.bool b from r); rfl
 | int i=>obtain ⟨t,e⟩:=(show ∃ t,u=Value.int i t from r); cases e; rfl
 | str x=>obtain ⟨t,e⟩:=(show ∃ t,u=Value.str x t from r); cases e; rfl
 | byt b=>obtain ⟨t,e⟩:=(show ∃ t,u=Value.bytes b t from r); cases e; rfl
 | mL b=>obtain ⟨t,e⟩:=(show ∃ t,u=Value.float b t from r); cases e; rfl
 | ref a=>cases (show u=Value.ref a from r); rfl
 | ty n=>cases (show u=Value.type n from r); rfl
section
variable {P:Program} {w:World} {H H':Hp} {h h':Heap} {a C dx:Addr} {fs fs':List (Str×V)}
theorem vg (aA:bZ P w H h) (e:H a=some (.ins C dx fs)):∃ mA,mF h a dx C mA/\(∀ f,eg (fs.lookup f) (mA f))/\PySem.Within mA (fs.map (·.1))/\fs.length<=1000/\H dx=some (.own a):=by
 obtain ⟨d,z,ne,ob,mA,n,r,q⟩:=(show bH P w H h a (.ins C dx fs) from aA a _ e);exact ⟨mA,⟨ob,n,ne⟩,r,q,z,d⟩
end
structure cK (K:PySem.W.Frag) (C:Addr):Prop where
 pg:PySem.W.plainGet K C Str.empty=true
 hd:PySem.W.hasDictIn K C=true
 po:PySem.W.plainOver K C=true
 sa:PySem.W.findIn K (.ref C) "__setattr__" = some (some (.builtin "object.__setattr__"))
theorem cK.get {K:PySem.W.Frag} {C:Addr} (c:cK K C) (f:Str):PySem.W.plainGet K C f=true:=c.pg
def bA (K:PySem.W.Frag) (C:Addr) (f:Str):Prop:=PySem.W.findIn K (.ref C) f=some none
theorem bA.YH {K:PySem.W.Frag} {C:Addr} {f:Str} (n:bA K C f):PySem.W.takerIn K C f=some none:=by
 unfold PySem.W.takerIn;rw [show PySem.W.findIn K (.ref C) f=some none from n];rfl
structure Con (K:PySem.W.Frag) (C:Addr) (f:Str) (v:V) (u:Value):Prop where
 at_:PySem.W.findIn K (.ref C) f=some (some u)
 rel:RelV v u
 get:PySem.W.specialIn K u "__get__" = some none
 cp:PySem.W.copiedNames.contains f=false
structure Meth (K:PySem.W.Frag) (C:Addr) (m:Str) (f:Addr):Prop where
 at_:PySem.W.findIn K (.ref C) m=some (some (.ref f))
 fn:PySem.W.isFn K (.ref f)=true
 kp:PySem.W.keepIn K (.ref f)=true
section
variable {X:Cx} {pins:List (Addr×Obj)} {σ:St} {H:Hp} {s:Shared} {a C dx:Addr} {fs:List (Str×V)} {f:Str} {v:V} {A:Around} {E:Value->Shared->Prop}
theorem JU {b:Bool} {Q:Value->Shared->Prop} (I:Inv X pins σ H s) (e:H a=some (.ins C dx fs)) (c:cK X.K C) (n:bA X.K C f) (l:fs.lookup f=some v)
  (h:∀ u s',Inv X pins σ H s'->RelV v u->Q u s'):wpAny (model X.prog X.w) A (getAttr (.ref a) f b) Q E s:=by
 obtain ⟨mA,O,r,_,_,_⟩:=vg I.aA e;obtain ⟨u,hu,ru⟩:=eg.some_of (v:=v) (o:=mA f) (by rw [<- l]; exact r f);exact get_map I.bT O (c.get f) c.hd n hu (Z1 ru) (h u _ (I.tok _) ru)
theorem AQ {m:Str} {g:Addr} {pl:Sem Bool} {Q:Value×List Value->Shared->Prop} (I:Inv X pins σ H s) (e:H a=some (.ins C dx fs)) (c:cK X.K C) (k:Meth X.K C m g) (l:fs.lookup m=none)
  (h:Q (.ref g,[.ref a]) s):wpAny (model X.prog X.w) A (getMethod (.ref a) m pl) Q E s:=by
 obtain ⟨mA,O,r,_,_,_⟩:=vg I.aA e;have hn:mA m=none:=eg.none_of (by rw [<- l]; exact r m);exact ZZ I.bT O (c.get m) k.at_ k.fn hn h
theorem IJ {y:V} {u:Value} {Q:Unit->Shared->Prop} (I:Inv X pins σ H s) (e:H a=some (.ins C dx fs)) (c:cK X.K C) (n:bA X.K C f) (hl:fs.length < 1000) (ry:RelV y u)
  (h:∀ s',Inv X pins σ (upd H a (.ins C dx (ay f y fs))) s'->Q () s'):wpAny (model X.prog X.w) A (setAttr (.ref a) f u) Q E s:=by
 obtain ⟨mA,O,r,wi,_,ho⟩:=vg I.aA e;have hz:(fs.map (·.1)).length<=sizeLine:=by rw [List.length_map,sizeLine_eq]; omega
 refine S7 I.bT O c.sa c.po n.YH c.hd wi hz fun h' O' sb=>h _ ?_;have hd:∃ o,h'.get? dx=some o:=let ⟨o,_,_,e',_⟩:=O'.ns; ⟨o,e'⟩
 refine I.write (x:=a) (e:=dx) (by rw [e]; exact True.intro) (.inr ho) (fun b q hb z=>(sb.2 b hb).trans z) hd ?_;refine ⟨by rw [ag O.ne]; exact ho,?_,O.ne,O'.obj,_,O'.ns,fun g=>?_,fun g hg=>?_⟩
 ·have:=Ar f y fs; omega
 ·show eg ((ay f y fs).lookup g) (if g=f then some u else mA g);rw [dS];by_cases q:g=f
  ·rw [if_pos q,if_pos q]; exact ry
  ·rw [if_neg q,if_neg q]; exact r g
 ·by_cases q:g=f
  ·rw [q]; exact (zp f y fs).1
  ·refine (zp f y fs).2 g (wi g fun z=>hg ?_);show (if g=f then some u else mA g)=none;rw [if_neg q]; exact z
theorem Inv.made (I:Inv X pins σ H s):Inv X pins σ (upd (upd H s.heap.objs.size (.own (s.heap.objs.size+1))) (s.heap.objs.size+1) (.ins C s.heap.objs.size []))
  { s with heap:=(s.heap.push PySem.W.emptyDict).push (PySem.W.instObj C s.heap.objs.size) }:=by
 have e1:(s.heap.push PySem.W.emptyDict).get? s.heap.objs.size=some PySem.W.emptyDict:=Heap.get?_push_size s.heap rfl;have e2:((s.heap.push PySem.W.emptyDict).push (PySem.W.instObj C s.heap.objs.size)).get? (s.heap.objs.size+1)=some (PySem.W.instObj C s.heap.objs.size):=by
  have:=Heap.get?_push_size (s.heap.push PySem.W.emptyDict) (o:=PySem.W.instObj C s.heap.objs.size) rfl
  rwa [Heap.size_push] at this
 have e3:(s.heap.push PySem.W.emptyDict).Ns s.heap.objs.size (fun _=>none):=⟨PySem.W.emptyDict,#[],_,e1,rfl,(fun e he=>absurd he (by simp)),fun _=>rfl⟩;have I1:=I.laid (a:=s.heap.objs.size) (o:=.own (s.heap.objs.size+1)) (h':=s.heap.push PySem.W.emptyDict) (t':=s.toks) (fun b u q=>Heap.get?_push_of_some _ q) (Nat.le_refl _) ⟨_,e1⟩;refine I1.laid (a:=s.heap.objs.size+1) (o:=.ins C s.heap.objs.size []) (t':=s.toks) (fun b u q=>Heap.get?_push_of_some _ q) (Nat.le_of_eq (Heap.size_push _ _)) ?_;have ne:s.heap.objs.size≠s.heap.objs.size+1:=Nat.ne_of_lt (Nat.lt_succ_self _);refine ⟨by rw [ag ne,ax],Nat.zero_le _,ne,e2,fun _=>none,(Heap.Ns1.of_empty e3).at fun o q=>Heap.get?_push_of_some _ q,fun _=>True.intro,fun y hy=>absurd rfl hy⟩
theorem Gp {prog:Program} {w:World} {env:Env} {e:Expr} {f:Str} {pos:Pos} {s:Shared} {Q:Value->Shared->Prop} (hb:attributeBase e f env (eval e env)=eval e env)
  (h:wpAny (model prog w) A (eval e env) (fun o s₁=>wpAny (model prog w) A (getAttr o f true) Q E s₁) E s):wpAny (model prog w) A (eval (.Attribute e f pos) env) Q E s :=
 Attribute_any_ h (by rw [arm_eval_Attribute,hb])
end
def CM (X:Cx) (op:Operator) (rd:V->V->Hp->VK->Prop):Prop :=
 ∀ (pins:List (Addr×Obj)) (s:Shared) (σ:St) (H:Hp) (x y:V) (u v:Value) (Q:VK),Inv X pins σ H s->RelV x u->RelV y v->rd x y H Q->wpAny (model X.prog X.w) X.A (inplaceOp op u v) (EP X pins σ Q) X.xe s
section
variable {X:Cx} {o e value:Expr} {f:Str} {pos pos' tpos:Pos} {ta tv:TE}
def KH:V->V->Hp->VK->Prop:=fun x y H Q=>∃ i j,x=.int i/\y=.int j/\Q (.int (i+j)) H
theorem jO:CM X .Add KH:=by
 rintro pins s σ H x y u v Q I rx ry ⟨i,j,rfl,rfl,q⟩;obtain ⟨t,rfl⟩:=(show ∃ t,u=Value.int i t from rx);obtain ⟨t',rfl⟩:=(show ∃ t',v=Value.int j t' from ry);exact PyProof.Rows.iadd_int ⟨.int (i+j),H,I.tok _,⟨_,rfl⟩,q⟩
end
section
variable {X:Cx} {pins:List (Addr×Obj)} {σ:St} {H:Hp} {s:Shared} {A:Around} {E:Value->Shared->Prop} {Q:Value->Shared->Prop} {c:Value} {b:Bool}
inductive fk (K:PySem.W.Frag) (H:Hp):V->Value->Prop where
 | au:fk K H .au (.type "NoneType")
 | bl (x:Bool):fk K H (.bl x) (.type "bool")
 | int (i:Int):fk K H (.int i) (.type "int")
 | str (x:Str):fk K H (.str x) (.type "str")
 | mL (x:UInt64):fk K H (.mL x) (.type "float")
 | lst {a:Addr} {xs:List V} (e:H a=some (.lst xs)):fk K H (.ref a) (.type "list")
 | eA {a:Addr} {o:Obj} {xs:List V} (e:H a=some (.eA o (.lst xs))):fk K H (.ref a) (.type "list")
 | tup {a:Addr} {xs:List V} (e:H a=some (.tup xs)):fk K H (.ref a) (.type "tuple")
 | dK {a:Addr} {kvs:List (Key×V)} (e:H a=some (.dK kvs)):fk K H (.ref a) (.type "dict")
 | dT {a:Addr} {kvs:List (List Key×V)} (e:H a=some (.dT kvs)):fk K H (.ref a) (.type "dict")
 | ins {a C dx:Addr} {fs:List (Str×V)} (e:H a=some (.ins C dx fs)) (cl:cK K C) (ha:PySem.W.findIn K (.ref C) "__class__" = some (some (.builtin "object.__class__")))
   (hn:PySem.W.specialIn K (.builtin "object.__class__") "__get__" = some (some (.builtin "getset_descriptor.__get__"))) (fQ:PySem.W.takesIn K (.builtin "object.__class__")=some true)
   (hm:PySem.W.mroIn K C (.type "object")=some true):fk K H (.ref a) (.ref C)
theorem Bs {x:V} {u t:Value} (I:Inv X pins σ H s) (rx:RelV x u) (ty:fk X.K H x t) (e:PySem.W.kitOne X.K t c=some b) (h:∀ tk,Q (.bool b) { s with toks:=tk }) :
  wpAny (model X.prog X.w) A (call (.builtin "isinstance") [u,c]) Q E s:=by
 cases ty with
 | au=>cases (show u=Value.none from rx); exact PySem.W.kia_one PySem.W.kitx_none I.bT True.intro e (fun z=>nomatch z) h
 | bl y=>cases (show u=Value.bool y from rx); exact PySem.W.kia_one PySem.W.kitx_bool I.bT True.intro e (fun z=>nomatch z) h
 | int i=>obtain ⟨t,q⟩:=(show ∃ t,u=Value.int i t from rx); cases q; exact PySem.W.kia_one PySem.W.kitx_int I.bT True.intro e (fun z=>nomatch z) h
 | str y=>obtain ⟨t,q⟩:=(show ∃ t,u=Value.str y t from rx); cases q; exact PySem.W.kia_one PySem.W.kitx_str I.bT True.intro e (fun z=>nomatch z) h
 | mL y=>obtain ⟨t,q⟩:=(show ∃ t,u=Value.float y t from rx); cases q; exact PySem.W.kia_one PySem.W.kitx_float I.bT True.intro e (fun z=>nomatch z) h
 | @lst a xs ea =>
  cases (show u=Value.ref a from rx);obtain ⟨_,_,n,_,h1⟩:=(show bH X.prog X.w H s.heap a (.lst xs) from I.aA a _ ea);exact PySem.W.kia_one PySem.W.kitx_list I.bT ⟨_,h1,rfl⟩ e (fun z=>nomatch z) h
 | @eA a ob xs ea =>
  cases (show u=Value.ref a from rx);obtain ⟨_,_,_,n,_,h1⟩:=(show bH X.prog X.w H s.heap a (.eA ob (.lst xs)) from I.aA a _ ea);exact PySem.W.kia_one PySem.W.kitx_list I.bT ⟨_,h1,rfl⟩ e (fun z=>nomatch z) h
 | @tup a xs ea =>
  cases (show u=Value.ref a from rx);obtain ⟨_,_,_,p⟩:=(show bH X.prog X.w H s.heap a (.tup xs) from I.aA a _ ea);obtain ⟨o,h1,h2,_⟩:=p;exact PySem.W.kia_one PySem.W.kitx_tuple I.bT ⟨o,h1,h2⟩ e (fun z=>nomatch z) h
 | @dK a kvs ea =>
  cases (show u=Value.ref a from rx);obtain ⟨_,_,vs,_,p⟩:=(show bH X.prog X.w H s.heap a (.dK kvs) from I.aA a _ ea);obtain ⟨o,es,ep,h1,h2,_⟩:=p;exact PySem.W.kia_one PySem.W.kitx_dict I.bT ⟨o,h1,h2.1⟩ e (fun z=>nomatch z) h
 | @dT a kvs ea =>
  cases (show u=Value.ref a from rx);obtain ⟨_,_,xs,_,o,es,ep,h1,h2,_⟩:=(show bH X.prog X.w H s.heap a (.dT kvs) from I.aA a _ ea);exact PySem.W.kia_one PySem.W.kitx_dict I.bT ⟨o,h1,h2.1⟩ e (fun z=>nomatch z) h
 | @ins a C dx fs ea cl ha hn fQ hm =>
  cases (show u=Value.ref a from rx);obtain ⟨mA,O,_⟩:=vg I.aA ea;obtain ⟨od,J,_⟩:=O.look;exact PySem.W.kia_one (PySem.W.kitx_own (cl.get _) cl.hd ha hn fQ hm) I.bT J e (fun z=>nomatch z) h
end
structure aZ (k:Nat) (A:Around):Prop where
 hd:A.handled=none
 dp:A.depth+3 * k+5 < recursionLimit
 un:A.units+16 * k+200 < cLine
theorem aZ.mono {j k:Nat} {A:Around} (r:aZ k A) (h:j<=k):aZ j A:=⟨r.hd,by have:=r.dp; omega,by have:=r.un; omega⟩
theorem aZ.deeper {k:Nat} {A:Around} (r:aZ (k+1) A) (env:Env):aZ k (A.deeper env) :=
 ⟨r.hd,by have:=r.dp; show A.depth+1+3 * k+5 < _; omega,by have:=r.un; show A.units+3+16 * k+200 < _; omega⟩
theorem Ro {A:Around} {C:Addr} {us:List Value} {kw:List (Str×Value)}:(A.under (.builtin "type.__call__" ⟨.ref C::us,kw⟩)).depth=A.depth+1:=by
 first | rfl | simp [Around.under,Code.weight,Code.isCreation,Code.isGuard,Code.isCaller,Code.frames,Code.isFrame,guardIds]
theorem Qc {A:Around} {C:Addr} {us:List Value} {kw:List (Str×Value)}:(A.under (.builtin "type.__call__" ⟨.ref C::us,kw⟩)).units=A.units+1:=by
 first | rfl | simp [Around.under,Code.cUnits,Code.frames,Code.isFrame]
theorem aZ.make {k:Nat} {A:Around} (r:aZ (k+1) A) (C:Addr) (us:List Value) (kw:List (Str×Value)):aZ k (A.under (.builtin "type.__call__" ⟨.ref C::us,kw⟩)) :=
 ⟨r.hd,by have:=r.dp; rw [Ro]; omega,by have:=r.un; rw [Qc]; omega⟩
theorem aZ.depth {k:Nat} {A:Around} (r:aZ k A):A.depth < recursionLimit:=by have:=r.dp; omega
theorem aZ.units {k:Nat} {A:Around} (r:aZ k A):A.units+64 < cLine:=by have:=r.un; omega
theorem aZ.wy {k:Nat} {A:Around} (r:aZ k A):A.units < cLine:=by have:=r.un; omega
def lh:TA:=fun _ H Q=>Q [] H
def ou (ta:TE) (tr:TA):TA:=fun σ H Q=>ta σ H fun x H1=>tr σ H1 fun xs H2=>Q (x::xs) H2
section
variable {X:Cx} {e:Expr} {es:List Expr} {te:TE} {t:TA} {pos:Pos}
theorem Y2:PA X [] lh:=fun _ _ _ _ H Q I h=>Calls.spliced_nil ⟨[],H,I,.nil,h⟩
theorem Q8 (ha:PE X e te) (hr:PA X es t) (hs:starEach (e::es) X.env=(false,eval e X.env)::starEach es X.env:=by rfl):PA X (e::es) (ou te t):=by
 intro pos pins s σ H Q I h;rw [hs];show wpAny _ _ (spliced ((false,eval e X.env)::backTo pos (starEach es X.env))) _ _ s;refine Calls.spliced_cons (aD (ha pins s σ H _ I h) fun u s1 ⟨x,H1,I1,r1,q1⟩=>?_);exact aD (hr pos pins s1 σ H1 _ I1 q1) fun us s2 ⟨xs,H2,I2,r2,q2⟩=>⟨x::xs,H2,I2,.cons r1 r2,q2⟩
def wM (t:TA):TE:=fun σ H Q=>t σ H fun xs H1=>xs.length<=sizeLine/\∀ p,H1 p=none->Q (.ref p) (upd H1 p (.tup xs))
def z0 (t:TA):TE:=fun σ H Q=>t σ H fun xs H1=>xs.length<=sizeLine/\∀ p,H1 p=none->Q (.ref p) (upd H1 p (.lst xs))
theorem Xa {x1} (h:PA X es t):PE X (.Tuple es x1 pos) (wM t):=by
 intro pins s σ H Q I hq;refine wpAny_Tuple_spliced (aD (h pos pins s σ H _ I hq) fun us s1 ⟨xs,H1,I1,r,z,q⟩=>⟨by rw [<- r.length]; exact z,?_⟩);have hf:H1 s1.heap.objs.size=none:=I1.aA.fresh (Nat.le_refl _);refine ⟨.ref s1.heap.objs.size,upd H1 s1.heap.objs.size (.tup xs),I1.laid (t':=s1.toks) (fun b u e=>Heap.get?_push_of_some _ e) (Nat.le_refl _) ?_,rfl,q _ hf⟩;exact ⟨z,us,r,⟨_,Heap.get?_push_size _ rfl,rfl,_,rfl,rfl⟩⟩
theorem XD (h:PA X es t):PE X (.List es pos) (z0 t):=by
 intro pins s σ H Q I hq;refine wpAny_List_spliced (aD (h pos pins s σ H _ I hq) fun us s1 ⟨xs,H1,I1,r,z,q⟩=>⟨by rw [<- r.length]; exact z,?_⟩);have hf:H1 s1.heap.objs.size=none:=I1.aA.fresh (Nat.le_refl _);refine ⟨.ref s1.heap.objs.size,upd H1 s1.heap.objs.size (.lst xs),I1.laid (t':=s1.toks) (fun b u e=>Heap.get?_push_of_some _ e) (Nat.le_refl _) ?_,rfl,q _ hf⟩;exact ⟨z,us,0,r,Heap.get?_push_size _ rfl⟩
end
abbrev Sp:=List V->Hp->VK->XK->Prop
abbrev dA:=List Env->Hp->Shared->XK->Value->Shared->Prop
structure j7 (P:Program) (w:World) (K:PySem.W.Frag) (mg:Str->Option Value) (base:Heap) (A:Around) (outer:List Env) (s:Shared) (H:Hp):Prop where
 frames:A.frames=some outer
 mod:Mod K mg base
 bs:∀ b o,base.get? b=some o->s.heap.get? b=some o/\H b=none
 gy:base.objs.size<=s.heap.objs.size
 eU:s.heap.FunFrames base outer
 iL:∀ b∈bF outer,H b=none
 aA:bZ P w H s.heap
 bare:AllBare s.gens
def CE (outer:List Env) (P:Program) (w:World) (H:Hp) (s:Shared) (Q:VK) (u:Value) (s':Shared):Prop :=
 ∃ v H',s'.os=s.os/\AllBare s'.gens/\Un (bF outer) [] H H' s.heap s'.heap/\bZ P w H' s'.heap/\RelV v u/\Q v H'
def CR (CX:dA) (outer:List Env) (P:Program) (w:World) (H:Hp) (s:Shared) (Q:VK) (E:XK) (r:Result) (s':Shared):Prop :=
 match r with
 | .ok (.ret u)=>CE outer P w H s Q u s'
 | .ok _=>False
 | .error e=>CX outer H s E e s'
structure aB (P:Program) (w:World) (K:PySem.W.Frag) (mg:Str->Option Value) (base:Heap) (CX:dA) (k:Nat) (f:Addr) (fd:FuncData) (ps:List Str) (sp:Sp):Prop where
 len:∀ vs H Q E,sp vs H Q E->vs.length=ps.length
 run:∀ (A:Around) (outer:List Env) (s:Shared) (H:Hp) (args:Args) (us:List Value) (vs:List V) (Q:VK) (E:XK),aZ k A->j7 P w K mg base A outer s H->BindsTo s fd args (ps.zip us)->Vals vs us->sp vs H Q E ->
  codeAny (model P w) A (.call (.ref f) args) (CR CX outer P w H s Q E) s
theorem j7.make {P:Program} {w:World} {K:PySem.W.Frag} {mg:Str->Option Value} {base:Heap} {A:Around} {outer:List Env} {s:Shared} {H:Hp} (e:j7 P w K mg base A outer s H) (C:Addr) (us:List Value) (kw:List (Str×Value)) :
  j7 P w K mg base (A.under (.builtin "type.__call__" ⟨.ref C::us,kw⟩)) outer s H:=⟨by first | exact e.frames | (simpa [Around.under,Code.envs,Code.isFrame,pushEnvs] using e.frames),e.mod,e.bs,e.gy,e.eU,e.iL,e.aA,e.bare⟩
section
variable {X:Cx} {pins:List (Addr×Obj)} {σ:St} {H:Hp} {s s':Shared}
theorem Inv.oB (I:Inv X pins σ H s):j7 X.prog X.w X.K X.mg X.base X.A X.stack s H :=
 ⟨I.ok.frames,I.ok.mod,I.bs,Nat.le_trans I.ok.gy I.sz,I.stack,I.uG,I.aA,I.bare⟩
theorem Inv.after {Q:VK} {u:Value} (I:Inv X pins σ H s) (h:CE X.stack X.prog X.w H s Q u s'):EP X pins σ Q u s':=by
 obtain ⟨v,H',os,bare,un,aA,r,q⟩:=h;obtain ⟨hh,g,d,t,os'⟩:=s';obtain rfl:os'=s.os:=os;exact ⟨v,H',I.call (h':=hh) (g':=g) (d':=d) (t':=t) (ch:=[]) un aA bare (fun b z=>absurd z (by simp)),r,q⟩
end
def uZ (sp:Sp) (bj:List V) (E:XK) (t:TA):TE:=fun σ H Q=>t σ H fun vs H1=>sp (vs++bj) H1 Q E
inductive MI (C:Addr) (m:Str) (x:V) (H:Hp) (q:Prop):Prop
 | mk:∀ a dx fs,x=.ref a->H a=some (.ins C dx fs)->fs.lookup m=none->q->MI C m x H q
def qH (C:Addr) (m:Str) (sp:Sp) (bj:List V) (E:XK) (ta:TE) (t:TA):TE:=fun σ H Q=>ta σ H fun x H1=>MI C m x H1 (t σ H1 fun vs H2=>sp (x::(vs++bj)) H2 Q E)
def qT (C:Addr) (sp:Sp) (bj:List V) (E:XK) (t:TA):TE:=fun σ H Q=>t σ H fun vs H1=>∀ x dx,H1 x=none->H1 dx=none->dx≠x ->
 sp (.ref x::(vs++bj)) (upd (upd H1 dx (.own x)) x (.ins C dx [])) (fun v H2=>v=.au/\Q (.ref x) H2) E
def Binds (K:PySem.W.Frag) (fd:FuncData) (ps:List Str) (ds:List Value):Prop :=
 ∀ (s:Shared) (us:List Value),K.In s.heap->(us++ds).length=ps.length->BindsTo s fd ⟨us,[]⟩ (ps.zip (us++ds))
theorem Binds.all {K:PySem.W.Frag} {fd:FuncData} {ps:List Str} (h:∀ us:List Value,us.length=ps.length->bindArgs fd ⟨us,[]⟩=pure (ps.zip us)):Binds K fd ps []:=fun s us _ hl=>by
 rw [List.append_nil] at hl ⊢;exact .of_eq (h us hl)
def Passes (CX:dA) (X:Cx) (E:XK):Prop:=∀ (pins:List (Addr×Obj)) (σ:St) (H:Hp) (s:Shared) (e:Value) (s':Shared),Inv X pins σ H s->CX X.stack H s E e s'->X.xe e s'
section
variable {X:Cx} {CX:dA} {k:Nat} {f C:Addr} {fd:FuncData} {ps:List Str} {sp:Sp} {bj:List V} {ds:List Value} {E:XK} {x m:Str} {p pos apos:Pos} {e o:Expr} {es:List Expr} {ta:TE} {t:TA}
theorem yA {pins:List (Addr×Obj)} {σ:St} {H:Hp} {s:Shared} {Q:VK} {us:List Value} {vs:List V} (F:aB X.prog X.w X.K X.mg X.base CX k f fd ps sp) (hr:aZ k X.A) (hb:Binds X.K fd ps ds) (hd:Vals bj ds) (hx:Passes CX X E)
  (I:Inv X pins σ H s) (r:Vals vs us) (h:sp (vs++bj) H Q E):wpAny (model X.prog X.w) X.A (call (.ref f) us) (EP X pins σ Q) X.xe s:=by
 have r2:Vals (vs++bj) (us++ds):=r.append hd;have hl:(us++ds).length=ps.length:=by rw [<- r2.length]; exact F.len _ _ _ _ h
 refine wpAny_call (codeAny_mono (F.run X.A X.stack s H ⟨us,[]⟩ (us++ds) (vs++bj) Q E hr I.oB (hb s us I.bT hl) r2 h) fun r s' hq=>?_);cases r with
 | error e=>exact hx pins σ H s e s' I hq
 | ok fl =>
  cases fl with
  | ret u=>exact I.after hq
  | next=>exact False.elim hq
  | brk=>exact False.elim hq
  | cont=>exact False.elim hq
theorem WO (F:aB X.prog X.w X.K X.mg X.base CX k f fd ps sp) (hr:aZ k X.A) (hg:Gl X x) (hm:X.mg x=some (.ref f)) (hk:PySem.W.keepIn X.K (.ref f)=true) (hb:Binds X.K fd ps ds) (hd:Vals bj ds) (hx:Passes CX X E)
  (ha:PA X (e::es) t) (bI:(x == ("__debug__" : Str))=false:=by decide) (he:starEach (e::es) X.env=(false,eval e X.env)::starEach es X.env:=by rfl) (bt:(backTo pos (starEach es X.env)).any (·.1)=false:=by rfl) :
  PE X (.Call (.Name x p) (e::es) [] pos) (uZ sp bj E t):=by
 intro pins s σ H Q I h;refine wpAny_Call_Name_kw (jR I hg hm ?_ bI);refine PySem.W.callWith_K (h₀:=X.base) I.ok.mod.hV hk (aD (ha pos pins s σ H _ I h) fun us s1 ⟨vs,H1,I1,r,q⟩=>⟨I1.bT,?_⟩) he bt;exact yA F hr hb hd hx I1 r q
theorem Zi {pl:Sem Bool} (he:PE X o ta) (c:cK X.K C) (hm:Meth X.K C m f) (F:aB X.prog X.w X.K X.mg X.base CX k f fd ps sp) (hr:aZ k X.A) (hb:Binds X.K fd ps ds) (hd:Vals bj ds) (hx:Passes CX X E) (ha:PA X (e::es) t)
  (aR:starEach (e::es) X.env=(false,eval e X.env)::starEach es X.env:=by rfl) (bt:(backTo pos (starEach es X.env)).any (·.1)=false:=by rfl)
  (ht:eval (.Call (.Attribute o m apos) (e::es) [] pos) X.env=(do
   let ov <- eval o X.env
   standAt apos.atName
   let (f,first) <- holding [ov] (getMethod ov m pl)
   callWith pos f first (backTo pos (starEach (e::es) X.env)) (backToKw pos (keywordEach [] X.env))):=by rfl) :
  PE X (.Call (.Attribute o m apos) (e::es) [] pos) (qH C m sp bj E ta t):=by
 intro pins s σ H Q I h;refine PySem.W.methodCall_KW (pl:=pl) (aD (he pins s σ H _ I h) fun u s1 ⟨x,H1,I1,rx,a,dx,fs,ex,ea,l,q⟩=>?_) ht;subst ex;obtain rfl:u=Value.ref a:=rx;refine AQ I1 ea c hm l ?_;refine PySem.W.callWith_K (first:=[.ref a]) (h₀:=X.base) I.ok.mod.hV hm.kp (aD (ha pos pins s1 σ H1 _ I1 q) fun us s2 ⟨vs,H2,I2,r,q2⟩=>⟨I2.bT,?_⟩) aR bt;exact yA (us:=.ref a::us) (vs:=.ref a::vs) F hr hb hd hx I2 (.cons rfl r) q2
theorem R3 {pl:Sem Bool} (he:PE X o ta) (c:cK X.K C) (hm:Meth X.K C m f) (F:aB X.prog X.w X.K X.mg X.base CX k f fd ps sp) (hr:aZ k X.A) (hb:Binds X.K fd ps ds) (hd:Vals bj ds) (hx:Passes CX X E)
  (ht:eval (.Call (.Attribute o m apos) [] [] pos) X.env=(do
   let ov <- eval o X.env
   standAt apos.atName
   let (f,first) <- holding [ov] (getMethod ov m pl)
   callWith pos f first (backTo pos (starEach [] X.env)) (backToKw pos (keywordEach [] X.env))):=by rfl) :
  PE X (.Call (.Attribute o m apos) [] [] pos) (qH C m sp bj E ta lh):=by
 intro pins s σ H Q I h;refine PySem.W.methodCall_KW (pl:=pl) (aD (he pins s σ H _ I h) fun u s1 ⟨x,H1,I1,rx,a,dx,fs,ex,ea,l,q⟩=>?_) ht;subst ex;obtain rfl:u=Value.ref a:=rx;refine AQ I1 ea c hm l ?_;exact PySem.W.callWith_K0 (first:=[.ref a]) I1.bT hm.kp (yA (us:=[.ref a]) (vs:=[.ref a]) F hr hb hd hx I1 (.cons rfl .nil) q)
structure Mk (K:PySem.W.Frag) (C f:Addr):Prop where
 makes:PySem.W.makesIn K C=true
 init:PySem.W.findIn K (.ref C) "__init__" = some (some (.ref f))
 fn:PySem.W.isFn K (.ref f)=true
 kp:PySem.W.keepIn K (.ref C)=true
theorem HW {pins:List (Addr×Obj)} {σ:St} {H:Hp} {s:Shared} {Q:VK} {us:List Value} {vs:List V} (M:Mk X.K C f) (F:aB X.prog X.w X.K X.mg X.base CX k f fd ps sp) (hr:aZ (k+1) X.A) (hb:Binds X.K fd ps ds) (hd:Vals bj ds)
  (hx:Passes CX X E) (I:Inv X pins σ H s) (r:Vals vs us)
  (h:∀ x dx,H x=none->H dx=none->dx≠x->sp (.ref x::(vs++bj)) (upd (upd H dx (.own x)) x (.ins C dx [])) (fun v H2=>v=.au/\Q (.ref x) H2) E) :
  wpAny (model X.prog X.w) X.A (call (.ref C) us) (EP X pins σ Q) X.xe s:=by
 have hq:=h (s.heap.objs.size+1) s.heap.objs.size (I.aA.fresh (Nat.le_succ _)) (I.aA.fresh (Nat.le_refl _)) (Nat.ne_of_lt (Nat.lt_succ_self _));have I2:=Inv.made (C:=C) I;have r2:Vals (V.ref (s.heap.objs.size+1)::(vs++bj)) (Value.ref (s.heap.objs.size+1)::(us++ds)):=.cons rfl (r.append hd);have hl:(Value.ref (s.heap.objs.size+1)::us++ds).length=ps.length:=by
  have e:=r2.length;rw [F.len _ _ _ _ hq] at e;exact e.symm
 refine wpAny_call (Y5 (f:=f) I.bT M.makes M.init (beq_iff_eq.mp M.fn) (codeAny_mono (F.run _ X.stack _ _ ⟨Value.ref (s.heap.objs.size+1)::us,[]⟩ (Value.ref (s.heap.objs.size+1)::(us++ds)) _ _ E (hr.make C us [])
  (I2.oB.make C us []) (hb _ (Value.ref (s.heap.objs.size+1)::us) I2.bT hl) r2 hq) fun r s' hq'=>?_))
 cases r with
 | error e=>exact hx pins σ _ _ e s' I2 hq'
 | ok fl =>
  cases fl with
  | ret u =>
   obtain ⟨v,H',I3,rv,ev,q3⟩:=I2.after hq';subst ev;exact ⟨rv,⟨V.ref (s.heap.objs.size+1),H',I3,rfl,q3⟩⟩
  | next=>exact False.elim hq'
  | brk=>exact False.elim hq'
  | cont=>exact False.elim hq'
theorem Rz (M:Mk X.K C f) (F:aB X.prog X.w X.K X.mg X.base CX k f fd ps sp) (hr:aZ (k+1) X.A) (hg:Gl X x) (hm:X.mg x=some (.ref C)) (hb:Binds X.K fd ps ds) (hd:Vals bj ds) (hx:Passes CX X E)
  (ha:PA X (e::es) t) (bI:(x == ("__debug__" : Str))=false:=by decide) (he:starEach (e::es) X.env=(false,eval e X.env)::starEach es X.env:=by rfl) (bt:(backTo pos (starEach es X.env)).any (·.1)=false:=by rfl) :
  PE X (.Call (.Name x p) (e::es) [] pos) (qT C sp bj E t):=by
 intro pins s σ H Q I h;refine wpAny_Call_Name_kw (jR I hg hm ?_ bI);refine PySem.W.callWith_K (h₀:=X.base) I.ok.mod.hV M.kp (aD (ha pos pins s σ H _ I h) fun us s1 ⟨vs,H1,I1,r,q⟩=>⟨I1.bT,?_⟩) he bt;exact HW M F hr hb hd hx I1 r q
theorem OG (M:Mk X.K C f) (F:aB X.prog X.w X.K X.mg X.base CX k f fd ps sp) (hr:aZ (k+1) X.A) (hg:Gl X x) (hm:X.mg x=some (.ref C)) (hb:Binds X.K fd ps ds) (hd:Vals bj ds) (hx:Passes CX X E)
  (bI:(x == ("__debug__" : Str))=false:=by decide):PE X (.Call (.Name x p) [] [] pos) (qT C sp bj E lh):=by
 intro pins s σ H Q I h;refine wpAny_Call_Name_kw (jR I hg hm ?_ bI);exact PySem.W.callWith_K0 I.bT M.kp (HW (us:=[]) M F hr hb hd hx I .nil h)
end
section
variable {X:Cx} {CX:dA} {k:Nat} {f C:Addr} {fd:FuncData} {ps ks:List Str} {sp:Sp} {E:XK} {x m:Str} {p pos apos kpos:Pos} {e o:Expr} {es:List Expr} {kws:List Keyword} {te ta:TE} {t tk:TA} {nm:Option Str}
structure aah (K:PySem.W.Frag) (fd:FuncData) (ps ks:List Str) (g:List Value->List Value->List Value) (gV:List V->List V->List V):Prop where
 to:∀ (s:Shared) (us ws:List Value),K.In s.heap->(g us ws).length=ps.length->BindsTo s fd ⟨us,ks.zip ws⟩ (ps.zip (g us ws))
 rel:∀ {vs:List V} {us:List Value} {zs:List V} {ws:List Value},Vals vs us->Vals zs ws->Vals (gV vs zs) (g us ws)
def Yy (sp:Sp) (gV:List V->List V->List V) (E:XK) (t tk:TA):TE:=fun σ H Q=>t σ H fun vs H1=>tk σ H1 fun zs H2=>sp (gV vs zs) H2 Q E
variable {g:List Value->List Value->List Value} {gV:List V->List V->List V}
end
structure aE (N P:List Str) (sc:Scope):Prop where
 kind:sc.kind=.function
 co:sc.isCoroutine=false
 gen:sc.isGenerator=false
 nd:N.Nodup
 pre:N.take P.length=P
 par:∀ x∈P,sc.names.lookup x=some .local\/sc.names.lookup x=some .cell
 Ri:∀ y∈sc.names,y.2≠.free
theorem Fb {kindOf:Str->Option NameKind} {x:Str}:∀ {binds:List (Str×Value)} {m:Str->Option Value},(∀ v,(x,v) ∉ binds)->bindL kindOf binds m x=m x
 | [],_,_=>rfl
 | (n,v)::r,m,h=>by
  unfold bindL;rw [Fb fun w hw=>h w (List.mem_cons_of_mem _ hw)];split
  ·have:x≠n:=by rintro rfl; exact h v List.mem_cons_self
   simp [this]
  ·rfl
theorem Lj {kindOf:Str->Option NameKind} {x:Str}:∀ {binds:List (Str×Value)} {m:Str->Option Value},(∀ v,(x,v) ∉ binds)->bindC kindOf binds m x=m x
 | [],_,_=>rfl
 | (n,v)::r,m,h=>by
  unfold bindC;rw [Lj fun w hw=>h w (List.mem_cons_of_mem _ hw)];split
  ·rfl
  ·have:x≠n:=by rintro rfl; exact h v List.mem_cons_self
   simp [this]
theorem Jk {kindOf:Str->Option NameKind} {x:Str} {v:Value}:∀ {P:List Str} {vs:List Value} {i:Nat} {m:Str->Option Value},P.Nodup->P[i]?=some x->vs[i]?=some v->kindOf x=some .local ->
  bindL kindOf (P.zip vs) m x=some v
 | [],_,_,_,_,h,_,_=>by simp at h
 | _::_,[],_,_,_,_,h,_=>by simp at h
 | p::P,w::vs,0,m,nd,h1,h2,hk=>by
  simp at h1 h2; subst h1; subst h2;show bindL kindOf ((p,w)::P.zip vs) m p=_;unfold bindL;rw [Fb fun v hv=>(List.nodup_cons.mp nd).1 (List.of_mem_zip hv).1,if_pos hk];simp
 | p::P,w::vs,i+1,m,nd,h1,h2,hk=>by
  show bindL kindOf ((p,w)::P.zip vs) m x=_;unfold bindL;exact Jk (i:=i) (List.nodup_cons.mp nd).2 (by simpa using h1) (by simpa using h2) hk
theorem F4 {kindOf:Str->Option NameKind} {x:Str} {v:Value}:∀ {P:List Str} {vs:List Value} {i:Nat} {m:Str->Option Value},P.Nodup->P[i]?=some x->vs[i]?=some v->kindOf x≠some .local ->
  bindC kindOf (P.zip vs) m x=some v
 | [],_,_,_,_,h,_,_=>by simp at h
 | _::_,[],_,_,_,_,h,_=>by simp at h
 | p::P,w::vs,0,m,nd,h1,h2,hk=>by
  simp at h1 h2; subst h1; subst h2;show bindC kindOf ((p,w)::P.zip vs) m p=_;unfold bindC;rw [Lj fun v hv=>(List.nodup_cons.mp nd).1 (List.of_mem_zip hv).1,if_neg hk];simp
 | p::P,w::vs,i+1,m,nd,h1,h2,hk=>by
  show bindC kindOf ((p,w)::P.zip vs) m x=_;unfold bindC;exact F4 (i:=i) (List.nodup_cons.mp nd).2 (by simpa using h1) (by simpa using h2) hk
def start (N:List Str) (vs:List V):St:=vs.map some++List.replicate (N.length - vs.length) none
def cF (CX:dA) (P:Program) (w:World) (K:PySem.W.Frag) (mg:Str->Option Value) (base:Heap) (N:List Str) (qual:Str) (scope:Scope) (f:Addr) (cd:Value) (A:Around) (outer:List Env) (s:Shared) (H:Hp) (E:XK):Cx where
 prog:=P
 w:=w
 K:=K
 mg:=mg
 base:=base
 A:=A.deeper (envOfC qual scope s.heap.objs.size f cd)
 N:=N
 s₀:=s
 H₀:=H
 env:=envOfC qual scope s.heap.objs.size f cd
 outer:=outer
 stack:=envOfC qual scope s.heap.objs.size f cd::outer
 ex:=[]
 calm:=true
 fn:=fun _=>true
 pn:=[]
 xe:=fun e s'=>wpAny (model P w) (A.deeper (envOfC qual scope s.heap.objs.size f cd)) (leaving (envOfC qual scope s.heap.objs.size f cd) e) (fun _ s''=>CX outer H s E e s'') (fun e' s''=>CX outer H s E e' s'') s'
theorem FQ {sc:Scope} {n:Nat} {x:Str} (h:sc.names.lookup x=some .cell):∃ c,(cellsFrom n sc.names []).lookup x=some c:=by
 have q:=PySem.W.cellsFrom_some sc.names n [] (.inl h);exact Option.isSome_iff_exists.mp q
theorem Lh {CX:dA} {P:Program} {w:World} {K:PySem.W.Frag} {mg:Str->Option Value} {base:Heap} {N ps:List Str} {qual:Str} {scope:Scope} {f:Addr} {cd:Value} {A:Around} {outer:List Env} {s s1:Shared} {H:Hp} {E:XK} {us:List Value} {vs:List V}
  (S:aE N ps scope) (hd:A.handled=none) (e0:j7 P w K mg base A outer s H) (hl:vs.length=ps.length) (r:Vals vs us)
  (x:InCallC s s.heap.objs.size (bindL (envOfC qual scope s.heap.objs.size f cd).kindOf (ps.zip us) fun _=>none) (cellsFrom (s.heap.objs.size+1) scope.names []) (bindC (envOfC qual scope s.heap.objs.size f cd).kindOf (ps.zip us) fun _=>none) s1) :
  Inv (cF CX P w K mg base N qual scope f cd A outer s H E) [] (start N vs) H s1:=by
 have bt:ps.length<=N.length:=by have:=congrArg List.length S.pre; rw [List.length_take] at this; omega
 obtain ⟨h1,tk,rfl,hk⟩:=x.done;have kO:∀ b:Addr,b ∉ (cF CX P w K mg base N qual scope f cd A outer s H E).ex:=fun b z=>absurd (show b∈([]:List Addr) from z) (by simp);refine ⟨⟨e0.mod,S.kind,rfl,rfl,Nat.le_refl _,fun y z c h1 h2=>?_,fun y hy=>?_,fun y c _ h=>?_,fun _=>hd,Around.frames_deeper e0.frames,.inr ⟨rfl,rfl⟩,fun b z=>absurd z (kO b),e0.bs,e0.gy,fun b _ _=>kO b,fun b z=>absurd z (kO b),e0.eU,e0.iL⟩,
  rfl,e0.bare,Un.kept hk,⟨_,x.toInCall.ns,fun i y v h1 h2 h3=>?_⟩,fun y c h=>⟨_,x.cell y c h⟩,e0.aA.fresh (Nat.le_refl _),fun y c h=>?_,fun p hp=>absurd (show p∈([]:List (Addr×Obj)) from hp) (by simp),e0.aA.kept hk,?_⟩
 ·exact name_of_addr x.apart (PySem.mem_of_lookup h1) (PySem.mem_of_lookup h2)
 ·have hy:scope.names.lookup y=some .cell\/scope.names.lookup y=some .free:=hy;rcases hy with hy | hy
  ·exact FQ hy
  ·exact absurd rfl (S.Ri _ (PySem.mem_of_lookup hy))
 ·exact Nat.le_of_lt (x.above y c (PySem.mem_of_lookup h))
 ·have hi:i < vs.length:=by
   unfold start at h2;by_cases hi:i < vs.length
   ·exact hi
   ·rw [List.getElem?_append_right (by simpa using hi)] at h2;rw [List.getElem?_replicate] at h2;split at h2 <;> cases h2
  have ha:vs[i]?=some v:=by
   unfold start at h2;rw [List.getElem?_append_left (by simpa using hi),List.getElem?_map] at h2;cases e:vs[i]? with
   | none=>rw [e] at h2; cases h2
   | some a=>rw [e] at h2; cases h2; rfl
  obtain ⟨u,hu,rv⟩:=r.get ha;have hp:ps[i]?=some y:=by
   rw [<- S.pre,List.getElem?_take_of_lt (by omega)]; exact h1
  have LW:ps.Nodup:=by rw [<- S.pre]; exact S.nd.sublist (List.take_sublist _ _)
  refine ⟨u,rv,?_⟩;rcases S.par y (List.mem_of_getElem? hp) with k | k
  ·exact .inl ⟨k,Jk LW hp hu k⟩
  ·obtain ⟨c,e⟩:=FQ (n:=s.heap.objs.size+1) k;refine .inr ⟨.inl k,c,e,?_⟩;have q:=x.cell y c e;rw [F4 LW hp hu (by show scope.names.lookup y≠_; rw [k]; decide)] at q;exact q
 ·exact e0.aA.fresh (Nat.le_of_lt (x.above y c (PySem.mem_of_lookup h)))
 ·unfold start;show _=N.length;rw [List.length_append,List.length_map,List.length_replicate];omega
theorem uP {CX:dA} {P:Program} {w:World} {K:PySem.W.Frag} {mg:Str->Option Value} {base:Heap} {k:Nat} {f:Addr} {name qual:Str} {params:Arguments} {body:List Stmt} {scope:Scope} {dV kV doc pm ah ct oc:Value} {an od:Option Addr}
  {cU:Array (Option Value)} {N ps:List Str} {sp:Sp} (lk:K.lookup f=some ⟨oc,od,.func (PySem.W.fnOf name qual params body scope dV kV doc pm an ah ct),cU⟩) (bM:PySem.W.codeIn K ah qual=true) (S:aE N ps scope)
  (len:∀ vs H Q E,sp vs H Q E->vs.length=ps.length)
  (iS:∀ (A:Around) (outer:List Env) (s:Shared) (H:Hp) (vs:List V) (Q:VK) (E:XK),aZ k (A.deeper (envOfC qual scope s.heap.objs.size f ah))->sp vs H Q E ->
   ∃ t,cT (cF CX P w K mg base N qual scope f ah A outer s H E) body t/\t { nx:=fun _ H'=>Q .au H',rt:=Q } (start N vs) H) :
  aB P w K mg base CX (k+1) f (PySem.W.fnOf name qual params body scope dV kV doc pm an ah ct) ps sp:=by
 refine ⟨len,fun A outer s H args us vs Q E hr e0 hb r cZ=>?_⟩;have hl:=len _ _ _ _ cZ;have KX:K.In s.heap:=e0.mod.hV.keeps fun b o e=>(e0.bs b o e).1;have lim:s.heap.NoLimit:=e0.mod.nolimit.keeps fun b o e=>(e0.bs b o e).1;have C9:∀ y∈ps.zip us,scope.names.lookup y.1=some .local\/(scope.names.lookup y.1=some .cell/\((cellsFrom (s.heap.objs.size+1) scope.names []).lookup y.1).isSome=true):=fun ⟨n,v⟩ hy=>by
  rcases S.par n (List.of_mem_zip hy).1 with q | q
  ·exact .inl q
  ·exact .inr ⟨q,PySem.W.cellsFrom_some _ _ _ (.inl q)⟩
 refine codeAny_call_function hr.depth (KX _ _ lk) rfl S.co S.gen rfl (PySem.W.codeRec_of KX bM) (hb _ _ _ _ ?_);refine wpAny_newFunctionEnv_cells S.kind C9 fun env he s1 x=>?_;subst he;refine ⟨lim.keeps x.toInCall.keep,codeAny_func ?_⟩;obtain ⟨t,ht,hq⟩:=iS A outer s H vs Q E (hr.deeper _) cZ;have I:Inv (cF CX P w K mg base N qual scope f ah A outer s H E) [] (start N vs) H s1:=Lh S hr.hd e0 hl r x;refine wpAny_mono (ht [] s1 (start N vs) H _ I hq) (fun fl s' hs=>?_) fun e s' hs=>hs;have fin:∀ {σ':St} {H':Hp} {v:V} {u:Value},Inv (cF CX P w K mg base N qual scope f ah A outer s H E) [] σ' H' s'->RelV v u->Q v H'->CE outer P w H s Q u s' :=
  fun {σ' H' v u} J rv q=>⟨v,H',J.os,J.bare,J.base,J.aA,rv,q⟩
 cases fl with
 | ret u =>
  obtain ⟨v,σ',H',J,rv,q⟩:=hs;exact fin J rv q
 | next =>
  obtain ⟨σ',H',J,q⟩:=hs;exact fin (v:=V.au) (u:=Value.none) J rfl q
 | brk =>
  obtain ⟨_,_,_,q⟩:=hs;exact False.elim q
 | cont =>
  obtain ⟨_,_,_,q⟩:=hs;exact False.elim q
section
variable {X:Cx} {x:Str} {p pos:Pos} {e:Expr} {es:List Expr} {t:TA} {id T:String} {r:List V->Hp->VK->Prop}
def mJ (r:List V->Hp->VK->Prop) (t:TA):TE:=fun σ H Q=>t σ H fun vs H1=>r vs H1 Q
theorem Sx (hc:cy X (.builtin id) r) (hg:Gl X x) (hm:X.mg x=none) (hv:bootBuiltins x=some (.builtin id)) (ha:PA X (e::es) t) (hn:x ≠ "__name__" := by decide) (bI:(x == ("__debug__" : Str))=false:=by decide)
  (he:starEach (e::es) X.env=(false,eval e X.env)::starEach es X.env:=by rfl) (bt:(backTo pos (starEach es X.env)).any (·.1)=false:=by rfl):PE X (.Call (.Name x p) (e::es) [] pos) (mJ r t):=by
 intro pins s σ H Q I h;refine wpAny_Call_Name_kw (mD I hg hm hv ?_ hn bI);exact PyProof.Rows.callWith_builtin1 (aD (ha pos pins s σ H _ I h) fun us s1 ⟨vs,H1,I1,r1,q1⟩=>hc pins s1 σ H1 vs us Q I1 r1 q1) he bt
theorem WN (hc:cy X (.type T) r) (hg:Gl X x) (hm:X.mg x=none) (hv:bootBuiltins x=some (.type T)) (ha:PA X (e::es) t) (hn:x ≠ "__name__" := by decide) (bI:(x == ("__debug__" : Str))=false:=by decide)
  (he:starEach (e::es) X.env=(false,eval e X.env)::starEach es X.env:=by rfl) (bt:(backTo pos (starEach es X.env)).any (·.1)=false:=by rfl):PE X (.Call (.Name x p) (e::es) [] pos) (mJ r t):=by
 intro pins s σ H Q I h;refine wpAny_Call_Name_kw (mD I hg hm hv ?_ hn bI);exact PyProof.Rows.callWith_type1 (aD (ha pos pins s σ H _ I h) fun us s1 ⟨vs,H1,I1,r1,q1⟩=>hc pins s1 σ H1 vs us Q I1 r1 q1) he bt
end
end L2
namespace HT
open PySem PyProof.Rows
section
open PySem.SeqAt
open PySem.AutoSeq1 (wpAny_loadPart')
open PySem.MeetsSeq PySem.MeetsSeq2 PySem.MeetsSeq3
end
section
variable {prog:Program} {w:World} {A:Around} {E:Value->Shared->Prop} {s:Shared}
def cM (n d:Nat):Option Int->Nat
 | none=>d
 | some v=>if v < 0 then (v+(n:Int)).toNat else min v.toNat n
theorem BS (n d:Nat):cM n d none=d:=rfl
theorem AO (n d k:Nat):cM n d (some (k:Int))=min k n:=by
 show (if (k:Int) < 0 then ((k:Int)+(n:Int)).toNat else min (k:Int).toNat n)=min k n;rw [if_neg (by omega),Int.toNat_natCast]
end
end HT
namespace L2
open PySem PySem.Spec PyProof.Rows
abbrev TO:=St->Hp->(Option Int->Hp->Prop)->Prop
def PO (X:Cx) (e:Option Expr) (t:TO):Prop :=
 ∀ (pins:List (Addr×Obj)) (s:Shared) (σ:St) (H:Hp) (Q:Option Int->Hp->Prop),Inv X pins σ H s->t σ H Q ->
  wpAny (model X.prog X.w) X.A (evalPart e X.env) (fun u s'=>∃ o H',Inv X pins σ H' s'/\IsPart u o/\Q o H') X.xe s
def BU:TO:=fun _ H Q=>Q none H
section
variable {X:Cx} {e:Expr} {te:TE} {lo hi:Option Expr} {tl th:TO} {pos p2:Pos}
theorem SU:PO X none BU:=by
 intro pins s σ H Q I h;rw [evalPart_none];exact wpAny_pure ⟨none,H,I,.none,h⟩
def jr (X:Cx) (r:V->Option Int->Option Int->Hp->VK->Prop):Prop :=
 ∀ (pins:List (Addr×Obj)) (s:Shared) (σ:St) (H:Hp) (x:V) (v vl vu:Value) (lo hi:Option Int) (sl:Addr) (Q:VK),Inv X pins σ H s->RelV x v->s.heap.IsSliceOf sl vl vu .none->IsPart vl lo->IsPart vu hi->r x lo hi H Q ->
  ∃ T id,typeLookup (.type T) "__getitem__" = pure (some (.builtin id))/\s.TypeIs v T/\wpAny (model X.prog X.w) X.A (getItem v (.ref sl)) (EP X pins σ Q) X.xe s
theorem jr.or {r r':V->Option Int->Option Int->Hp->VK->Prop} (h:jr X r) (h':jr X r'):jr X (fun x lo hi H Q=>r x lo hi H Q\/r' x lo hi H Q):=by
 intro pins s σ H x v vl vu lo hi sl Q I rx hs pl pu q;rcases q with q | q
 ·exact h pins s σ H x v vl vu lo hi sl Q I rx hs pl pu q
 ·exact h' pins s σ H x v vl vu lo hi sl Q I rx hs pl pu q
def BZ (r:V->Option Int->Option Int->Hp->VK->Prop) (te:TE) (tl th:TO):TE:=fun σ H Q=>te σ H fun x H1=>tl σ H1 fun l H2=>th σ H2 fun u H3=>r x l u H3 Q
theorem Wv {r:V->Option Int->Option Int->Hp->VK->Prop} (hr:jr X r) (he:PE X e te) (hl:PO X lo tl) (hu:PO X hi th):PE X (.Subscript e (.Slice lo hi none p2) pos) (BZ r te tl th):=by
 intro pins s σ H Q I h;refine Subscript_ (aD (he pins s σ H _ I h) fun v s1 ⟨x,H1,I1,r1,q1⟩=>?_);refine wpAny_Slice (aD (hl pins s1 σ H1 _ I1 q1) fun vl s2 ⟨l,H2,I2,pl,q2⟩=>aD (hu pins s2 σ H2 _ I2 q2) fun vu s3 ⟨u,H3,I3,pu,q3⟩=>?_);rw [evalPart_none];refine wpAny_pure ?_;have I4:Inv X pins σ H3 { s3 with heap:=s3.heap.push { cls:=.type "slice",data:=.fields #[vl,vu,.none] } }:=I3.kept (t':=s3.toks) fun b ob q=>Heap.get?_push_of_some _ q;obtain ⟨T,id,hT,ht,hg⟩:=hr pins { s3 with heap:=s3.heap.push { cls:=.type "slice",data:=.fields #[vl,vu,.none] } } σ H3 x v vl vu l u s3.heap.objs.size Q I4 r1 (Heap.IsSliceOf.new ..) pl pu q3;show wpAny (model X.prog X.w) X.A (subscriptTail e (.Slice lo hi none p2) v (.ref s3.heap.objs.size)) (EP X pins σ Q) X.xe { s3 with heap:=s3.heap.push { cls:=.type "slice",data:=.fields #[vl,vu,.none] } };exact tail_any (ops:=[.ref s3.heap.objs.size,v]) ht hT hg (by with_unfolding_all rfl)
def fc (xs:List V) (lo hi:Option Int):List V:=(xs.drop (HT.cM xs.length 0 lo)).take (HT.cM xs.length xs.length hi - HT.cM xs.length 0 lo)
theorem QY (xs:List V) (lo hi:Option Int):(fc xs lo hi).length<=xs.length:=by
 unfold fc;rw [List.length_take,List.length_drop];omega
end
def eI (n:Nat) (i:Int):Option Nat:=if 0<=i then (if i < n then some i.toNat else none) else if -(n:Int)<=i then some (i+n).toNat else none
def cO {α:Type} (xs:List α) (i:Int):Option α:=(eI xs.length i).bind fun j=>xs[j]?
theorem Kr {n:Nat} {i:Int} {j:Nat} (h:eI n i=some j):seqIndex? i n=some j/\j < n/\-(n:Int)<=i/\i < n:=by
 unfold eI at h;by_cases h0:0<=i
 ·rw [if_pos h0] at h;by_cases h1:i < n
  ·rw [if_pos h1] at h;have e:i.toNat=j:=Option.some.inj h;exact ⟨by rw [seqIndex_of h0 h1,e],by omega,by omega,h1⟩
  ·rw [if_neg h1] at h; cases h
 ·rw [if_neg h0] at h;by_cases h1:-(n:Int)<=i
  ·rw [if_pos h1] at h;have e:(i+n).toNat=j:=Option.some.inj h;exact ⟨by rw [seqIndex_neg (by omega) h1,e],by omega,h1,by omega⟩
  ·rw [if_neg h1] at h; cases h
theorem zM {α:Type} {xs:List α} {i:Int} {v:α} (h:cO xs i=some v):∃ j,seqIndex? i xs.length=some j/\xs[j]?=some v/\j < xs.length/\-(xs.length:Int)<=i/\i < xs.length:=by
 unfold cO at h;cases e:eI xs.length i with
 | none=>rw [e] at h; cases h
 | some j =>
  rw [e] at h;obtain ⟨h1,h2,h3,h4⟩:=Kr e;exact ⟨j,h1,h,h2,h3,h4⟩
theorem jq {α:Type} {xs:List α} {j:Nat} {v:α} (h:xs[j]?=some v):cO xs (j:Int)=some v:=by
 have hj:j < xs.length:=(List.getElem?_eq_some_iff.mp h).1;have e:eI xs.length (j:Int)=some j:=by
  unfold eI;rw [if_pos (by omega),if_pos (by omega)]; simp
 unfold cO; rw [e]; exact h
theorem nj {α:Type} (xs:List α) (v:α):cO (xs++[v]) (-1)=some v:=by
 have hl:(xs++[v]).length=xs.length+1:=by simp
 have e:eI (xs++[v]).length (-1)=some xs.length:=by
  unfold eI;rw [hl,if_neg (by decide),if_pos (by omega)]
  congr 1
  omega
 unfold cO;rw [e];show (xs++[v])[xs.length]?=some v;simp
def JJ (b:Expr):Prop:=∀ o i,subscripted b false o i=operate [o,i] (getItem o i)
def fR (X:Cx) (r:R2):Prop :=
 ∀ (value slice:Expr) (pins:List (Addr×Obj)) (s:Shared) (σ:St) (H:Hp) (x y:V) (v u:Value) (Q:VK),Inv X pins σ H s->RelV x v->RelV y u->r x y H Q ->
  subscripted slice false v u=operate [v,u] (getItem v u)->wpAny (model X.prog X.w) X.A (subscriptTail value slice v u) (EP X pins σ Q) X.xe s
def dD (X:Cx) (id:String) (r:V->List V->Hp->VK->Prop):Prop :=
 ∀ (pins:List (Addr×Obj)) (s:Shared) (σ:St) (H:Hp) (x:V) (xs:List V) (v:Value) (us:List Value) (Q:VK),Inv X pins σ H s->RelV x v->Vals xs us->r x xs H Q ->
  wpAny (model X.prog X.w) X.A (call (.builtin id) (v::us)) (EP X pins σ Q) X.xe s
section
variable {X:Cx} {a b:Expr} {ta tb:TE} {pos:Pos}
theorem fR.or {r r':R2} (h:fR X r) (h':fR X r'):fR X (fun x y H Q=>r x y H Q\/r' x y H Q):=by
 intro value slice pins s σ H x y v u Q I rx ry q hs;rcases q with q | q
 ·exact h value slice pins s σ H x y v u Q I rx ry q hs
 ·exact h' value slice pins s σ H x y v u Q I rx ry q hs
theorem Oz {r:R2} (hr:fR X r) (ha:PE X a ta) (hb:PE X b tb) (hs:JJ b):PE X (.Subscript a b pos) (kg r ta tb):=by
 intro pins s σ H Q I h;exact Subscript_ (yz ha hb I h fun v u s2 x y H2 I2 rx ry q=>hr a b pins s2 σ H2 x y v u Q I2 rx ry q (hs _ _))
def LA (K:PySem.W.Frag):R2:=fun x y H Q=>∃ p xs i v,x=.ref p/\y=.int i/\aC K H p xs/\cO xs i=some v/\Q v H
def Jl (K:PySem.W.Frag):R2:=fun x y H Q=>∃ p xs i v,x=.ref p/\y=.int i/\bC K H p xs/\cO xs i=some v/\Q v H
def HK:R2:=fun x y H Q=>∃ z i c,x=.str z/\y=.int i/\z.length<=sizeLine/\cO z.cps.toList i=some c/\Q (.str ⟨#[c]⟩) H
theorem Yl:fR X (LA X.K):=by
 intro value slice pins s σ H x y v u Q I rx ry h hs;obtain ⟨p,xs,i,z,rfl,rfl,hq,he,q⟩:=h;cases rx;obtain ⟨t,rfl⟩:=ry;obtain ⟨aj,r,pl,hz⟩:=I.list hq;obtain ⟨j,h1,h2,h3,h4,h5⟩:=zM he;obtain ⟨w,ew,rw'⟩:=r.get h2;have hl:=r.length;have hn:=qW;have fin:EP X pins σ Q w s:=⟨z,H,I,rw',q⟩;by_cases h0:0<=i
 ·have hj:i.toNat=j:=by
   rw [seqIndex_of h0 h5] at h1;exact Option.some.inj h1
  exact item_listR pl.isList h0 (by omega) (by rw [hj]; simpa using ew) fin hs
 ·have hj:(i+(aj.toArray.size:Int)).toNat=j:=by
   rw [seqIndex_neg (by omega) h4] at h1;rw [List.size_toArray,<- hl];exact Option.some.inj h1
  exact subscriptTail_builtinR (x:=w) pl.isList.typeIs slot_list_getitem.lookup
   (wpAny_getItem_list_neg (Q:=fun r s'=>r=w/\EP X pins σ Q r s') pl.isList (by omega) (by rw [List.size_toArray] <;> omega) (by omega) (by rw [hj]; simpa using ew) ⟨rfl,fin⟩) hs
theorem WU:fR X (Jl X.K):=by
 intro value slice pins s σ H x y v u Q I rx ry h hs;obtain ⟨p,xs,i,z,rfl,rfl,hq,he,q⟩:=h;cases rx;obtain ⟨t,rfl⟩:=ry;obtain ⟨aj,r,pl,hz⟩:=I.tuple hq;obtain ⟨j,h1,h2,h3,h4,h5⟩:=zM he;obtain ⟨w,ew,rw'⟩:=r.get h2;have hl:=r.length;have hn:=qW;have fin:EP X pins σ Q w s:=⟨z,H,I,rw',q⟩;exact subscriptTail_builtinR (x:=w) pl.typeIs slot_tuple_getitem.lookup
  (getItem_tuple (j:=j) (Q:=fun r s'=>r=w/\EP X pins σ Q r s') pl (by omega) (by omega) (by rw [List.size_toArray,<- hl]; exact h1) (by simpa using ew) ⟨rfl,fin⟩) hs
theorem Wh:fR X HK:=by
 intro value slice pins s σ H x y v u Q I rx ry h hs;obtain ⟨z,i,c,rfl,rfl,hz,he,q⟩:=h;obtain ⟨t,rfl⟩:=rx;obtain ⟨t',rfl⟩:=ry;obtain ⟨j,h1,h2,h3,h4,h5⟩:=zM he;have hl:z.cps.toList.length=z.length:=by simp [Str.length]
 rw [hl] at h1 h4 h5;have hn:=qW;exact tail_any (typeIs_str s z t) slot_str_getitem.lookup (getItem_str (c:=c) (by
  have e1:decide (i < -(2 ^ 63:Int))=false:=decide_eq_false (by omega);have e2:decide (i ≥ 2 ^ 63)=false:=decide_eq_false (by omega);rw [e1,e2,Bool.or_false]) (by rw [h1]; simpa using h2) ⟨.str ⟨#[c]⟩,H,I.tok _,⟨_,rfl⟩,q⟩) hs
def Xx (K:PySem.W.Frag):R2:=fun x y H Q=>LA K x y H Q\/Jl K x y H Q\/HK x y H Q
theorem UH:fR X (Xx X.K):=Yl.or (WU.or Wh)
theorem TF (aj:List Value) (n j:Nat) (u:Value):Obj.mapSeq (·.setIfInBounds j u) { cls:=.type "list",data:=.seq aj.toArray n }={ cls:=.type "list",data:=.seq (aj.set j u).toArray n }:=by
 simp [Obj.mapSeq]
theorem Inv.lst {pins:List (Addr×Obj)} {σ:St} {H:Hp} {s:Shared} {p:Addr} {xs:List V} (I:Inv X pins σ H s) (h:H p=some (.lst xs)) :
  ∃ (aj:List Value) (n:Nat),Vals xs aj/\s.heap.get? p=some { cls:=.type "list",data:=.seq aj.toArray n }/\xs.length<=sizeLine:=by
 obtain ⟨z,aj,n,r,e⟩:=I.aA p _ h;exact ⟨aj,n,r,e,z⟩
theorem Inv.VZ {pins:List (Addr×Obj)} {σ:St} {H:Hp} {s:Shared} {p:Addr} {xs ys:List V} {aj its':List Value} {n n':Nat} {f:Obj->Obj} (I:Inv X pins σ H s) (h:H p=some (.lst xs))
  (ho:s.heap.get? p=some { cls:=.type "list",data:=.seq aj.toArray n }) (hf:f { cls:=.type "list",data:=.seq aj.toArray n }={ cls:=.type "list",data:=.seq its'.toArray n' }) (r:Vals ys its') (hz:ys.length<=sizeLine) (t:Nat) :
  Inv X pins σ (upd H p (.lst ys)) { s with heap:=s.heap.update p f,toks:=t }:=by
 have e:(s.heap.update p f).get? p=some { cls:=.type "list",data:=.seq its'.toArray n' }:=by
  rw [Heap.get?_update_self f ho (by rw [hf] <;> rfl),hf]
 refine I.write (x:=p) (e:=p) (by rw [h]; trivial) (.inl rfl) (fun b u hb q=>(Heap.get?_update_other _ _ (Ne.symm hb)).trans q) ⟨_,e⟩ ?_;exact ⟨hz,its',n',r,e⟩
def YS:V->V->V->Hp->(Hp->Prop)->Prop:=fun o i v H Q=>∃ p xs k j,o=.ref p/\i=.int k/\H p=some (.lst xs)/\eI xs.length k=some j/\Q (upd H p (.lst (xs.set j v)))
theorem set_list:wb X YS:=by
 intro pins s σ H o i v ov iv u Q I ro ri rv h;obtain ⟨p,xs,k,j,rfl,rfl,hp,hj,q⟩:=h;cases ro;obtain ⟨t,rfl⟩:=ri;obtain ⟨aj,n,r,ho,hz⟩:=I.lst hp;obtain ⟨h1,h2,h3,h4⟩:=Kr hj;have hl:=r.length;have hn:=qW;have I':Inv X pins σ (upd H p (.lst (xs.set j v))) { s with heap:=s.heap.update p (Obj.mapSeq (·.setIfInBounds j u)) } :=
  I.VZ hp ho (TF aj n j u) (r.set rv j) (by rw [List.length_set]; exact hz) s.toks
 by_cases h0:0<=k
 ·have hk:k.toNat=j:=by
   rw [seqIndex_of h0 h4] at h1;exact Option.some.inj h1
  exact PySem.W.ki_setAt ho h0 (by omega) (by rw [List.size_toArray,<- hl]; exact h4) (by rw [hk]; exact ⟨_,I',q⟩)
 ·have hk:(k+(aj.toArray.size:Int)).toNat=j:=by
   rw [seqIndex_neg (by omega) h3] at h1;rw [List.size_toArray,<- hl];exact Option.some.inj h1
  exact PySem.W.ki_setBack ho (by omega) (by rw [List.size_toArray,<- hl]; exact h3) (by omega) (by rw [hk]; exact ⟨_,I',q⟩)
theorem Tz (lo hi:Option Int) (n:Nat):(sliceBounds lo hi none n).1=((HT.cM n 0 lo:Nat):Int)/\(sliceBounds lo hi none n).2.1=((HT.cM n n hi:Nat):Int)/\(sliceBounds lo hi none n).2.2=1:=by
 refine ⟨?_,?_,rfl⟩
 ·cases lo with
  | none=>simp [sliceBounds,HT.cM]
  | some i =>
   simp only [sliceBounds,HT.cM,Option.getD_none,show (1:Int) > 0 by decide,if_true];by_cases h:i < 0
   ·simp only [h,if_true] <;> omega
   ·simp only [h,if_false] <;> omega
 ·cases hi with
  | none=>simp [sliceBounds,HT.cM]
  | some i =>
   simp only [sliceBounds,HT.cM,Option.getD_none,show (1:Int) > 0 by decide,if_true];by_cases h:i < 0
   ·simp only [h,if_true] <;> omega
   ·simp only [h,if_false] <;> omega
theorem WQ (aj:List Value) (lo hi:Option Int):slicePick aj.toArray lo hi none=((aj.drop (HT.cM aj.length 0 lo)).take (HT.cM aj.length aj.length hi - HT.cM aj.length 0 lo)).toArray:=by
 obtain ⟨h1,h2,h3⟩:=Tz lo hi aj.toArray.size;unfold slicePick;rw [h1,h2,h3];simp only [sliceRange_one,pick_run,List.size_toArray] <;> rfl
def YI (K:PySem.W.Frag):V->Option Int->Option Int->Hp->VK->Prop:=fun x lo hi H Q=>∃ a xs,x=.ref a/\aC K H a xs/\∀ p,H p=none->Q (.ref p) (upd H p (.lst (fc xs lo hi)))
theorem Yc:jr X (YI X.K):=by
 intro pins s σ H x v vl vu lo hi sl Q I rx hs pl pu h;obtain ⟨a,xs,rfl,hx,q⟩:=h;cases rx;obtain ⟨aj,r,ht,hz⟩:=I.list hx;have hlen:=r.length;refine ⟨"list",_,slot_list_getitem.lookup,ht.isList.typeIs,?_⟩;refine wpAny_getItem_list_slice ht.isList hs pl pu .none (by simp) ?_ (by rw [List.size_toArray] <;> omega);rw [WQ,<- hlen];refine ⟨.ref s.heap.objs.size,_,I.laid (t':=s.toks) (o:=.lst (fc xs lo hi)) (fun b ob q=>Heap.get?_push_of_some _ q) (Nat.le_refl _) ?_,rfl,q _ (I.aA.fresh (Nat.le_refl _))⟩;exact ⟨Nat.le_trans (QY xs lo hi) hz,_,0,(r.drop (HT.cM xs.length 0 lo)).take (HT.cM xs.length xs.length hi - HT.cM xs.length 0 lo),Heap.get?_push_size _ rfl⟩
def cx:V->Bool
 | .au=>true
 | .bl _=>true
 | .int _=>true
 | .str _=>true
 | _=>false
def ff:V->V->Bool
 | .au,.au=>true
 | .bl a,.bl b=>a == b
 | .bl a,.int b=>(if a then 1 else 0) == b
 | .int a,.bl b=>a == (if b then 1 else 0)
 | .int a,.int b=>a == b
 | .str a,.str b=>a == b
 | _,_=>false
theorem yQ {A:Around} {s:Shared} {y x:V} {u v:Value} (ry:RelV y u) (rx:RelV x v) (fy:cx y=true) (fx:cx x=true):SeqAt.EqAt A s u v (ff y x):=by
 cases y with
 | au =>
  cases ry;cases x with
  | au=>cases rx; exact SeqAt.EqAt.same _
  | bl b=>cases rx; exact SeqAt.EqAt.none_bool b
  | int b=>obtain ⟨t,rfl⟩:=rx; exact SeqAt.EqAt.none_int b t
  | str b=>obtain ⟨t,rfl⟩:=rx; exact SeqAt.EqAt.none_str b t
  | _=>exact absurd (show false=true from fx) Bool.false_ne_true
 | bl a =>
  cases ry;cases x with
  | au=>cases rx; exact SeqAt.EqAt.bool_none a
  | bl b=>cases rx; exact SeqAt.EqAt.bool_bool a b
  | int b=>obtain ⟨t,rfl⟩:=rx; exact SeqAt.EqAt.bool_int a b t
  | str b=>obtain ⟨t,rfl⟩:=rx; exact SeqAt.EqAt.bool_str a b t
  | _=>exact absurd (show false=true from fx) Bool.false_ne_true
 | int a =>
  obtain ⟨t',rfl⟩:=ry;cases x with
  | au=>cases rx; exact SeqAt.EqAt.int_none a t'
  | bl b=>cases rx; exact SeqAt.EqAt.int_bool a t' b
  | int b=>obtain ⟨t,rfl⟩:=rx; exact SeqAt.EqAt.int_int a t' b t
  | str b=>obtain ⟨t,rfl⟩:=rx; exact SeqAt.EqAt.int_str a t' b t
  | _=>exact absurd (show false=true from fx) Bool.false_ne_true
 | str a =>
  obtain ⟨t',rfl⟩:=ry;cases x with
  | au=>cases rx; exact SeqAt.EqAt.str_none a t'
  | bl b=>cases rx; exact SeqAt.EqAt.str_bool a t' b
  | int b=>obtain ⟨t,rfl⟩:=rx; exact SeqAt.EqAt.str_int a t' b t
  | str b=>obtain ⟨t,rfl⟩:=rx; exact SeqAt.EqAt.str_str a t' b t
  | _=>exact absurd (show false=true from fx) Bool.false_ne_true
 | _=>exact absurd (show false=true from fy) Bool.false_ne_true
def fF (x:V) (u:Value):Bool:=match u with
 | .none=>ff .au x
 | .bool b=>ff (.bl b) x
 | .int i _=>ff (.int i) x
 | .str z _=>ff (.str z) x
 | _=>false
theorem HI {x y:V} {u:Value} (r:RelV y u) (f:cx y=true):fF x u=ff y x:=by
 cases y with
 | au=>cases r; rfl
 | bl b=>cases r; rfl
 | int i=>obtain ⟨t,rfl⟩:=r; rfl
 | str z=>obtain ⟨t,rfl⟩:=r; rfl
 | _=>exact absurd (show false=true from f) Bool.false_ne_true
theorem sS {x:V}:∀ {xs:List V} {us:List Value},Vals xs us->xs.all cx=true->us.any (fF x)=xs.any fun y=>ff y x
 | _,_,.nil,_=>rfl
 | y::xs,u::us,.cons r t,f=>by
  rw [List.all_cons,Bool.and_eq_true] at f;rw [List.any_cons,List.any_cons,HI r f.1,sS t f.2]
theorem tK {A:Around} {s:Shared} {x:V} {v:Value} (rx:RelV x v) (fx:cx x=true):∀ {xs:List V} {us:List Value},Vals xs us->xs.all cx=true->∀ u∈us,SeqAt.EqAt A s u v (fF x u)
 | _,_,.nil,_=>fun u hu=>by cases hu
 | y::xs,u::us,.cons r t,f=>fun u' hu=>by
  rw [List.all_cons,Bool.and_eq_true] at f;rcases List.mem_cons.mp hu with rfl | hu
  ·rw [HI r f.1]; exact yQ r rx f.1 fx
  ·exact tK rx fx t f.2 u' hu
def gE (x:V) (xs:List V):Bool:=xs.any fun y=>ff y x
def Ir (K:PySem.W.Frag) (neg:Bool):R2:=fun x y H Q=>∃ p xs,y=.ref p/\(aC K H p xs\/bC K H p xs)/\cx x=true/\xs.all cx=true/\Q (.bl (if neg then !gE x xs else gE x xs)) H
theorem KG:aX X (compareOp .In) (Ir X.K false):=by
 intro pins s σ H x y v u Q I rx ry h;obtain ⟨p,xs,rfl,hq,fx,fs,q⟩:=h;cases ry;rcases hq with hq | hq
 ·obtain ⟨aj,r,pl,hz⟩:=I.list hq;refine SeqAt.in_listAt (fF x) pl.isList (fun w hw=>tK rx fx r fs w (by simpa using hw)) ⟨.bl _,H,I,rfl,?_⟩;rw [show aj.toArray.any (fF x)=aj.any (fF x) by simp,sS r fs];exact q
 ·obtain ⟨aj,r,pl,hz⟩:=I.tuple hq;refine SeqAt.in_tupleAt (fF x) pl (fun w hw=>tK rx fx r fs w (by simpa using hw)) ⟨.bl _,H,I,rfl,?_⟩;rw [show aj.toArray.any (fF x)=aj.any (fF x) by simp,sS r fs];exact q
theorem Te:aX X (compareOp .NotIn) (Ir X.K true):=by
 intro pins s σ H x y v u Q I rx ry h;obtain ⟨p,xs,rfl,hq,fx,fs,q⟩:=h;cases ry;rcases hq with hq | hq
 ·obtain ⟨aj,r,pl,hz⟩:=I.list hq;refine SeqAt.notIn_listAt (fF x) pl.isList (fun w hw=>tK rx fx r fs w (by simpa using hw)) ⟨.bl _,H,I,rfl,?_⟩;rw [show aj.toArray.any (fF x)=aj.any (fF x) by simp,sS r fs];exact q
 ·obtain ⟨aj,r,pl,hz⟩:=I.tuple hq;refine SeqAt.notIn_tupleAt (fF x) pl (fun w hw=>tK rx fx r fs w (by simpa using hw)) ⟨.bl _,H,I,rfl,?_⟩;rw [show aj.toArray.any (fF x)=aj.any (fF x) by simp,sS r fs];exact q
theorem Wy:cy X (.type "list") (fun xs H Q=>∃ p ys,xs=[.ref p]/\(aC X.K H p ys\/bC X.K H p ys)/\∀ l,H l=none->Q (.ref l) (upd H l (.lst ys))):=by
 intro pins s σ H xs us Q I r h;obtain ⟨p,ys,rfl,hq,q⟩:=h;obtain ⟨u,rfl,rx⟩:=vals1 r;cases rx;have fin:∀ (aj:List Value),Vals ys aj->ys.length<=sizeLine->∀ (h':Heap) (c':Nat),(∀ b o',s.heap.get? b=some o'->h'.get? b=some o') ->
   h'.get? s.heap.objs.size=some { cls:=.type "list",dict:=none,data:=.seq aj.toArray c',slots:=#[] }->EP X pins σ Q (.ref s.heap.objs.size) { s with heap:=h' }:=fun aj r' hz h' c' kp e =>
  ⟨.ref s.heap.objs.size,_,I.laid (t':=s.toks) kp (Nat.le_refl _) (show bH X.prog X.w _ h' _ (.lst ys) from ⟨hz,aj,c',r',e⟩),rfl,q _ (I.aA.fresh (Nat.le_refl _))⟩
 rcases hq with hq | hq
 ·obtain ⟨aj,r',pl,hz⟩:=I.list hq;have hlen:=r'.length;obtain ⟨o,ho,hc,n,hd⟩:=pl.isList;exact call_list_seq p (.inl rfl) ho hc hd (fun h' c' kp e=>fin aj r' hz h' c' kp e) (by simp only [List.size_toArray] <;> omega)
 ·obtain ⟨aj,r',pl,hz⟩:=I.tuple hq;have hlen:=r'.length;obtain ⟨o,ho,hc,n,hd⟩:=pl;exact call_list_seq p (.inr rfl) ho hc hd (fun h' c' kp e=>fin aj r' hz h' c' kp e) (by simp only [List.size_toArray] <;> omega)
def OP (K:PySem.W.Frag) (T:String) (x:V) (H:Hp):Prop:=match x with
 | .str _=>T = "str"
 | .int _=>T = "int"
 | .ref p=>(T = "list" /\ ∃ xs,aC K H p xs)\/(T = "tuple" /\ ∃ o,K.lookup p=some o/\o.cls=.type "tuple" /\ o.dict=none) \/
   (T = "dict" /\ ((∃ kvs,H p=some (.dK kvs))\/∃ kvs,H p=some (.dT kvs)))\/(T = "set" /\ ∃ S n,H p=some (.set S n))
 | _=>False
theorem yE {pins:List (Addr×Obj)} {σ:St} {H:Hp} {s:Shared} {T:String} {x:V} {v:Value} (I:Inv X pins σ H s) (r:RelV x v) (ty:OP X.K T x H) :
  s.TypeIs v T/\∀ a,v=.ref a->∃ ob,s.heap.get? a=some ob/\ob.dict=none:=by
 cases x with
 | str z =>
  obtain ⟨t,rfl⟩:=r;cases (show T = "str" from ty);exact ⟨typeIs_str s z t,fun _ e=>nomatch e⟩
 | int i =>
  obtain ⟨t,rfl⟩:=r;cases (show T = "int" from ty);exact ⟨typeIs_int s i t,fun _ e=>nomatch e⟩
 | ref p =>
  cases r;rcases ty with ⟨rfl,xs,hq⟩ | ⟨rfl,o,hk,hc,hd⟩ | ⟨rfl,hk⟩ | ⟨rfl,S,n,hk⟩
  ·obtain ⟨aj,_,pl,_⟩:=I.list hq;refine ⟨pl.isList.typeIs,fun a e=>?_⟩;cases e;obtain ⟨o,n,e,c,hd,_⟩:=pl;exact ⟨o,e,hd⟩
  ·refine ⟨⟨o,I.bT p o hk,hc⟩,fun a e=>?_⟩;cases e;exact ⟨o,I.bT _ o hk,hd⟩
  ·have z:∃ o,s.heap.get? p=some o/\o.ExactDict:=by
    rcases hk with ⟨kvs,hk⟩ | ⟨kvs,hk⟩
    ·obtain ⟨_,_,_,_,o,_,_,e,ex,_⟩:=I.aA p _ hk;exact ⟨o,e,ex⟩
    ·obtain ⟨_,_,_,_,o,_,_,e,ex,_⟩:=I.aA p _ hk;exact ⟨o,e,ex⟩
   obtain ⟨o,e,ex⟩:=z;refine ⟨⟨o,e,ex.1⟩,fun a e2=>?_⟩;cases e2;exact ⟨o,e,ex.2.1⟩
  ·obtain ⟨o,_,_,_,e,ex,_⟩:=I.aA p _ hk;refine ⟨⟨o,e,ex.1⟩,fun a e2=>?_⟩;cases e2;exact ⟨o,e,ex.2.1⟩
 | _=>exact False.elim ty
variable {o e:Expr} {es:List Expr} {to:TE} {t:TA} {name:Str} {apos bw:Pos} {T id:String} {r:V->List V->Hp->VK->Prop}
/- xs.append(e),list.index on a module's tuple .. are dD facts of 06m -/
end
def Cf (X:Cx) (id:String) (r:V->List V->Hp->VK->Prop):Prop :=
 ∀ (pins:List (Addr×Obj)) (s:Shared) (σ:St) (H:Hp) (x:V) (xs:List V) (v:Value) (us:List Value) (Q:VK),Inv X pins σ H s->RelV x v->Vals xs us->r x xs H Q ->
  wpAny (model X.prog X.w) X.A (call (.builtin id) (v::us)) (EP X pins σ Q) X.xe s
theorem Vals.one:∀ {x:V} {us:List Value},Vals [x] us->∃ u,us=[u]/\RelV x u
 | _,_,.cons r .nil=>⟨_,rfl,r⟩
theorem Vals.zero:∀ {us:List Value},Vals [] us->us=[]
 | _,.nil=>rfl
theorem Vals.dropLast {xs:List V} {us:List Value} (h:Vals xs us):Vals xs.dropLast us.dropLast:=by
 induction h with
 | nil=>exact .nil
 | cons r t ih =>
  cases t with
  | nil=>exact .nil
  | cons q t'=>exact .cons r ih
theorem Vals.rep {xs:List V} {us:List Value} (h:Vals xs us):∀ k:Nat,Vals (List.replicate k xs).flatten (List.replicate k us).flatten
 | 0=>.nil
 | k+1=>by
  rw [List.replicate_succ,List.replicate_succ,List.flatten_cons,List.flatten_cons];exact Vals.append h (Vals.rep h k)
theorem R6 {α:Type} (l:List α):l.eraseIdx (l.length - 1)=l.dropLast:=by
 induction l with
 | nil=>rfl
 | cons a r ih =>
  cases r with
  | nil=>rfl
  | cons b r =>
   have e:(a::b::r).length - 1=((b::r).length - 1)+1:=by
    have h1:(a::b::r).length=r.length+2:=rfl;have h2:(b::r).length=r.length+1:=rfl;omega
   rw [e,List.eraseIdx_cons_succ,ih]
   all_goals rfl
theorem foldl_rep (aj:List Value):∀ (k:Nat) (acc:List Value),
  List.foldl (fun x1 x2=>x1++x2) acc.toArray (List.replicate k aj.toArray)=(acc++(List.replicate k aj).flatten).toArray
 | 0,acc=>by simp
 | k+1,acc=>by
  have e:acc.toArray++aj.toArray=(acc++aj).toArray:=by simp
  have e2:(acc++aj)++(List.replicate k aj).flatten=acc++(List.replicate (k+1) aj).flatten:=by
   rw [List.replicate_succ,List.flatten_cons,List.append_assoc]
  rw [<- e2,<- foldl_rep aj k (acc++aj),<- e,List.replicate_succ,List.foldl_cons]
section
variable {X:Cx} {pins:List (Addr×Obj)} {σ:St} {H:Hp} {s:Shared} {l b:Addr} {xs ys zs:List V}
theorem Inv.z8 {aj its':List Value} {n:Nat} {f:Array Value->Array Value} {t':Nat} (I:Inv X pins σ H s) (hH:H l=some (.lst xs))
  (e:s.heap.get? l=some { cls:=.type "list",data:=.seq aj.toArray n }) (hf:f aj.toArray=its'.toArray) (hv:Vals ys its') (hz:ys.length<=sizeLine) :
  Inv X pins σ (upd H l (.lst ys)) { s with heap:=s.heap.update l (Obj.mapSeq f),toks:=t' }:=by
 have q:=PySem.IsL.update e f;rw [hf] at q;refine I.write (x:=l) (e:=l) (by rw [hH]; exact trivial) (.inl rfl) (fun b' u hb hu=>(Heap.get?_update_other s.heap (Obj.mapSeq f) (Ne.symm hb)).trans hu) ⟨_,q⟩ ?_;exact ⟨hz,its',_,hv,q⟩
theorem Inv.Hk {aj:List Value} {t':Nat} (I:Inv X pins σ H s) (hv:Vals ys aj) (hz:ys.length<=sizeLine) :
  Inv X pins σ (upd H s.heap.objs.size (.lst ys)) { s with heap:=s.heap.push { cls:=.type "list",data:=.seq aj.toArray },toks:=t' } :=
 I.laid (fun _ _ q=>Heap.get?_push_of_some _ q) (Nat.le_refl _) ⟨hz,aj,0,hv,Heap.get?_push_size _ rfl⟩
theorem Inv.fresh (I:Inv X pins σ H s):H s.heap.objs.size=none:=I.aA.fresh (Nat.le_refl _)
theorem Inv.nv (I:Inv X pins σ H s) (hH:H l=some (.lst xs)):xs.length<=sizeLine/\∃ (aj:List Value) (n:Nat),Vals xs aj/\xs.length=aj.length/\s.heap.get? l=some { cls:=.type "list",data:=.seq aj.toArray n }:=by
 obtain ⟨z,aj,n,r,e⟩:=I.aA l _ hH;exact ⟨z,aj,n,r,r.length,e⟩
theorem Lm {n:Nat} (h:n<=sizeLine):Builtin.List.listTooLong n=false:=by
 unfold Builtin.List.listTooLong;exact decide_eq_false (by omega)
end
section
variable {X:Cx}
def T5:V->List V->Hp->VK->Prop:=fun x vs H Q=>∃ l xs y,x=.ref l/\vs=[y]/\H l=some (.lst xs)/\xs.length < sizeLine/\Q .au (upd H l (.lst (xs++[y])))
theorem RA:Cf X "list.append" T5:=by
 intro pins s σ H x vs v us Q I rx rv h;obtain ⟨l,xs,y,rfl,rfl,hH,hz,q⟩:=h;cases rx;obtain ⟨u,rfl,ru⟩:=rv.one;obtain ⟨z,aj,n,r,hl,e⟩:=I.nv hH;refine call_meets F.slot_list_append ⟨_,e,rfl⟩ F.entry_list_append (F.args_list_append_2 _ _) (PySem.list_append l aj.toArray n u (by rw [List.size_toArray]; omega)) ⟨e,?_⟩;refine ⟨.au,_,I.z8 (its':=aj++[u]) hH e (by simp) (r.append (.cons ru .nil)) ?_,rfl,q⟩;rw [List.length_append,List.length_singleton];omega
def Qx:V->List V->Hp->VK->Prop:=fun x vs H Q=>∃ l b xs zs,x=.ref l/\vs=[.ref b]/\H l=some (.lst xs)/\H b=some (.lst zs)/\xs.length+zs.length<=sizeLine/\Q .au (upd H l (.lst (xs++zs)))
theorem SE:Cf X "list.extend" Qx:=by
 intro pins s σ H x vs v us Q I rx rv h;obtain ⟨l,b,xs,zs,rfl,rfl,hH,hB,hz,q⟩:=h;cases rx;obtain ⟨u,rfl,ru⟩:=rv.one;cases ru;obtain ⟨z,aj,n,r,hl,e⟩:=I.nv hH;obtain ⟨z2,nX,n2,r2,cw,e2⟩:=I.nv hB;have hsz:aj.toArray.size+nX.toArray.size<=sizeLine:=by rw [List.size_toArray,List.size_toArray]; omega
 have Eg:¬ (!aj.toArray.isEmpty && Builtin.List.listTooLong (aj.toArray.size+nX.toArray.size))=true:=by
  rw [Lm hsz,Bool.and_false];exact Bool.false_ne_true
 refine call_meets F.slot_list_extend ⟨_,e,rfl⟩ F.entry_list_extend (F.args_list_extend_2 _ _)
  (AutoSeq1.list_extend_list_list_0 l aj.toArray n b nX.toArray n2 Eg (by rw [List.size_toArray]; omega) (by omega)) ⟨e,e2,?_⟩
 refine ⟨.au,_,I.z8 (its':=aj++nX) hH e (by simp) (r.append r2) ?_,rfl,q⟩;rw [List.length_append];omega
def HS:V->List V->Hp->VK->Prop:=fun x vs H Q=>∃ l xs y,x=.ref l/\vs=[]/\H l=some (.lst xs)/\xs[xs.length - 1]?=some y/\Q y (upd H l (.lst xs.dropLast))
theorem Ub:Cf X "list.pop" HS:=by
 intro pins s σ H x vs v us Q I rx rv h;obtain ⟨l,xs,y,rfl,rfl,hH,hy,q⟩:=h;cases rx;have hus:=rv.zero;subst hus;obtain ⟨z,aj,n,r,hl,e⟩:=I.nv hH;obtain ⟨u,hu,ru⟩:=r.get hy;have hy':aj.toArray[aj.toArray.size - 1]?=some u:=by
  show aj.toArray[aj.length - 1]?=some u;rw [<- Array.getElem?_toList,<- hl];exact hu
 refine call_meets F.slot_list_pop ⟨_,e,rfl⟩ F.entry_list_pop (F.args_list_pop_1 _) (MeetsSeq.list_pop_last l aj.toArray n u hy' (by rw [List.size_toArray]; omega)) ⟨e,?_⟩;refine ⟨y,_,I.z8 (its':=aj.dropLast) hH e ?_ r.dropLast ?_,ru,q⟩
 ·show aj.toArray.eraseIdxIfInBounds (aj.toArray.size - 1)=aj.dropLast.toArray;rw [List.size_toArray,List.eraseIdxIfInBounds_toArray,R6]
 ·rw [List.length_dropLast];omega
def aaf:R2:=fun x y H Q=>∃ l b xs zs,x=.ref l/\y=.ref b/\H l=some (.lst xs)/\H b=some (.lst zs)/\xs.length+zs.length<=sizeLine/\∀ p,H p=none->Q (.ref p) (upd H p (.lst (xs++zs)))
theorem N8:aX X (binaryOp .Add) aaf:=by
 intro pins s σ H x y v u Q I rx ry h;obtain ⟨l,b,xs,zs,rfl,rfl,hH,hB,hz,q⟩:=h;cases rx;cases ry;obtain ⟨z,aj,n,r,hl,e⟩:=I.nv hH;obtain ⟨z2,nX,n2,r2,cw,e2⟩:=I.nv hB;refine PySem.P.add_list e e2 ?_ (by rw [List.size_toArray,List.size_toArray]; omega);have ea:aj.toArray++nX.toArray=(aj++nX).toArray:=by simp
 rw [ea];exact ⟨.ref _,_,I.Hk (t':=s.toks) (r.append r2) (by rw [List.length_append]; omega),rfl,q _ I.fresh⟩
def Ym:R2:=fun x y H Q=>∃ l k xs,x=.ref l/\y=.int k/\H l=some (.lst xs)/\-(2 ^ 63)<=k/\k < 2 ^ 63/\xs.length * k.toNat<=sizeLine /\
 ∀ p,H p=none->Q (.ref p) (upd H p (.lst (List.replicate k.toNat xs).flatten))
theorem len_rep {α:Type} (xs:List α) (k:Nat):(List.replicate k xs).flatten.length=k * xs.length:=by
 induction k with
 | zero=>simp
 | succ k ih=>rw [List.replicate_succ,List.flatten_cons,List.length_append,ih,Nat.succ_mul,Nat.add_comm]
theorem O1:aX X (binaryOp .Mult) Ym:=by
 intro pins s σ H x y v u Q I rx ry h;obtain ⟨l,k,xs,rfl,rfl,hH,h1,h2,hz,q⟩:=h;cases rx;obtain ⟨t,rfl⟩:=ry;obtain ⟨z,aj,n,r,hl,e⟩:=I.nv hH;have hlen:aj.toArray.size * k.toNat<=sizeLine:=by rw [List.size_toArray,<- hl]; exact hz
 have hcap:¬ aj.toArray.size * k.toNat > (2 ^ 63 - 1) / 8:=by
  have:(sizeLine:Nat)<=(2 ^ 63 - 1) / 8:=by decide
  omega
 have DA:¬ (!Builtin.List.listFitsIndex k)=true:=by
  rw [fitsIndex_both h1 h2];exact Bool.false_ne_true
 have Eg:¬ Builtin.List.listTooLong (aj.toArray.size * k.toNat)=true:=by
  rw [Lm hlen];exact Bool.false_ne_true
 have hnew:List.foldl (fun x1 x2=>x1++x2) #[] (List.replicate (if aj.toArray.isEmpty=true then 0 else k.toNat) aj.toArray)=(List.replicate k.toNat aj).flatten.toArray:=by
  have f0:∀ m:Nat,List.foldl (fun x1 x2=>x1++x2) #[] (List.replicate m aj.toArray)=(List.replicate m aj).flatten.toArray:=fun m=>by
   have:=foldl_rep aj m [];rw [List.nil_append] at this;exact this
  rw [f0];cases aj with
  | nil=>simp
  | cons a r'=>rw [if_neg (by simp)]
 refine wpAny_binaryOp_repeat_ref (T := "list") (U := "int") (by decide) ⟨_,e,rfl⟩ (fun s'=>typeIs_int s' k t) noFill_list_mul F.fills_int_mul F.slot_int_rmul repeat_list F.slot_int_index.lookup
  (call_meets F.slot_int_rmul (typeIs_int s k t) F.entry_int_rmul (F.args_int_rmul_2 _ _) (int___rmul___int_list k t l aj.toArray n)
   ⟨e,rfl,⟨_,e,rfl⟩,call_meets F.slot_list_mul ⟨_,e,rfl⟩ F.entry_list_mul (F.args_list_mul_2 _ _) (AutoListH.list___mul___list_int_3 l aj.toArray n k t DA hcap Eg) ⟨e,?_⟩⟩)
 rw [hnew];exact ⟨.ref _,_,I.Hk (t':=s.toks) (r.rep k.toNat) (by rw [len_rep,Nat.mul_comm]; exact hz),rfl,q _ I.fresh⟩
end
section
variable {prog:Program} {w:World} {A:Around} {E:Value->Shared->Prop} {s:Shared}
end
section
variable {X:Cx}
end
section
variable {κ:Type} [DecidableEq κ]
def aP (kvs:List (κ×V)) (k:κ):Option V:=(kvs.find? fun kv=>decide (kv.1=k)).map (·.2)
def putK (kvs:List (κ×V)) (k:κ) (v:V):List (κ×V) :=
 if (kvs.any fun kv=>decide (kv.1=k))=true then kvs.map (fun kv=>if kv.1=k then (kv.1,v) else kv) else kvs++[(k,v)]
theorem nt {p:κ×V} {r:List (κ×V)} {k:κ} (e:p.1=k):aP (p::r) k=some p.2:=by simp [aP,List.find?_cons,e]
theorem mR {p:κ×V} {r:List (κ×V)} {k:κ} (e:¬ p.1=k):aP (p::r) k=aP r k:=by simp [aP,List.find?_cons,e]
theorem Aj (k:κ):∀ kvs:List (κ×V),(kvs.any fun kv=>decide (kv.1=k))=(aP kvs k).isSome
 | []=>rfl
 | p::r=>by
  rw [List.any_cons];by_cases e:p.1=k
  ·simp only [nt e,decide_eq_true e,Bool.true_or,Option.isSome_some]
  ·rw [mR e,decide_eq_false e,Bool.false_or]; exact Aj k r
theorem FW (k j:κ) (y:V):∀ kvs:List (κ×V),aP kvs k=none->aP (kvs++[(k,y)]) j=if j=k then some y else aP kvs j
 | [],_=>by
  by_cases e:k=j
  ·rw [if_pos e.symm]; exact nt (p:=(k,y)) e
  ·rw [if_neg (fun z=>e z.symm)]; exact mR (p:=(k,y)) e
 | p::r,hn=>by
  rw [List.cons_append];have hk:¬ p.1=k:=fun z=>by rw [nt z] at hn; cases hn
  rw [mR hk] at hn;have ih:=FW k j y r hn;by_cases e:p.1=j
  ·rw [nt e,nt e,if_neg (fun z=>hk (e.trans z))]
  ·rw [mR e,mR e,ih]
theorem Hv (kvs:List (κ×V)) (k:κ) (v:V):(putK kvs k v).length<=kvs.length+1:=by
 unfold putK;split
 ·rw [List.length_map]; omega
 ·rw [List.length_append,List.length_cons,List.length_nil]; omega
theorem eg.qN {o:Option V} {u:Option Value} (r:eg o u):o.isSome=u.isSome:=by
 cases o with
 | none=>cases u with
  | none=>rfl
  | some _=>exact (show False from r).elim
 | some _=>cases u with
  | none=>exact (show False from r).elim
  | some _=>rfl
theorem eg.getD {o:Option V} {u:Option Value} {d:V} {d':Value} (r:eg o u) (rd:RelV d d'):RelV (o.getD d) (u.getD d'):=by
 cases o with
 | none=>cases u with
  | none=>exact rd
  | some _=>exact (show False from r).elim
 | some _=>cases u with
  | none=>exact (show False from r).elim
  | some _=>exact r
theorem KV.val {kvs:List (κ×V)} {vs:List (κ×Value)} (r:KV kvs vs) (k:κ):eg (aP kvs k) (valueAt vs k):=by
 unfold KV at r
 induction r with
 | nil=>exact True.intro
 | @cons p q ps qs h t ih =>
  obtain ⟨h1,h2⟩:=h;by_cases e:p.1=k
  ·have e':q.1=k:=h1.symm.trans e;have b:valueAt (q::qs) k=some q.2:=by simp [valueAt,List.find?_cons,e']
   rw [nt e,b]; exact h2
  ·have e':¬ q.1=k:=fun z=>e (h1.trans z);have b:valueAt (q::qs) k=valueAt qs k:=by simp [valueAt,List.find?_cons,e']
   rw [mR e,b]; exact ih
theorem KV.any {kvs:List (κ×V)} {vs:List (κ×Value)} (r:KV kvs vs) (k:κ):(kvs.any fun kv=>decide (kv.1=k))=vs.any fun kv=>decide (kv.1=k):=by
 unfold KV at r
 induction r with
 | nil=>rfl
 | cons h t ih=>rw [List.any_cons,List.any_cons,ih,h.1]
theorem KV.xW {kvs:List (κ×V)} {vs:List (κ×Value)} (r:KV kvs vs) (k:κ) {y:V} {u:Value} (ry:RelV y u) :
  KV (kvs.map fun kv=>if kv.1=k then (kv.1,y) else kv) (vs.map fun kv=>if kv.1=k then (kv.1,u) else kv):=by
 unfold KV at r ⊢
 induction r with
 | nil=>exact .nil
 | @cons p q ps qs h t ih =>
  rw [List.map_cons,List.map_cons];refine .cons ?_ ih;obtain ⟨h1,h2⟩:=h;by_cases e:p.1=k
  ·rw [if_pos e,if_pos (h1.symm.trans e)]; exact ⟨h1,ry⟩
  ·rw [if_neg e,if_neg (fun z=>e (h1.trans z))]; exact ⟨h1,h2⟩
theorem KV.put {kvs:List (κ×V)} {vs:List (κ×Value)} (r:KV kvs vs) (k:κ) {y:V} {u:Value} (ry:RelV y u):KV (putK kvs k y) (stored vs k u):=by
 unfold putK stored;rw [r.any k];by_cases e:(vs.any fun kv=>decide (kv.1=k))=true
 ·rw [if_pos e,if_pos e]; exact r.xW k ry
 ·rw [if_neg e,if_neg e]; exact Paired.snoc r ⟨rfl,ry⟩
theorem KV.keys {kvs:List (κ×V)} {vs:List (κ×Value)} (r:KV kvs vs):kvs.map (·.1)=vs.map (·.1):=by
 unfold KV at r
 induction r with
 | nil=>rfl
 | cons h t ih=>rw [List.map_cons,List.map_cons,ih,h.1]
theorem KV.length {kvs:List (κ×V)} {vs:List (κ×Value)} (r:KV kvs vs):kvs.length=vs.length:=Paired.length r
end
theorem oR {P:Program} {w:World} {k:Key} {u:Value} (r:RelV (kV k) u):(en P w).is k u=true:=by
 cases k with
 | inl i=>obtain ⟨t,e⟩:=(show ∃ t,u=Value.int i t from r); subst e; exact Oh P w i t
 | inr x=>obtain ⟨t,e⟩:=(show ∃ t,u=Value.str x t from r); subst e; exact Vj P w x t
theorem Ie {P:Program} {w:World}:∀ {ks:List Key} {us:List Value},Vals (ks.map kV) us->ItemsAre (en P w) ks us
 | [],_,r=>by rw [List.map_nil] at r; cases r; exact .nil
 | k::ks,_,r=>by
  rw [List.map_cons] at r;cases r with
  | cons h t=>exact .cons (oR h) (Ie t)
abbrev KT (H:Hp):List (List Key×V)->List (List Key×Addr×Value)->Prop:=Paired fun p q=>p.1=q.1/\H q.2.1=some (.tup (p.1.map kV))/\RelV p.2 q.2.2
theorem KT.val {H:Hp} {kvs:List (List Key×V)} {xs:List (List Key×Addr×Value)} (r:KT H kvs xs) (k:List Key):eg (aP kvs k) ((atKey xs k).map (·.2)):=by
 induction r with
 | nil=>exact True.intro
 | @cons p q ps qs h t ih =>
  obtain ⟨h1,_,h2⟩:=h;by_cases e:p.1=k
  ·have e':q.1=k:=h1.symm.trans e;have b:atKey (q::qs) k=some q.2:=by simp [atKey,List.find?_cons,e']
   rw [nt e,b]; exact h2
  ·have e':¬ q.1=k:=fun z=>e (h1.trans z);have b:atKey (q::qs) k=atKey qs k:=by simp [atKey,List.find?_cons,e']
   rw [mR e,b]; exact ih
theorem KT.xW {H:Hp} {kvs:List (List Key×V)} {xs:List (List Key×Addr×Value)} (r:KT H kvs xs) (k:List Key) {y:V} {u:Value} (ry:RelV y u) :
  KT H (kvs.map fun kv=>if kv.1=k then (kv.1,y) else kv) (xs.map (putAt k u)):=by
 induction r with
 | nil=>exact .nil
 | @cons p q ps qs h t ih =>
  rw [List.map_cons,List.map_cons];refine .cons ?_ ih;obtain ⟨h1,h2,h3⟩:=h;unfold putAt;by_cases e:p.1=k
  ·rw [if_pos e,if_pos (h1.symm.trans e)]; exact ⟨h1,h2,ry⟩
  ·rw [if_neg e,if_neg (fun z=>e (h1.trans z))]; exact ⟨h1,h2,h3⟩
theorem KT.put {H:Hp} {kvs:List (List Key×V)} {xs:List (List Key×Addr×Value)} (r:KT H kvs xs) (k:List Key) {b:Addr} {y:V} {u:Value} (hb:H b=some (.tup (k.map kV))) (ry:RelV y u) :
  KT H (putK kvs k y) (storedH xs k b u):=by
 have e:(kvs.any fun kv=>decide (kv.1=k))=(atKey xs k).isSome:=by
  rw [Aj,(r.val k).qN,Option.isSome_map]
 unfold putK storedH;rw [e];by_cases q:(atKey xs k).isSome=true
 ·rw [if_pos q,if_pos q]; exact r.xW k ry
 ·rw [if_neg q,if_neg q]; exact Paired.snoc r ⟨rfl,hb,ry⟩
theorem KT.keeps {H H':Hp} {kvs:List (List Key×V)} {xs:List (List Key×Addr×Value)} (r:KT H kvs xs) (ht:∀ b ys,H b=some (.tup ys)->H' b=some (.tup ys)):KT H' kvs xs :=
 Paired.Cz r fun _ _ z=>⟨z.1,ht _ _ z.2.1,z.2.2⟩
section
variable {P:Program} {w:World} {H:Hp} {h:Heap} {a:Addr}
theorem GA {u:HO} (ok:bZ P w H h) (e:Rd H a u):bH P w H h a u:=e.ok ok
theorem mZ {kvs:List (Key×V)} (ok:bZ P w H h) (e:Rd H a (.dK kvs)):kvs.length<=sizeLine/\(a == sysModules)=false/\∃ vs,KV kvs vs/\h.DictOf (en P w) a vs :=
 show bH P w H h a (.dK kvs) from GA ok e
theorem ZH {kvs:List (Key×V)} (ok:bZ P w H h) (e:H a=some (.dK kvs)):kvs.length<=sizeLine/\(a == sysModules)=false/\∃ vs,KV kvs vs/\h.DictOf (en P w) a vs:=mZ ok (.inl e)
theorem oq {ks:List Key} (ok:bZ P w H h) (e:H a=some (.tup (ks.map kV))):(tupleKind (en P w)).is h ks a:=by
 obtain ⟨_,aj,r,o,h1,h2,n,h3⟩:=(show bH P w H h a (.tup (ks.map kV)) from ok a _ e);exact ⟨o,aj.toArray,n,h1,h2,h3.1,by simpa using Ie r⟩
theorem mT {kvs:List (List Key×V)} (ok:bZ P w H h) (e:Rd H a (.dT kvs)):kvs.length<=sizeLine/\(a == sysModules)=false /\
  ∃ xs,KT H kvs xs/\h.DictOfH (tupleKind (en P w)) a xs:=by
 obtain ⟨z,y,xs,r,o,es,ep,h1,h2,h3,h4,h5⟩:=(show bH P w H h a (.dT kvs) from GA ok e);refine ⟨z,y,xs,r,o,es,ep,h1,h2,h3,h4,fun x hx=>?_,h5⟩;have all:∀ {l:List (List Key×V)} {m:List (List Key×Addr×Value)},KT H l m->∀ x∈m,(tupleKind (en P w)).is h x.1 x.2.1:=by
  intro l m q
  induction q with
  | nil=>intro x hx; exact nomatch hx
  | @cons p q ps qs hq t ih =>
   intro x hx;rcases List.mem_cons.mp hx with e | hx
   ·subst e;exact oq ok (by rw [<- hq.1]; exact hq.2.1)
   ·exact ih x hx
 exact all r x hx
theorem Vx {kvs:List (List Key×V)} (ok:bZ P w H h) (e:H a=some (.dT kvs)):kvs.length<=sizeLine/\(a == sysModules)=false /\
  ∃ xs,KT H kvs xs/\h.DictOfH (tupleKind (en P w)) a xs:=mT ok (.inl e)
end
def dR (H:Hp) (a:Addr) (y:V) (r:Option V):Prop :=
 (∃ kvs k,Rd H a (.dK kvs)/\y=kV k/\r=aP kvs k)\/∃ kvs k b,Rd H a (.dT kvs)/\y=.ref b/\H b=some (.tup (k.map kV))/\r=aP kvs k
def iI (H:Hp) (a:Addr) (y v:V) (H':Hp):Prop :=
 (∃ kvs k,H a=some (.dK kvs)/\y=kV k/\kvs.length < sizeLine/\H'=upd H a (.dK (putK kvs k v))) \/
 ∃ kvs k b,H a=some (.dT kvs)/\y=.ref b/\H b=some (.tup (k.map kV))/\kvs.length < sizeLine/\H'=upd H a (.dT (putK kvs k v))
theorem dR.k {H:Hp} {a:Addr} {kvs:List (Key×V)} {k:Key} (e:H a=some (.dK kvs)):dR H a (kV k) (aP kvs k):=.inl ⟨kvs,k,.inl e,rfl,rfl⟩
theorem iI.k {H:Hp} {a:Addr} {kvs:List (Key×V)} {k:Key} {v:V} (e:H a=some (.dK kvs)) (hl:kvs.length < sizeLine):iI H a (kV k) v (upd H a (.dK (putK kvs k v))):=.inl ⟨kvs,k,e,rfl,hl,rfl⟩
theorem iI.t {H:Hp} {a b:Addr} {kvs:List (List Key×V)} {k:List Key} {v:V} (e:H a=some (.dT kvs)) (eb:H b=some (.tup (k.map kV))) (hl:kvs.length < sizeLine) :
  iI H a (.ref b) v (upd H a (.dT (putK kvs k v))):=.inr ⟨kvs,k,b,e,rfl,eb,hl,rfl⟩
section
variable {X:Cx} {pins:List (Addr×Obj)} {σ:St} {H:Hp} {s:Shared} {a:Addr} {y v:V} {u r:Value} {o:Option V} {A:Around} {E:Value->Shared->Prop}
theorem Inv.big (I:Inv X pins σ H s):sysModules < s.heap.objs.size:=by
 have h:mainGlobals < s.heap.objs.size:=(I.mod.glob.keeps I.bk).lt;exact Nat.lt_trans (by decide) h
theorem Qo {Q:Value->Shared->Prop} (hu:A.units+1 < cLine) (I:Inv X pins σ H s) (g:dR H a y (some v)) (ry:RelV y u) (h:∀ w' s',Inv X pins σ H s'->RelV v w'->Q w' s') :
  wpAny (model X.prog X.w) A (getItem (.ref a) u) Q E s:=by
 rcases g with ⟨kvs,k,e,ey,l⟩ | ⟨kvs,k,b,e,ey,eb,l⟩
 ·subst ey;obtain ⟨z,hd,vs,rel,dd⟩:=mZ I.aA e;obtain ⟨w',hw,rw'⟩:=eg.some_of (v:=v) (o:=valueAt vs k) (by rw [l]; exact rel.val k);exact wpAny_getItem_of (oR ry) dd.mapOf hw (h w' _ (I.tok _) rw')
 ·subst ey;cases (show u=Value.ref b from ry);obtain ⟨z,hd,xs,rel,dd⟩:=mT I.aA e;obtain ⟨w',hw,rw'⟩:=eg.some_of (v:=v) (o:=(atKey xs k).map (·.2)) (by rw [l]; exact rel.val k);obtain ⟨p,hp,dP⟩:=Option.map_eq_some_iff.mp hw;refine wpAny_getItem_heap (tupleKind_room_in1 hu) (oq I.aA eb) dd hp ?_;rw [dP];exact h w' _ (I.tok _) rw'
theorem Uh {Q:Value->Shared->Prop} (hu:A.units+1 < cLine) (I:Inv X pins σ H s) (g:dR H a y o) (ry:RelV y u) (h:∀ s',Inv X pins σ H s'->Q (.bool o.isSome) s') :
  wpAny (model X.prog X.w) A (compareOp .In u (.ref a)) Q E s:=by
 rcases g with ⟨kvs,k,e,ey,l⟩ | ⟨kvs,k,b,e,ey,eb,l⟩
 ·subst ey;obtain ⟨z,hd,vs,rel,dd⟩:=mZ I.aA e;refine wpAny_in_of (oR ry) hd dd.mapOf ?_;rw [<- (rel.val k).qN,<- l];exact h _ (I.tok _)
 ·subst ey;cases (show u=Value.ref b from ry);obtain ⟨z,hd,xs,rel,dd⟩:=mT I.aA e;refine wpAny_in_heap (tupleKind_room_in1 hu) (oq I.aA eb) hd dd ?_;have q:=(rel.val k).qN;rw [Option.isSome_map] at q;rw [<- q,<- l];exact h _ (I.tok _)
theorem Pz {Q:Value->Shared->Prop} (hu:A.units+1 < cLine) (I:Inv X pins σ H s) (g:dR H a y o) (ry:RelV y u) (h:∀ s',Inv X pins σ H s'->Q (.bool (!o.isSome)) s') :
  wpAny (model X.prog X.w) A (compareOp .NotIn u (.ref a)) Q E s:=by
 rcases g with ⟨kvs,k,e,ey,l⟩ | ⟨kvs,k,b,e,ey,eb,l⟩
 ·subst ey;obtain ⟨z,hd,vs,rel,dd⟩:=mZ I.aA e;refine wpAny_notIn_of (oR ry) hd dd.mapOf ?_;rw [<- (rel.val k).qN,<- l];exact h _ (I.tok _)
 ·subst ey;cases (show u=Value.ref b from ry);obtain ⟨z,hd,xs,rel,dd⟩:=mT I.aA e;refine wpAny_notIn_heap (tupleKind_room_in1 hu) (oq I.aA eb) hd dd ?_;have q:=(rel.val k).qN;rw [Option.isSome_map] at q;rw [<- q,<- l];exact h _ (I.tok _)
theorem KC {h':Heap} {t':Nat} {ob:HO} (I:Inv X pins σ H s) (mu:tU (H a)) (hs:Heap.SameBut a s.heap h') (he:∃ q,h'.get? a=some q) (new:bH X.prog X.w (upd H a ob) h' a ob) :
  Inv X pins σ (upd H a ob) { s with heap:=h',toks:=t' } :=
 I.write (x:=a) (e:=a) mu (.inl rfl) (fun b q hb z=>(hs.2 b hb).trans z) he new
theorem Sq {P:Program} {w:World} {H':Hp} {h':Heap} {kvs:List (Key×V)} {vs:List (Key×Value)} (z:kvs.length<=sizeLine) (hd:(a == sysModules)=false) (rel:KV kvs vs) (dd:h'.DictOf (en P w) a vs) :
  bH P w H' h' a (.dK kvs):=⟨z,hd,vs,rel,dd⟩
theorem UK {H':Hp} {Q:Unit->Shared->Prop} (hu:A.units+1 < cLine) (I:Inv X pins σ H s) (g:iI H a y v H') (ry:RelV y u) (rv:RelV v r) (h:∀ s',Inv X pins σ H' s'->Q () s') :
  wpAny (model X.prog X.w) A (setItem (.ref a) u r) Q E s:=by
 rcases g with ⟨kvs,k,e,ey,l,eH⟩ | ⟨kvs,k,b,e,ey,eb,l,eH⟩
 ·subst ey eH;obtain ⟨z,hd,vs,rel,dd⟩:=ZH I.aA e;have hz:vs.length<=sizeLine:=by rw [<- rel.length]; exact z
  have hl:(putK kvs k v).length<=sizeLine:=by have:=Hv kvs k v; omega
  refine wpAny_setItem_pairs (hsz:=hz) (oR ry) dd fun h' dd' hs=>h _ ?_;have he:∃ q,h'.get? a=some q:=let ⟨q,_,_,hq,_⟩:=dd'; ⟨q,hq⟩
  exact KC I (by rw [e]; exact True.intro) hs he (Sq hl hd (rel.put k rv) dd')
 ·subst ey eH;cases (show u=Value.ref b from ry);obtain ⟨z,hd,xs,rel,dd⟩:=Vx I.aA e;have hz:xs.length<=sizeLine:=by rw [<- Paired.length rel]; exact z
  have hl:(putK kvs k v).length<=sizeLine:=by have:=Hv kvs k v; omega
  refine wpAny_setItem_heap (hsz:=hz) (tupleKind_room_in1 hu) (oq I.aA eb) dd fun h' dd' hs=>h _ ?_;obtain ⟨q,es,ep,hq,h2,h3,h4,_,h5⟩:=dd';refine KC I (by rw [e]; exact True.intro) hs ⟨q,hq⟩ ⟨hl,hd,_,(rel.put k eb rv).keeps fun c ys ec=>?_,q,es,ep,hq,h2,h3,h4,h5⟩;rw [ag (TB ec e (fun z=>nomatch z))];exact ec
end
section
variable {X:Cx} {pins:List (Addr×Obj)} {σ:St} {H:Hp} {s:Shared} {a:Addr} {kvs:List (Key×V)} {k:Key} {u:Value} {A:Around} {E:Value->Shared->Prop}
end
def AX (i:Expr):Prop:=∀ ov iv,subscripted i false ov iv=operate [ov,iv] (getItem ov iv)
theorem YK {prog:Program} {w:World} {A:Around} {E:Value->Shared->Prop} {s:Shared} {env:Env} {value slice:Expr} {pos:Pos} {T id:String} {Q:Value->Shared->Prop}
  (hl:typeLookup (.type T) "__getitem__" = pure (some (.builtin id))) (hs:AX slice)
  (h:wpAny (model prog w) A (eval value env) (fun o s₁=>wpAny (model prog w) A (eval slice env) (fun i s₂=>s₂.TypeIs o T/\wpAny (model prog w) A (getItem o i) Q E s₂) E s₁) E s) :
  wpAny (model prog w) A (eval (.Subscript value slice pos) env) Q E s:=by
 refine Subscript_ (wpAny_mono h (fun o s₁ h₁=>wpAny_mono h₁ (fun i s₂ h₂=>?_) fun _ _ x=>x) fun _ _ x=>x);obtain ⟨hT,h₂⟩:=h₂;unfold subscriptTail;refine wpAny_bind ?_;rw [getitemInPython_of_ne hT.not_modules];refine wpAny_bind (wpAny_specialOf hT hl ?_);have fin:wpAny (model prog w) A (subscripted slice false o i) (fun r s₃=>wpAny (model prog w) A (letTemporaryGo value o r >>= fun _=>pure r) Q E s₃) E s₂:=by
  rw [hs o i];exact wpAny_operating (wpAny_mono h₂ (fun r s₃ h₃=>wpAny_bind (wpAny_letTemporaryGo (wpAny_pure h₃))) fun _ _ x=>x)
 first
  | exact wpAny_pure (wpAny_bind fin)
  | exact wpAny_bind (wpAny_pure (wpAny_bind fin))
  | exact wpAny_bind fin
theorem T9 {X:Cx} {pins:List (Addr×Obj)} {σ:St} {H:Hp} {s:Shared} {a:Addr} {y:V} {o:Option V} (I:Inv X pins σ H s) (g:dR H a y o):s.TypeIs (.ref a) "dict" := by
 rcases g with ⟨kvs,k,e,_,_⟩ | ⟨kvs,k,b,e,_,_,_⟩
 ·obtain ⟨_,_,vs,_,dd⟩:=mZ I.aA e;exact dd.typeIs
 ·obtain ⟨_,_,xs,_,dd⟩:=mT I.aA e;exact dd.typeIs
def AM (td ty:TE):TE:=fun σ H Q=>td σ H fun x H1=>ty σ H1 fun y H2=>∃ a v,x=.ref a/\dR H2 a y (some v)/\Q v H2
def Bn (ty td:TE):TE:=fun σ H Q=>ty σ H fun y H1=>td σ H1 fun x H2=>∃ a o,x=.ref a/\dR H2 a y o/\Q (.bl o.isSome) H2
def zy (ty td:TE):TE:=fun σ H Q=>ty σ H fun y H1=>td σ H1 fun x H2=>∃ a o,x=.ref a/\dR H2 a y o/\Q (.bl (!o.isSome)) H2
def BB (td ty tv:TE):TS:=fun D σ H=>tv σ H fun v H1=>td σ H1 fun x H2=>ty σ H2 fun y H3=>∃ a H4,x=.ref a/\iI H3 a y v H4/\D.nx σ H4
section
variable {X:Cx} {o i e value:Expr} {pos pos' tpos:Pos} {td ty tv:TE}
theorem YZ (hu:X.A.units+1 < cLine) (ho:PE X o td) (hi:PE X i ty) (hs:AX i):PE X (.Subscript o i pos) (AM td ty):=by
 intro pins s σ H Q I h;refine YK PySem.F.slot_dict_getitem.lookup hs (aD (ho pins s σ H _ I h) fun u s1 ⟨x,H1,I1,rx,q1⟩=>aD (hi pins s1 σ H1 _ I1 q1) fun iv s2 ⟨y,H2,I2,ry,a,v,ex,g,q2⟩=>?_);subst ex;obtain rfl:u=Value.ref a:=rx;exact ⟨T9 I2 g,Qo hu I2 g ry fun w' s3 I3 rw'=>⟨v,H2,I3,rw',q2⟩⟩
theorem ZX (hu:X.A.units+1 < cLine) (hi:PE X i ty) (ho:PE X o td):PC X .In i o (Bn ty td):=by
 intro pins s σ H Q I h;refine aD (hi pins s σ H _ I h) fun iv s1 ⟨y,H1,I1,ry,q1⟩=>aD (ho pins s1 σ H1 _ I1 q1) fun u s2 ⟨x,H2,I2,rx,a,ov,ex,g,q2⟩=>?_;subst ex;obtain rfl:u=Value.ref a:=rx;exact Uh hu I2 g ry fun s3 I3=>⟨.bl ov.isSome,H2,I3,rfl,q2⟩
theorem Z9 (hu:X.A.units+1 < cLine) (hi:PE X i ty) (ho:PE X o td):PC X .NotIn i o (zy ty td):=by
 intro pins s σ H Q I h;refine aD (hi pins s σ H _ I h) fun iv s1 ⟨y,H1,I1,ry,q1⟩=>aD (ho pins s1 σ H1 _ I1 q1) fun u s2 ⟨x,H2,I2,rx,a,ov,ex,g,q2⟩=>?_;subst ex;obtain rfl:u=Value.ref a:=rx;exact Pz hu I2 g ry fun s3 I3=>⟨.bl (!ov.isSome),H2,I3,rfl,q2⟩
theorem Xp (hu:X.A.units+1 < cLine) (ho:PE X o td) (hi:PE X i ty) (hv:PE X value tv) (hs:swapsWith value (some (.Subscript o i pos')) pos.line X.env=pure false) :
  PS X (.Assign [.Subscript o i pos'] value pos) (BB td ty tv):=by
 intro pins s σ H D I h;refine wpAny_Assign_Subscript (aD (hv pins s σ H _ I h) fun r s1 ⟨v,H1,I1,rv,q1⟩=>aD (ho pins s1 σ H1 _ I1 q1) fun u s2 ⟨x,H2,I2,rx,q2⟩=>aD (hi pins s2 σ H2 _ I2 q2) fun iv s3 ⟨y,H3,I3,ry,a,H4,ex,g,q3⟩=>?_) hs;subst ex;obtain rfl:u=Value.ref a:=rx;exact UK hu I3 g ry rv fun s4 I4=>⟨σ,H4,I4,q3⟩
end
theorem Ry {P:Program} {w:World} {H:Hp} (h:Heap) (hb:sysModules < h.objs.size):bH P w H (h.push { cls:=.type "dict",data:=.dict #[] }) h.objs.size (.dK []) :=
 ⟨Nat.zero_le _,beq_eq_false_iff_ne.mpr (Ne.symm (Nat.ne_of_lt hb)),[],.nil,Heap.DictOf.new h⟩
theorem Za {P:Program} {w:World} {H:Hp} (h:Heap) (hb:sysModules < h.objs.size):bH P w H (h.push { cls:=.type "dict",data:=.dict #[] }) h.objs.size (.dT []) :=
 ⟨Nat.zero_le _,beq_eq_false_iff_ne.mpr (Ne.symm (Nat.ne_of_lt hb)),[],.nil,_,#[],0,Heap.get?_push_size _ rfl,⟨rfl,rfl,rfl⟩,rfl,rfl,List.nodup_nil⟩
def C0:TE:=fun _ H Q=>∀ p,H p=none->Q (.ref p) (upd H p (.dK []))
def zi:TE:=fun _ H Q=>∀ p,H p=none->Q (.ref p) (upd H p (.dT []))
section
variable {X:Cx} {pos:Pos}
theorem Xk:PE X (.Dict [] [] pos) C0:=fun pins s σ H Q I h =>
 wpAny_Dict_empty ⟨.ref s.heap.objs.size,_,I.laid (a:=s.heap.objs.size) (o:=.dK []) (t':=s.toks) (fun _ _ q=>Heap.get?_push_of_some _ q) (Nat.le_refl _) (Ry s.heap I.big),rfl,h _ (I.aA.fresh (Nat.le_refl _))⟩
theorem S4:PE X (.Dict [] [] pos) zi:=fun pins s σ H Q I h =>
 wpAny_Dict_empty ⟨.ref s.heap.objs.size,_,I.laid (a:=s.heap.objs.size) (o:=.dT []) (t':=s.toks) (fun _ _ q=>Heap.get?_push_of_some _ q) (Nat.le_refl _) (Za s.heap I.big),rfl,h _ (I.aA.fresh (Nat.le_refl _))⟩
end
def J8:List (TE×TE)->St->Hp->(List (V×V)->Hp->Prop)->Prop
 | [],_,H,Q=>Q [] H
 | (tk,tv)::r,σ,H,Q=>tk σ H fun x H1=>tv σ H1 fun y H2=>J8 r σ H2 fun ps H3=>Q ((x,y)::ps) H3
abbrev VV:List (V×V)->List (Value×Value)->Prop:=Paired fun p q=>RelV p.1 q.1/\RelV p.2 q.2
def Qq (X:Cx) (pos:Pos) (keys:List (Option Expr)) (values:List Expr) (trs:List (TE×TE)):Prop :=
 ∀ (pins:List (Addr×Obj)) (s:Shared) (σ:St) (H:Hp) (Q:List (V×V)->Hp->Prop),Inv X pins σ H s->J8 trs σ H Q ->
  wpAny (model X.prog X.w) X.A (evalPairs (pairTrees keys values X.env pos)) (fun vs s'=>∃ ps H',Inv X pins σ H' s'/\VV ps vs/\Q ps H') X.xe s
structure M1 (X:Cx) (o:Expr) (m:Str) (apos:Pos) (e:Expr) (bw:Pos):Prop where
 base:attributeBase o m X.env (eval o X.env)=eval o X.env
 IS:((backTo bw (starEach [e] X.env)).all (fun x=>!x.1) && (backToKw bw (keywordEach [] X.env)).all (fun x=>x.1.isSome)
  && decide (([e]:List Expr).length+([]:List Keyword).length+(if ([]:List Keyword).isEmpty then 0 else 1) < 30))=true
 line:(apos.endLine == bw.line)=true
 trees:backTo bw (starEach [e] X.env)=[(false,eval e X.env)]
structure M2 (X:Cx) (o:Expr) (m:Str) (apos:Pos) (e f:Expr) (bw:Pos):Prop where
 base:attributeBase o m X.env (eval o X.env)=eval o X.env
 IS:((backTo bw (starEach [e,f] X.env)).all (fun x=>!x.1) && (backToKw bw (keywordEach [] X.env)).all (fun x=>x.1.isSome)
  && decide (([e,f]:List Expr).length+([]:List Keyword).length+(if ([]:List Keyword).isEmpty then 0 else 1) < 30))=true
 line:(apos.endLine == bw.line)=true
 trees:backTo bw (starEach [e,f] X.env)=[(false,eval e X.env),(false,eval f X.env)]
def K0 (H:Hp) (a:Addr):Prop:=(∃ kvs,Rd H a (.dK kvs))\/∃ kvs,Rd H a (.dT kvs)
theorem PX {X:Cx} {pins:List (Addr×Obj)} {σ:St} {H:Hp} {s:Shared} {a:Addr} (I:Inv X pins σ H s) (d:K0 H a) :
  s.TypeIs (.ref a) "dict" /\ (∀ b,Value.ref a=.ref b->∃ ob,s.heap.get? b=some ob/\ob.dict=none)/\(a == sysModules)=false:=by
 rcases d with ⟨kvs,e⟩ | ⟨kvs,e⟩
 ·obtain ⟨_,hd,vs,_,dd⟩:=mZ I.aA e;refine ⟨dd.typeIs,fun b q=>?_,hd⟩;cases q;obtain ⟨ob,_,_,h1,h2,_⟩:=dd;exact ⟨ob,h1,h2.2.1⟩
 ·obtain ⟨_,hd,xs,_,dd⟩:=mT I.aA e;refine ⟨dd.typeIs,fun b q=>?_,hd⟩;cases q;obtain ⟨ob,_,_,h1,h2,_⟩:=dd;exact ⟨ob,h1,h2.2.1⟩
section
variable {X:Cx} {pins:List (Addr×Obj)} {σ:St} {H:Hp} {s:Shared} {a:Addr} {y d:V} {u r:Value} {o:Option V} {A:Around} {E:Value->Shared->Prop}
theorem Pb {Q:Value->Shared->Prop} (hu:A.units+1 < cLine) (I:Inv X pins σ H s) (g:dR H a y o) (ry:RelV y u) (h:∀ w' s',Inv X pins σ H s'->RelV (o.getD .au) w'->Q w' s') :
  wpAny (model X.prog X.w) A (call (.builtin "dict.get") [.ref a,u]) Q E s:=by
 rcases g with ⟨kvs,k,e,ey,l⟩ | ⟨kvs,k,b,e,ey,eb,l⟩
 ·subst ey;obtain ⟨z,hd,vs,rel,dd⟩:=mZ I.aA e;refine call_meetsIn PySem.F.slot_dict_get dd.typeIs PySem.F.entry_dict_get (PySem.F.args_dict_get_2 _ _) (meets_dict_get (en X.prog X.w) a (oR ry) hd) ⟨_,dd.mapOf,h _ _ (I.tok _) ?_⟩;rw [l];exact (rel.val k).getD rfl
 ·subst ey;cases (show u=Value.ref b from ry);obtain ⟨z,hd,xs,rel,dd⟩:=mT I.aA e;refine call_meetsIn PySem.F.slot_dict_get dd.typeIs PySem.F.entry_dict_get (PySem.F.args_dict_get_2 _ _) (meetsH_dict_get (tupleKind (en X.prog X.w)) a b hd) ⟨tupleKind_room_in1 hu,k,xs,oq I.aA eb,dd,h _ _ (I.tok _) ?_⟩;rw [l];exact (rel.val k).getD rfl
end
def zE (td ty:TE):TE:=fun σ H Q=>td σ H fun x H1=>∃ a,x=.ref a/\K0 H1 a/\ty σ H1 fun y H2=>∃ o,dR H2 a y o/\Q (o.getD .au) H2
section
variable {X:Cx} {o e f:Expr} {apos bw:Pos} {td ty tx:TE}
theorem Ob (hu:X.A.units+1 < cLine) (ho:PE X o td) (he:PE X e ty) (m:M1 X o "get" apos e bw):PE X (.Call (.Attribute o "get" apos) [e] [] bw) (zE td ty):=by
 intro pins s σ H Q I h;refine wpAny_Call_method m.base m.IS m.line PySem.F.plainAttrs_dict PySem.F.slot_dict_get PySem.F.type_dict_get (aD (ho pins s σ H _ I h) fun u s1 ⟨x,H1,I1,rx,a,ex,d,q1⟩=>?_);subst ex;obtain rfl:u=Value.ref a:=rx;obtain ⟨t1,t2,_⟩:=PX I1 d;refine ⟨t1,t2,?_⟩;rw [m.trees];refine Calls.callWith_builtin rfl (Calls.evalArgs_plain (Calls.spliced_cons (aD (he pins s1 σ H1 _ I1 q1) fun iv s2 ⟨y,H2,I2,ry,ov,g,q2⟩=>Calls.spliced_nil ?_)));exact Pb hu I2 g ry fun w' s3 I3 rw'=>⟨_,H2,I3,rw',q2⟩
end
section
variable {X:Cx} {pins:List (Addr×Obj)} {σ:St} {H:Hp} {s:Shared} {a:Addr} {kvs:List (Key×V)} {A:Around} {E:Value->Shared->Prop}
end
section
variable {X:Cx} {pins:List (Addr×Obj)} {σ:St} {H:Hp} {s:Shared} {a:Addr} {y:V} {u:Value} {A:Around} {E:Value->Shared->Prop}
end
end L2
namespace Att
open PySem PySem.W PySem.Calls PyProof.Rows
theorem R5 {P:Params} {h:Heap}:∀ (ns:List Int) (vs:List Value),WellAll P h vs (ns.map WData.int)->IntsAre vs ns:=by
 intro ns
 induction ns with
 | nil =>
  intro vs w;rw [List.map_nil] at w;cases w;exact .nil
 | cons n ns ih =>
  intro vs w;rw [List.map_cons] at w;cases w with
  | cons a b =>
   cases a;exact .cons _ _ (ih _ b)
theorem Tr {l:OpenLaw} {n:Nat} (hn:l.most=some n) {P:Params} {h:Heap} {args:List WData} {vals:List Value}
  (mm:l.row.toRowW.claim.pre args=true) (qz:WellAll P h vals args) :
  ∃ a vs ns,vals=[Value.ref a]/\args=[WData.list (ns.map WData.int)]/\h.get? a=some { cls:=.type "list",data:=.seq vs.toArray }/\IntsAre vs ns/\ns.length<=n:=by
 have kQ:WShape.hasAll [] args [.list .int]=true:=(pre_splitW mm).1;have hc:l.pre.holds [] { args:=args }=true:=(pre_splitW mm).2;obtain ⟨d,r,rfl,h1,h2⟩:=hasAllW_cons kQ;obtain rfl:=hasAllW_nil h2;obtain ⟨xs,rfl,h3⟩:=hasW_list h1;obtain ⟨ns,rfl⟩:=items_int h3;have hlen:ns.length<=n:=by
  unfold OpenLaw.pre at hc;have h4:(WTm.not (.lt (.lit (.int (n:Int))) (.len (.arg 0)))).holds [] { args:=[.list (ns.map .int)] }=true:=by
   have h4:=(holds_andW hc).1;rw [hn] at h4;exact h4
  have h5:=condW_of h4 (w_not (w_lt w_lit (w_len_list (w_arg rfl))));rw [List.length_map] at h5;refine Nat.le_of_not_lt fun q=>?_;have q':(n:Int) < ((ns.length:Nat):Int):=by omega
  first
   | (rw [decide_eq_true q'] at h5; exact absurd h5 (by decide))
   | (simp at h5; omega)
 cases qz with
 | cons w1 w2 =>
  cases w2;cases w1 with
  | list ho kT=>exact ⟨_,_,ns,rfl,rfl,ho,R5 ns _ kT,hlen⟩
theorem Pu (l:OpenLaw) (args:List WData):l.row.toRowW.claim.post args (.bool true) args=true :=
 postW_of (r:=l.row.toRowW) (X:=(true == true))
  (show WShape.has [] (.bool true) .bool=true by first | rfl | decide | simp [WShape.has,WShape.arms,WShape.armsAll])
  (show (WTm.eq .res (.lit (.bool true))).value [] { args:=args,res:=some (.bool true),after:=args }=some (.bool (true == true)) from w_eq_bool (w_res rfl) w_lit) rfl
theorem UM {l:OpenLaw} {n:Nat} {q:Program} {loose:List Str} {XP:(Str->Option Value)->Heap->Prop} {YP:World->Heap->Prop} {d:DefRec}
  (hn:l.most=some n) (uv:d.params.defaults=[])
  (call:∀ (w:World) (s₀ s₁:Shared) (mg mb:Str->Option Value) (fa:Addr) (o:Obj) (pm cd doc:Value) (a:Addr) (vs:List Value) (ns:List Int),
   Ground q loose [] XP w s₀ mg mb s₁.heap->YP w s₁.heap ->
   s₁.heap.get? fa=some o->o.data=.func (docDef d.name d.params d.body d.scope pm cd doc)->s₁.heap.CodeRec cd d.name->mg d.name=some (.ref fa) ->
   s₁.heap.get? a=some { cls:=.type "list",data:=.seq vs.toArray }->IntsAre vs ns->ns.length<=n->s₁.gens=#[] ->
   codeAny (model l.prog w) callerA (.call (.ref fa) ⟨[.ref a],[]⟩) (fun r s'=>r=.ok (.ret (.bool true))/\OldK s₁.heap s'.heap/\s'.os=s₁.os/\AllBare s'.gens) s₁) :
  WalkO q loose XP YP l.row.toRowW d [] (fun f vs=>PySem.call f vs):=by
 intro w s₀ s₁ mg mb G Y fa o pm cd doc dV kV ho hd bM hD hmg hg args vals as mm hlay gq qz hlo;obtain rfl:dV=.none:=Dflts.none hD uv;obtain rfl:kV=.none:=Dflts.noKw hD;obtain ⟨a,vs,ns,rfl,rfl,uc,hints,hlen⟩:=Tr hn mm qz;refine enter_call (codeAny_mono (call w s₀ s₁ mg mb fa o pm cd doc a vs ns G Y ho (fd_plain hd) bM hmg uc hints hlen hg) fun r s' hq=>?_);obtain ⟨rfl,h2,h3,h4⟩:=hq;exact ⟨.inl ⟨.bool true,.bool true,[],rfl,fun _=>rfl,.bool true,Pu l _,fun _=>⟨List.Pairwise.nil,fun _ hm=>(nomatch hm)⟩⟩,h2,h3,h4⟩
section
variable {prog:Program} {w:World} {A:Around} {E:Value->Shared->Prop} {s:Shared} {K:Frag}
end
end Att
namespace L2
open PySem PySem.Spec PyProof.Rows
theorem Fg:∀ {vs:List Value} {ns:List Int},IntsAre vs ns->Vals (ns.map V.int) vs
 | _,_,.nil=>.nil
 | _,_,.cons n t h=>.cons ⟨t,rfl⟩ (Fg h)
abbrev KOf {K:PySem.W.Frag} {h:Heap} (_:K.In h):PySem.W.Frag:=K
def inClass (s:Stmt) (j:Nat):Stmt:=match s with
 | .ClassDef _ _ _ body _ _ _ _ _ _ _=>body.getD j (.Pass ⟨0,0,0,0⟩)
 | _=>.Pass ⟨0,0,0,0⟩
def eK (s:Stmt):Arguments:=match s with
 | .FunctionDef _ a _ _ _ _ _ _ _ _=>a
 | _=>{ posonlyargs:=[],args:=[],vararg:=none,kwonlyargs:=[],kw_defaults:=[],kwarg:=none,defaults:=[] }
def aS (s:Stmt):List Stmt:=match s with
 | .FunctionDef _ _ b _ _ _ _ _ _ _=>b
 | _=>[]
def az (s:Stmt):Scope:=match s with
 | .FunctionDef _ _ _ _ _ _ sc _ _ _=>sc
 | _=>{ kind:=.function,names:=[],isGenerator:=false,isCoroutine:=false }
abbrev aL:dA:=fun _ _ _ _ _ _=>False
abbrev E0:XK:=fun _ _ _=>False
theorem aw {X:Cx}:Passes aL X E0:=fun _ _ _ _ _ _ _ h=>h.elim
structure e8 (K:PySem.W.Frag) (x qual:Str) (st:Stmt) (f:Addr) (fd:FuncData):Prop where
 ex:∃ (oc:Value) (od:Option Addr) (kV doc pm:Value) (an:Option Addr) (ah ct:Value) (cU:Array (Option Value)),
  fd=PySem.W.fnOf x qual (eK st) (aS st) (az st) .none kV doc pm an ah ct/\K.lookup f=some ⟨oc,od,.func fd,cU⟩/\PySem.W.codeIn K ah qual=true
 kp:PySem.W.keepIn K (.ref f)=true
section
variable {P:Program} {w:World} {K:PySem.W.Frag} {mg:Str->Option Value} {base:Heap}
theorem e8.ok {x qual:Str} {st:Stmt} {f:Addr} {fd:FuncData} {N ps:List Str} {k:Nat} {sp:Sp} (F:e8 K x qual st f fd) (S:aE N ps (az st)) (len:∀ vs H Q E,sp vs H Q E->vs.length=ps.length)
  (iS:∀ (ah:Value) (A:Around) (outer:List Env) (s:Shared) (H:Hp) (vs:List V) (Q:VK) (E:XK),aZ k (A.deeper (envOfC qual (az st) s.heap.objs.size f ah))->sp vs H Q E ->
   ∃ t,cT (cF aL P w K mg base N qual (az st) f ah A outer s H E).pd (aS st) t/\t { nx:=fun _ H'=>Q .au H',rt:=Q } (start N vs) H):aB P w K mg base aL (k+1) f fd ps sp:=by
 obtain ⟨oc,od,kV,doc,pm,an,ah,ct,cU,rfl,lk,bM⟩:=F.ex;refine uP lk bM S len fun A outer s H vs Q E hr cZ=>?_;obtain ⟨t,h,q⟩:=iS ah A outer s H vs Q E hr cZ;exact ⟨t,h.pd,q⟩
theorem e8.binds {x qual:Str} {st:Stmt} {f:Addr} {fd:FuncData} {ps:List Str} (F:e8 K x qual st f fd)
  (h:∀ (kV doc pm:Value) (an:Option Addr) (ah ct:Value) (us:List Value),us.length=ps.length->bindArgs (PySem.W.fnOf x qual (eK st) (aS st) (az st) .none kV doc pm an ah ct) ⟨us,[]⟩=pure (ps.zip us)):Binds K fd ps []:=by
 obtain ⟨oc,od,kV,doc,pm,an,ah,ct,cU,rfl,lk,bM⟩:=F.ex;exact .all (h kV doc pm an ah ct)
theorem BX {x qual:Str} {st:Stmt} {f:Addr} {oc:Value} {od an:Option Addr} {cU:Array (Option Value)} {kV doc pm ah ct:Value} (l:K.lookup f=some ⟨oc,od,.func (PySem.W.fnOf x qual (eK st) (aS st) (az st) .none kV doc pm an ah ct),cU⟩)
  (c:PySem.W.codeIn K ah qual=true) (k:PySem.W.keepIn K (.ref f)=true):e8 K x qual st f (PySem.W.fnOf x qual (eK st) (aS st) (az st) .none kV doc pm an ah ct):=⟨⟨oc,od,kV,doc,pm,an,ah,ct,cU,rfl,l,c⟩,k⟩
end
theorem f7 {A:Around} {k:Nat} (hr:aZ k A):A.units+1 < cLine:=Nat.lt_of_le_of_lt (Nat.add_le_add_left (by decide:1<=64) _) hr.units
theorem Ko {n:Nat} (h:n<=1000):n < sizeLine:=Nat.lt_of_le_of_lt h (by decide)
section
variable {X:Cx}
theorem pv (i:Nat) {x:Str} {pos:Pos} (hN:X.N[i]?=some x:=by rfl) (hv:lE X.env.scope x:=by first | exact Or.inl rfl | exact Or.inr (Or.inl rfl) | exact Or.inr (Or.inr rfl)) (hd:(x == ("__debug__" : Str))=false:=by decide)
  (bM:(x == ("__classdict__" : Str))=false:=by decide):PE X (.Name x pos) (Ii i):=By hN hv hd bM
end
theorem bb {A B:Prop} (h:B):if false=true then A else B:=by
 rw [if_neg Bool.false_ne_true];exact h
theorem bE {A B:Prop} (h:A):if true=true then A else B:=by
 rw [if_pos rfl];exact h
theorem nI {c A B:Prop} [Decidable c] (h1:c->A) (h2:¬ c->B):if c then A else B:=by
 by_cases h:c
 ·rw [if_pos h];exact h1 h
 ·rw [if_neg h];exact h2 h
def ao (H H':Hp):Prop:=∀ b o,H b=some o->H' b=some o
theorem ao.refl (H:Hp):ao H H:=fun _ _ h=>h
theorem ao.trans {H H1 H2:Hp} (a:ao H H1) (b:ao H1 H2):ao H H2:=fun c o h=>b c o (a c o h)
theorem ao.free {H H':Hp} (e:ao H H') {l:Addr} (h:H' l=Option.none):H l=Option.none:=by
 cases q:H l with
 | none=>rfl
 | some o =>
  rw [e l o q] at h;cases h
theorem ao.seq {K:PySem.W.Frag} {H H':Hp} {a:Addr} {xs:List V} (e:ao H H') (h:aC K H a xs):aC K H' a xs:=by
 rcases h with (h | ⟨o,h⟩) | h
 ·exact .inl (.inl (e _ _ h))
 ·exact .inl (.inr ⟨o,e _ _ h⟩)
 ·exact .inr h
section
variable {X:Cx}
end
section
variable {κ:Type} [DecidableEq κ]
end
end L2
namespace Tx
open PySem PySem.Builtin PySem.Builtin.Str PySem.StrLaws
def S (l:List Nat):Str:=⟨l.toArray⟩
theorem k8 (l:List Nat):(S l).cps.toList=l:=by simp [S]
theorem Ti (s:Str):S s.cps.toList=s:=by cases s; simp [S]
theorem cY (l:List Nat):(S l).length=l.length:=by simp [S,Str.length]
theorem La {a b:List Nat} (h:S a=S b):a=b:=by
 have:=congrArg (fun s=>s.cps.toList) h
 simpa [k8] using this
theorem jZ (a b:List Nat):S a++S b=S (a++b):=by
 apply Str.ext';rw [Str.cps_append];simp [S]
theorem nM (c:Nat):(S [c]).length=1:=by rw [cY]; rfl
theorem subAt_one (x:List Nat) (c i:Nat) (h:i < x.length):subAt (S x) (S [c]) i=decide (x[i]?=some c):=by
 rw [subAt_eq,k8,k8,nM];rw [List.drop_eq_getElem_cons h,List.take_succ_cons,List.take_zero,List.getElem?_eq_getElem h];by_cases e:x[i]=c
 ·simp [e]
 ·simp [e]
theorem Ui (x:List Nat) (c:Nat):(!(occurrences (S x) (S [c]) 0 (S x).length 1).isEmpty)=x.contains c:=by
 rw [Bool.eq_iff_iff,found_iff,nM,cY];constructor
 ·rintro ⟨i,h1,h2⟩;rw [subAt_one x c i (by omega)] at h2;have h3:=of_decide_eq_true h2;exact List.elem_iff.mpr (List.mem_of_getElem? h3)
 ·intro h;obtain ⟨i,hi,e⟩:=List.getElem_of_mem (List.elem_iff.mp h);refine ⟨i,by omega,?_⟩;rw [subAt_one x c i hi,List.getElem?_eq_getElem hi,e];simp
def cut (c:Nat):List Nat->List (List Nat)
 | []=>[[]]
 | a::r=>if a=c then []::cut c r else match cut c r with
  | []=>[[a]]
  | h::t=>(a::h)::t
theorem UE (c:Nat):∀ l,cut c l≠[]
 | []=>by simp [cut]
 | a::r=>by
  unfold cut;split
  ·simp
  ·split <;> simp
def cQ (c:Nat):Nat->List Nat->List Nat
 | _,[]=>[]
 | k,a::r=>if a=c then k::cQ c (k+1) r else cQ c (k+1) r
theorem E9 (c:Nat):∀ (l:List Nat) (k j:Nat),cQ c (k+j) l=(cQ c k l).map (· + j)
 | [],_,_=>rfl
 | a::r,k,j=>by
  unfold cQ;have e:k+j+1=(k+1)+j:=by omega
  rw [e,E9 c r (k+1) j];split <;> simp
theorem Cm (x:List Nat) (c limit:Nat):∀ (l:List Nat) (k:Nat) (acc:Array Nat) (free:Nat),x.drop k=l->free<=k->acc.size+l.length < limit->k<=x.length ->
  (forIn (List.range' k (x.length+1 - k)) (acc,free) (occBody (S x) (S [c]) x.length limit)).run.fst.toList=acc.toList++cQ c k l
 | [],k,acc,free,hd,hf,hl,hk=>by
  have hk2:k=x.length:=by
   have:=congrArg List.length hd;simp at this;omega
  have e:x.length+1 - k=1:=by omega
  have e1:List.range' k 1=[k]:=rfl;rw [e,e1,List.forIn_cons];unfold occBody;have hc:¬ (((((acc,free):Array Nat×Nat).fst.size < limit/\((acc,free):Array Nat×Nat).snd<=k)/\k+(S [c]).length<=x.length)/\subAt (S x) (S [c]) k=true):=by
   rw [nM];rintro ⟨⟨_,h⟩,_⟩;omega
  rw [if_neg hc];simp [cQ]
 | a::r,k,acc,free,hd,hf,hl,hk=>by
  have bL:k < x.length:=by
   have:=congrArg List.length hd;simp at this;omega
  have e:x.length+1 - k=(x.length+1 - (k+1))+1:=by omega
  have hx:x[k]?=some a:=by
   have h1:(x.drop k)[0]?=some a:=by rw [hd]; rfl
   rw [List.getElem?_drop] at h1
   simpa using h1
  have hr:x.drop (k+1)=r:=by
   rw [<- List.drop_drop,hd]; rfl
  rw [e,List.range'_succ,List.forIn_cons];unfold occBody;simp only [List.length_cons] at hl;by_cases gn:a=c
  ·have hc:(((((acc,free):Array Nat×Nat).fst.size < limit/\((acc,free):Array Nat×Nat).snd<=k)/\k+(S [c]).length<=x.length)/\subAt (S x) (S [c]) k=true):=by
    rw [nM,subAt_one x c k bL,hx,gn];refine ⟨⟨⟨?_,hf⟩,by omega⟩,by simp⟩;show acc.size < limit;omega
   rw [if_pos hc];have ih:=Cm x c limit r (k+1) (acc.push k) (k+(S [c]).length) hr (by rw [nM]; omega) (by simp; omega) (by omega);refine Eq.trans ih ?_;rw [show cQ c k (a::r)=k::cQ c (k+1) r from if_pos gn];simp
  ·have hc:¬ (((((acc,free):Array Nat×Nat).fst.size < limit/\((acc,free):Array Nat×Nat).snd<=k)/\k+(S [c]).length<=x.length)/\subAt (S x) (S [c]) k=true):=by
    rw [subAt_one x c k bL,hx];rintro ⟨_,h⟩;exact gn (Option.some.inj (of_decide_eq_true h))
   rw [if_neg hc];have ih:=Cm x c limit r (k+1) acc free hr (by omega) (by omega) (by omega);refine Eq.trans ih ?_
   conv=>rhs; unfold cQ
   rw [if_neg gn]
theorem G2 (x:List Nat) (c:Nat):occurrences (S x) (S [c]) 0 (S x).length ((S x).length+1)=cQ c 0 x:=by
 rw [occ_eq,cY];have h:=Cm x c (x.length+1) x 0 #[] 0 rfl (Nat.le_refl _) (by simp) (Nat.zero_le _);rw [h];simp
def pieces (l:List Nat) (ps:List Nat):List (List Nat):=((0::ps.map (· + 1)).zip (ps++[l.length])).map fun p=>(l.drop p.1).take (p.2 - p.1)
theorem uB (c:Nat):∀ l:List Nat,pieces l (cQ c 0 l)=cut c l
 | []=>rfl
 | a::r=>by
  have ih:=uB c r;have sh:cQ c (0+1) r=(cQ c 0 r).map (· + 1):=E9 c r 0 1;have tail:∀ (A B:List Nat),((A.map (· + 1)).zip (B.map (· + 1))).map (fun p:Nat×Nat=>((a::r).drop p.1).take (p.2 - p.1))=(A.zip B).map (fun p:Nat×Nat=>(r.drop p.1).take (p.2 - p.1)):=fun A B=>by
   rw [List.zip_map,List.map_map];refine List.map_congr_left fun p _=>?_;show ((a::r).drop (p.1+1)).take (p.2+1 - (p.1+1))=_;rw [List.drop_succ_cons]
   congr 1
   omega
  unfold pieces at ih ⊢;unfold cQ cut;rw [sh];by_cases h:a=c
  ·rw [if_pos h,if_pos h];have e1:(0::(0::(cQ c 0 r).map (· + 1)).map (· + 1))=0::((0::(cQ c 0 r).map (· + 1)).map (· + 1)):=rfl;have e2:(0::(cQ c 0 r).map (· + 1))++[(a::r).length]=0::((cQ c 0 r++[r.length]).map (· + 1)):=by simp
   rw [e1,e2,List.zip_cons_cons,List.map_cons,tail,ih];simp
  ·rw [if_neg h,if_neg h];have e2:(cQ c 0 r).map (· + 1)++[(a::r).length]=(cQ c 0 r++[r.length]).map (· + 1):=by simp
   rw [e2];generalize hB:cQ c 0 r++[r.length]=B at ih;cases B with
   | nil=>simp at hB
   | cons b B' =>
    rw [List.zip_cons_cons,List.map_cons] at ih;rw [<- ih];rw [List.map_cons (l:=B'),List.zip_cons_cons,List.map_cons,tail];simp
theorem R8 (x:List Nat) (i j:Nat):strSub (S x) i j=S ((x.drop i).take (j - i)):=by
 rw [<- Ti (strSub (S x) i j),strSub_toList,k8]
theorem Kt (x:List Nat) (ps:List Nat):partsBetween (S x) ps 1=(pieces x ps).map S:=by
 unfold partsBetween pieces;rw [List.map_map,cY];refine List.map_congr_left fun p _=>?_;exact R8 x p.1 p.2
theorem GN (c:Nat):∀ l:List Nat,cQ c 0 l=[]->cut c l=[l]
 | l,h=>by
  have:=uB c l;rw [h] at this;rw [<- this];simp [pieces]
theorem Vk (x:List Nat) (c:Nat) (hc:c < 256):Txt.split (S x) (S [c])=(cut c x).map S:=by
 unfold Txt.split;rw [G2,nM,Kt,uB];have nop:∀ k,¬ c∈x->cQ c k x=[]:=by
  intro k
  induction x generalizing k with
  | nil=>intro _; rfl
  | cons a r ih =>
   intro hm;unfold cQ;rw [if_neg (fun e=>hm (by simp [e]))];exact ih (k+1) fun m=>hm (List.mem_cons_of_mem _ m)
 by_cases h1:(decide ((S x).length < 1) || decide (PySem.Builtin.Str.strKind (S x) < PySem.Builtin.Str.strKind (S [c])))=true
 ·rw [if_pos h1];have hx:cQ c 0 x=[]:=by
   refine nop 0 fun m=>?_;rw [cY] at h1;have hk:PySem.Builtin.Str.strKind (S [c])=1:=by unfold PySem.Builtin.Str.strKind S; simp [hc]
   rw [hk] at h1;have hp:¬ x.length < 1:=by cases x with | nil=>simp at m | cons _ _=>simp
   have hq:¬ PySem.Builtin.Str.strKind (S x) < 1:=by unfold PySem.Builtin.Str.strKind; split <;> (try split) <;> omega
   simp [hp,hq] at h1
  rw [GN c x hx]; rfl
 ·rw [if_neg h1];by_cases h2:(cQ c 0 x).isEmpty=true
  ·rw [if_pos h2];rw [GN c x (List.isEmpty_iff.mp h2)]; rfl
  ·rw [if_neg h2]
end Tx
namespace L2
open PySem PySem.Spec PyProof.Rows
def noStar:Expr->Bool
 | .Starred _ _=>false
 | _=>true
theorem fi {e:Expr} {es:List Expr} {env:Env} (h:noStar e=true):starEach (e::es) env=(false,eval e env)::starEach es env:=by
 cases e <;> first | rfl | cases h
theorem hZ {pos:Pos} {env:Env}:∀ {es:List Expr},es.all noStar=true->(backTo pos (starEach es env)).any (·.1)=false
 | [],_=>rfl
 | e::es,h=>by
  rw [List.all_cons,Bool.and_eq_true] at h;rw [fi h.1];have ih:=hZ (pos:=pos) (env:=env) h.2;show ((false || (backTo pos (starEach es env)).any (·.1)))=false;rw [ih];rfl
theorem Ab {pos:Pos} {env:Env}:∀ {es:List Expr},es.all noStar=true->(backTo pos (starEach es env)).all (fun x=>!x.1)=true
 | [],_=>rfl
 | e::es,h=>by
  rw [List.all_cons,Bool.and_eq_true] at h;rw [fi h.1];have ih:=Ab (pos:=pos) (env:=env) h.2;show ((true && (backTo pos (starEach es env)).all (fun x=>!x.1)))=true;rw [ih];rfl
section
variable {X:Cx}
theorem XN {e:Expr} {es:List Expr} {te:TE} {t:TA} (ha:PE X e te) (hr:PA X es t) (hs:noStar e=true:=by rfl):PA X (e::es) (ou te t):=Q8 ha hr (fi hs)
theorem WE {CX:dA} {k:Nat} {f:Addr} {fd:FuncData} {ps:List Str} {sp:Sp} {bj:List V} {ds:List Value} {E:XK} {x:Str} {p pos:Pos} {e:Expr} {es:List Expr} {t:TA}
  (F:aB X.prog X.w X.K X.mg X.base CX k f fd ps sp) (hr:aZ k X.A) (hg:Gl X x) (hm:X.mg x=some (.ref f)) (hk:PySem.W.keepIn X.K (.ref f)=true) (hb:Binds X.K fd ps ds) (hd:Vals bj ds) (hx:Passes CX X E)
  (ha:PA X (e::es) t) (hs:(e::es).all noStar=true:=by rfl) (bI:(x == ("__debug__" : Str))=false:=by decide):PE X (.Call (.Name x p) (e::es) [] pos) (uZ sp bj E t):=by
 have hs':=hs;rw [List.all_cons,Bool.and_eq_true] at hs';exact WO F hr hg hm hk hb hd hx ha bI (fi hs'.1) (hZ hs'.2)
theorem SX {x:Str} {p pos:Pos} {e:Expr} {es:List Expr} {t:TA} {id:String} {r:List V->Hp->VK->Prop} (hc:cy X (.builtin id) r) (hg:Gl X x) (hm:X.mg x=none) (hv:bootBuiltins x=some (.builtin id)) (ha:PA X (e::es) t)
  (hs:(e::es).all noStar=true:=by rfl) (hn:x ≠ "__name__" := by decide) (bI:(x == ("__debug__" : Str))=false:=by decide):PE X (.Call (.Name x p) (e::es) [] pos) (mJ r t):=by
 have hs':=hs;rw [List.all_cons,Bool.and_eq_true] at hs';exact Sx hc hg hm hv ha hn bI (fi hs'.1) (hZ hs'.2)
theorem O7 {x:Str} {p pos:Pos} {e:Expr} {es:List Expr} {t:TA} {T:String} {r:List V->Hp->VK->Prop} (hc:cy X (.type T) r) (hg:Gl X x) (hm:X.mg x=none) (hv:bootBuiltins x=some (.type T)) (ha:PA X (e::es) t)
  (hs:(e::es).all noStar=true:=by rfl) (hn:x ≠ "__name__" := by decide) (bI:(x == ("__debug__" : Str))=false:=by decide):PE X (.Call (.Name x p) (e::es) [] pos) (mJ r t):=by
 have hs':=hs;rw [List.all_cons,Bool.and_eq_true] at hs';exact WN hc hg hm hv ha hn bI (fi hs'.1) (hZ hs'.2)
end
section
variable {X:Cx}
theorem PE.imp {e:Expr} {t t':TE} (h:PE X e t) (i:∀ σ H Q,t' σ H Q->t σ H Q):PE X e t':=fun pins s σ H Q I hw=>h pins s σ H Q I (i σ H Q hw)
theorem PS.imp {e:Stmt} {t t':TS} (h:PS X e t) (i:∀ D σ H,t' D σ H->t D σ H):PS X e t':=fun pins s σ H D I hw=>h pins s σ H D I (i D σ H hw)
theorem aX.imp {f:Value->Value->Sem Value} {r r':R2} (h:aX X f r) (i:∀ x y H Q,r' x y H Q->r x y H Q):aX X f r':=fun pins s σ H x y v u Q I rx ry q=>h pins s σ H x y v u Q I rx ry (i x y H Q q)
theorem cy.imp {f:Value} {r r':List V->Hp->VK->Prop} (h:cy X f r) (i:∀ xs H Q,r' xs H Q->r xs H Q):cy X f r':=fun pins s σ H xs us Q I rx q=>h pins s σ H xs us Q I rx (i xs H Q q)
def kj (i:Nat):TE:=fun σ H Q=>match σ[i]? with
 | some (some v)=>Q v H
 | _=>False
theorem qv (i:Nat) {x:Str} {pos:Pos} (hN:X.N[i]?=some x:=by rfl) (hv:lE X.env.scope x:=by first | exact Or.inl rfl | exact Or.inr (Or.inl rfl) | exact Or.inr (Or.inr rfl)) (hd:(x == ("__debug__" : Str))=false:=by decide)
  (bM:(x == ("__classdict__" : Str))=false:=by decide):PE X (.Name x pos) (kj i):=(By hN hv hd bM).imp fun σ H Q h=>by
 unfold kj at h;split at h
 ·rename_i v e;exact ⟨v,e,h⟩
 ·exact h.elim
def Bl:R2:=fun x y H Q=>match x,y with
 | .int i,.int j=>Q (.int (i+j)) H
 | .str a,.str b=>a.length+b.length<=sizeLine/\Q (.str (a++b)) H
 | .ref l,.ref b=>match H l,H b with
  | some (.lst xs),some (.lst zs)=>xs.length+zs.length<=sizeLine/\∀ p,H p=none->Q (.ref p) (upd H p (.lst (xs++zs)))
  | _,_=>False
 | _,_=>False
theorem gD:aX X (binaryOp .Add) Bl:=(VE.or (WD.or N8)).imp fun x y H Q h=>by
 unfold Bl at h;split at h
 ·exact .inl ⟨_,_,rfl,rfl,h⟩
 ·exact .inr (.inl ⟨_,_,rfl,rfl,h.1,h.2⟩)
 ·split at h
  ·rename_i xs zs h1 h2;exact .inr (.inr ⟨_,_,xs,zs,rfl,rfl,h1,h2,h.1,h.2⟩)
  ·exact h.elim
 ·exact h.elim
def bS (K:PySem.W.Frag) (H:Hp) (p:Addr) (R:List V->Prop):Prop:=match H p with
 | some (.lst xs)=>R xs
 | some (.tup xs)=>R xs
 | _=>∃ xs,(aC K H p xs\/bC K H p xs)/\R xs
theorem vF {K:PySem.W.Frag} {H:Hp} {p:Addr} {R:List V->Prop} (h:bS K H p R):∃ xs,(aC K H p xs\/bC K H p xs)/\R xs:=by
 unfold bS at h;split at h
 ·rename_i xs e;exact ⟨xs,.inl (aC.of e),h⟩
 ·rename_i xs e;exact ⟨xs,.inr (bC.of e),h⟩
 ·exact h
def qX (K:PySem.W.Frag) (H:Hp) (p:Addr) (R:List V->Prop):Prop:=∃ xs,aC K H p xs/\R xs
theorem AR {K:PySem.W.Frag} {H:Hp} {p:Addr} {R:List V->Prop} (h:qX K H p R):∃ xs,aC K H p xs/\R xs:=h
theorem SD {K:PySem.W.Frag} {H:Hp} {p:Addr} {R:List V->Prop} {xs:List V} (h:H p=some (.lst xs)) (r:R xs):qX K H p R:=⟨xs,aC.of h,r⟩
def pq (C:Int->Int->Prop) (f:Int->Int->Int):R2:=fun x y H Q=>match x,y with
 | .int i,.int j=>C i j/\Q (.int (f i j)) H
 | _,_=>False
theorem zd {C:Int->Int->Prop} {f:Int->Int->Int} {x y:V} {H:Hp} {Q:VK} (h:pq C f x y H Q):rI C (fun i j=>.int (f i j)) x y H Q:=by
 unfold pq at h;split at h
 ·exact ⟨_,_,rfl,rfl,h.1,h.2⟩
 ·exact h.elim
theorem m5:aX X (binaryOp .Mod) (pq (fun _ j=>0 < j) fun i j=>i % j):=Uj.imp fun _ _ _ _ h=>zd h
theorem Av:aX X (binaryOp .FloorDiv) (pq GH fun i j=>i / j):=N9.imp fun _ _ _ _ h=>zd h
def oW (neg:Bool):R2:=fun x y H Q=>match x,y with
 | .int i,.int j=>Q (.bl (neg ^^ decide (i=j))) H
 | .str i,.str j=>Q (.bl (neg ^^ decide (i=j))) H
 | .bl i,.bl j=>Q (.bl (neg ^^ decide (i=j))) H
 | _,_=>vA x y=true/\Q (.bl (neg ^^ decide (x=y))) H
theorem Jx (i j:Int):decide (V.int i=V.int j)=decide (i=j):=by by_cases h:i=j <;> simp [h]
theorem KI (i j:Str):decide (V.str i=V.str j)=decide (i=j):=by by_cases h:i=j <;> simp [h]
theorem Fp (i j:Bool):decide (V.bl i=V.bl j)=decide (i=j):=by by_cases h:i=j <;> simp [h]
theorem Up:aX X (compareOp .Eq) (oW false):=Zr.imp fun x y H Q h=>by
 unfold oW at h;simp only [Bool.false_bne] at h;split at h
 ·exact ⟨rfl,by rw [Jx]; exact h⟩
 ·exact ⟨rfl,by rw [KI]; exact h⟩
 ·exact ⟨rfl,by rw [Fp]; exact h⟩
 ·exact h
theorem WS:aX X (compareOp .NotEq) (oW true):=Sy.imp fun x y H Q h=>by
 unfold oW at h;simp only [Bool.true_bne] at h;split at h
 ·exact ⟨rfl,by rw [Jx]; exact h⟩
 ·exact ⟨rfl,by rw [KI]; exact h⟩
 ·exact ⟨rfl,by rw [Fp]; exact h⟩
 ·exact h
def je (f:Int->Int->Bool):R2:=fun x y H Q=>match x,y with
 | .int i,.int j=>Q (.bl (f i j)) H
 | _,_=>False
theorem CV {f:Int->Int->Bool} {x y:V} {H:Hp} {Q:VK} (h:je f x y H Q):mS (fun i j=>.bl (f i j)) x y H Q:=by
 unfold je at h;split at h
 ·exact ⟨_,_,rfl,rfl,h⟩
 ·exact h.elim
theorem vP:aX X (compareOp .Lt) (je fun i j=>decide (i < j)):=Vc.imp fun _ _ _ _ h=>CV h
theorem oC:aX X (compareOp .LtE) (je fun i j=>decide (i<=j)):=Y9.imp fun _ _ _ _ h=>CV h
theorem AN:aX X (compareOp .Gt) (je fun i j=>decide (j < i)):=UJ.imp fun _ _ _ _ h=>CV h
def uO (K:PySem.W.Frag):R2:=fun x y H Q=>match x,y with
 | .str i,.str j=>Q (.bl (!(Builtin.Str.occurrences j i 0 j.length 1).isEmpty)) H
 | _,.ref p=>bS K H p fun xs=>cx x=true/\xs.all cx=true/\Q (.bl (gE x xs)) H
 | _,_=>False
theorem UN:aX X (compareOp .In) (uO X.K):=(Ye.or KG).imp fun x y H Q h=>by
 unfold uO at h;split at h
 ·exact .inl ⟨_,_,rfl,rfl,h⟩
 ·obtain ⟨xs,h1,h2,h3,h4⟩:=vF h;exact .inr ⟨_,xs,rfl,h1,h2,h3,h4⟩
 ·exact h.elim
def lM (t:TE):TT:=fun σ H Q=>t σ H fun x H'=>match x with
 | .bl k=>Q k H'
 | _=>False
theorem zN {x:V} {H:Hp} {Q:Bool->Hp->Prop} (h:(match x with | .bl k=>Q k H | _=>False)):∃ k,x=.bl k/\Q k H:=by
 split at h
 ·exact ⟨_,rfl,h⟩
 ·exact h.elim
theorem Sh {op:CmpOp} {r:R2} {a b:Expr} {ta tb:TE} {pos:Pos} (ho:aX X (compareOp op) r) (ha:PE X a ta) (hb:PE X b tb) (hm:behindInMarks op b=false:=by first | exact uV _ (by decide) (by decide) | rfl) :
  PT X (.Compare a [op] [b] pos) (lM (kg r ta tb)):=by
 intro pins s σ H Q I h;refine wpAny_isTrue_Compare1 ?_ hm;refine aD (ha pins s σ H _ I h) fun v s1 ⟨x,H1,I1,r1,q1⟩=>aD (hb pins s1 σ H1 _ I1 q1) fun u s2 ⟨y,H2,I2,r2,q2⟩=>?_;refine aD (ho pins s2 σ H2 x y v u _ I2 r1 r2 q2) fun c s3 ⟨z,H3,I3,r3,q3⟩=>?_;obtain ⟨k,rfl,q⟩:=zN q3;cases r3;exact wpAny_truthy_bool ⟨H3,I3,q⟩
theorem Q1 {e:Expr} {t:TE} (h:PE X e t) (he:∀ whole,isTrue e X.env whole=(do let v <- whole; standAt e.pos; holding [v] (truthy v)):=by intro _; rfl):PT X e (lM t):=by
 intro pins s σ H Q I hw;refine isTrue_plain (aD (h pins s σ H _ I hw) fun v s1 ⟨x,H1,I1,r1,q1⟩=>?_) (he _);obtain ⟨d,rfl,q⟩:=zN q1;cases r1;exact wpAny_truthy_bool ⟨H1,I1,q⟩
def Ai (f g:Int->Int->Bool) (ta tb tc:TE):TT:=fun σ H Q=>ta σ H fun x H1=>tb σ H1 fun y H2=>match x,y with
 | .int i,.int j=>if f i j=true then tc σ H2 fun z H3=>(match z with | .int k=>Q (g j k) H3 | _=>False) else Q false H2
 | _,_=>False
def zT (ta tb:TE):TE:=fun σ H Q=>ta σ H fun x H1=>match x with
 | .bl c=>if c=true then tb σ H1 Q else Q (.bl false) H1
 | _=>False
def xX (ta tb:TE):TE:=fun σ H Q=>ta σ H fun x H1=>match x with
 | .bl c=>if c=true then Q (.bl true) H1 else tb σ H1 Q
 | _=>False
def yY (ta:TE):TE:=fun σ H Q=>ta σ H fun x H1=>match x with
 | .bl c=>Q (.bl (!c)) H1
 | _=>False
variable {a b:Expr} {ta tb:TE} {pos:Pos} {rest:List Expr}
theorem Ue (ha:PE X a ta) (hb:PE X (.BoolOp .And (b::rest) pos) tb):PE X (.BoolOp .And (a::b::rest) pos) (zT ta tb):=by
 intro pins s σ H Q I h;refine BoolOp_and (aD (ha pins s σ H _ I h) fun v s1 ⟨x,H1,I1,r1,q1⟩=>?_);have q1':∃ c,x=.bl c/\if c=true then tb σ H1 Q else Q (.bl false) H1:=by
  dsimp only at q1;split at q1
  ·exact ⟨_,rfl,q1⟩
  ·exact q1.elim
 obtain ⟨c,rfl,q1⟩:=q1';cases r1;refine wpAny_truthy_bool ?_;cases c with
 | true=>exact hb pins s1 σ H1 Q I1 q1
 | false=>exact ⟨.bl false,H1,I1,rfl,q1⟩
theorem Si (ha:PE X a ta) (hb:PE X (.BoolOp .Or (b::rest) pos) tb):PE X (.BoolOp .Or (a::b::rest) pos) (xX ta tb):=by
 intro pins s σ H Q I h;refine BoolOp_or (aD (ha pins s σ H _ I h) fun v s1 ⟨x,H1,I1,r1,q1⟩=>?_);have q1':∃ c,x=.bl c/\if c=true then Q (.bl true) H1 else tb σ H1 Q:=by
  dsimp only at q1;split at q1
  ·exact ⟨_,rfl,q1⟩
  ·exact q1.elim
 obtain ⟨c,rfl,q1⟩:=q1';cases r1;refine wpAny_truthy_bool ?_;cases c with
 | false=>exact hb pins s1 σ H1 Q I1 q1
 | true=>exact ⟨.bl true,H1,I1,rfl,q1⟩
def wF:V->Value
 | .ty n=>.type n
 | .ref a=>.ref a
 | _=>.none
theorem VR:cy X (.builtin "isinstance") (fun xs H Q=>∃ x cV t b,xs=[x,cV]/\((∃ n,cV=.ty n)\/∃ a,cV=.ref a)/\fk X.K H x t/\PySem.W.kitOne X.K t (wF cV)=some b/\Q (.bl b) H):=by
 intro pins s σ H xs us Q I r h;obtain ⟨x,cV,t,b,rfl,hc,ty,e,q⟩:=h;obtain ⟨u,c',rfl,ru,rc'⟩:=vals2 r;have ec:c'=wF cV:=by
  rcases hc with ⟨n,rfl⟩ | ⟨a,rfl⟩
  ·exact rc'
  ·exact rc'
 subst ec;exact Bs I ru ty e fun tk=>⟨.bl b,H,I.tok tk,rfl,q⟩
end
section
variable {X:Cx}
def Bo:V->List V->Hp->VK->Prop:=fun x xs H Q=>match x,xs with
 | .str a,[.str b]=>Q (.bl (Txt.startswith a b)) H
 | _,_=>False
theorem XX:dD X "str.startswith" Bo:=by
 intro pins s σ H x xs v us Q I rx r h;unfold Bo at h;split at h
 ·rename_i a b;obtain ⟨t,rfl⟩:=rx;obtain ⟨u,rfl,t',rfl⟩:=vals1 r;exact call_meets F.slot_str_startswith (typeIs_str s a t) F.entry_str_startswith (F.args_str_startswith_2 _ _) (gives_str_startswith a b t t').meets ⟨.bl _,H,I,rfl,h⟩
 ·exact h.elim
def yT:V->List V->Hp->VK->Prop:=fun x xs H Q=>match x,xs with
 | .str a,[.str b]=>Q (.bl (Txt.endswith a b)) H
 | _,_=>False
theorem VI:dD X "str.endswith" yT:=by
 intro pins s σ H x xs v us Q I rx r h;unfold yT at h;split at h
 ·rename_i a b;obtain ⟨t,rfl⟩:=rx;obtain ⟨u,rfl,t',rfl⟩:=vals1 r;exact call_meets F.slot_str_endswith (typeIs_str s a t) F.entry_str_endswith (F.args_str_endswith_2 _ _) (gives_str_endswith a b t t').meets ⟨.bl _,H,I,rfl,h⟩
 ·exact h.elim
theorem Kf:∀ (l:List (Str×Tok)),Vals ((l.map (·.1)).map V.str) (strValues l)
 | []=>.nil
 | p::r=>.cons ⟨p.2,rfl⟩ (Kf r)
theorem vk:∀ {ts:List Str} {us:List Value},Vals (ts.map V.str) us->∃ l:List (Str×Tok),us=strValues l/\l.map (·.1)=ts
 | [],_,.nil=>⟨[],rfl,rfl⟩
 | t::r,_,.cons h h'=>by
  obtain ⟨k,rfl⟩:=h;obtain ⟨l,e1,e2⟩:=vk h';exact ⟨(t,k)::l,by rw [e1]; rfl,by rw [<- e2]; rfl⟩
def yt:V->List V->Hp->VK->Prop:=fun x xs H Q=>match x,xs with
 | .str a,[.str b]=>(b.length == 0)=false/\a.length<=sizeLine/\(Builtin.Str.partsBetween a (Builtin.Str.occurrences a b 0 a.length (a.length+1)) b.length).length<=sizeLine /\
   ∀ l,H l=none->Q (.ref l) (upd H l (.lst ((Txt.split a b).map V.str)))
 | _,_=>False
theorem OL:dD X "str.split" yt:=by
 intro pins s σ H x xs v us Q I rx r h;unfold yt at h;split at h
 ·rename_i a b;obtain ⟨hy,hx,hn,q⟩:=h;obtain ⟨t,rfl⟩:=rx;obtain ⟨w',rfl,u,rfl⟩:=vals1 r;have fin:∀ (l:List (Str×Tok)) (tk:Nat),l.map (·.1)=Txt.split a b->l.length<=sizeLine ->
    EP X pins σ Q (.ref s.heap.objs.size) { s with heap:=s.heap.push { cls:=.type "list",data:=.seq (strValues l).toArray },toks:=tk }:=fun l tk e hz =>
   ⟨.ref _,_,I.laid (t':=tk) (o:=.lst ((Txt.split a b).map V.str)) (fun b' o' q'=>Heap.get?_push_of_some _ q') (Nat.le_refl _)
    ⟨by rw [List.length_map,<- e,List.length_map]; exact hz,strValues l,0,by rw [<- e]; exact Kf l,Heap.get?_push_size _ rfl⟩,rfl,q _ (I.aA.fresh (Nat.le_refl _))⟩
  cases h1:(decide (a.length < b.length) || decide (Builtin.Str.strKind a < Builtin.Str.strKind b))
  ·cases hf:(Builtin.Str.occurrences a b 0 a.length (a.length+1)).isEmpty
   ·refine call_meets F.slot_str_split (typeIs_str s a t) F.entry_str_split (F.args_str_split_2 _ _) (meets_str_split_sep a b t u h1 hy hf hx hn) ?_;have e:Txt.split a b=Builtin.Str.partsBetween a (Builtin.Str.occurrences a b 0 a.length (a.length+1)) b.length:=(if_neg (ne_true_of_eq_false h1)).trans (if_neg (ne_true_of_eq_false hf));have z:=fin (numbered s.toks (Builtin.Str.partsBetween a (Builtin.Str.occurrences a b 0 a.length (a.length+1)) b.length)) (s.toks+(Builtin.Str.partsBetween a (Builtin.Str.occurrences a b 0 a.length (a.length+1)) b.length).length)
     ((numbered_texts _ _).trans e.symm) (by
      have:=congrArg List.length (numbered_texts s.toks (Builtin.Str.partsBetween a (Builtin.Str.occurrences a b 0 a.length (a.length+1)) b.length));rw [List.length_map] at this;rw [this]; exact hn)
    rw [<- strsFrom_eq] at z;exact z
   ·exact call_meets F.slot_str_split (typeIs_str s a t) F.entry_str_split (F.args_str_split_2 _ _) (meets_str_split_not_found a b t u h1 hy hf)
     (fin [(a,t)] s.toks ((if_neg (ne_true_of_eq_false h1)).trans (if_pos hf)).symm (by show 1<=sizeLine; decide))
  ·exact call_meets F.slot_str_split (typeIs_str s a t) F.entry_str_split (F.args_str_split_2 _ _) (meets_str_split_cannot_occur a b t u h1)
    (fin [(a,t)] s.toks (if_pos h1).symm (by show 1<=sizeLine; decide))
 ·exact h.elim
def rJoin (K:PySem.W.Frag):V->List V->Hp->VK->Prop:=fun x xs H Q=>match x,xs with
 | .str a,[.ref p]=>qX K H p fun xs=>∃ ts:List Str,xs=ts.map V.str/\ts.foldl (fun n z=>n+z.length+a.length) 0<=sizeLine/\Q (.str (Str.join a ts)) H
 | _,_=>False
theorem QQ:dD X "str.join" (rJoin X.K):=by
 intro pins s σ H x xs v us Q I rx r h;unfold rJoin at h;split at h
 ·rename_i a p;obtain ⟨xs,hq,ts,rfl,hz,q⟩:=AR h;obtain ⟨t,rfl⟩:=rx;obtain ⟨w',rfl,e⟩:=vals1 r;cases e;obtain ⟨aj,rv,pl,hl⟩:=I.list hq;obtain ⟨l,rfl,e2⟩:=vk rv;have DA:Builtin.Str.tooLong ((l.map (·.1)).toArray.foldl (· + ·.length+a.length) 0)=false:=by
   unfold Builtin.Str.tooLong;refine decide_eq_false (Nat.not_lt.mpr ?_);rw [List.foldl_toArray,e2];exact hz
  refine call_meets F.slot_str_join (typeIs_str s a t) F.entry_str_join (F.args_str_join_2 _ _) (meets_str_join_list a t p l DA) ⟨pl.isList,?_⟩;have hlen:(Builtin.Str.glued a (l.map (·.1))).length<=sizeLine:=by
   rw [e2,StrLaws.glued_eq_join];refine Nat.le_trans ?_ hz;have:∀ (us:List Str) (n:Nat),n+(Str.join a us).length<=us.foldl (fun n z=>n+z.length+a.length) n:=by
    intro us
    induction us with
    | nil=>intro n; exact Nat.le_refl _
    | cons y r ih =>
     intro n;cases r with
     | nil=>show n+y.length<=n+y.length+a.length; omega
     | cons z r' =>
      have h1:(Str.join a (y::z::r')).length=y.length+a.length+(Str.join a (z::r')).length:=by
       show ((y++a)++Str.join a (z::r')).length=_;rw [Str.length_append,Str.length_append]
      have h2:=ih (n+y.length+a.length);rw [h1];refine Nat.le_trans ?_ h2;omega
   have h0:=this ts 0;omega
  have e3:Builtin.Str.glued a (l.map (·.1))=Str.join a ts:=by rw [e2,StrLaws.glued_eq_join]
  match l,e2,e3,hlen with
  | [],e2,e3,hlen=>exact ⟨hlen,⟨.str (Str.join a ts),H,I.tok _,⟨_,by rw [e3]⟩,q⟩⟩
  | [p],e2,e3,hlen =>
   have e4:Str.join a ts=p.1:=by rw [<- e2]; rfl
   exact ⟨.str (Str.join a ts),H,I.tok _,⟨_,by rw [e4]⟩,q⟩
  | p1::p2::r',e2,e3,hlen=>exact ⟨hlen,⟨.str (Str.join a ts),H,I.tok _,⟨_,by rw [e3]⟩,q⟩⟩
 ·exact h.elim
theorem JL {v:Value} {o:Option Int} (p:IsPart v o):∃ l:Option (Int×Tok),v=partValue l/\l.map (·.1)=o:=by
 cases p with
 | none=>exact ⟨none,rfl,rfl⟩
 | int i t=>exact ⟨some (i,t),rfl,rfl⟩
def Jh:V->Option Int->Option Int->Hp->VK->Prop:=fun x lo hi H Q=>match x with
 | .str z=>z.length<=sizeLine/\Q (.str (Txt.slice z lo hi)) H
 | _=>False
theorem NV:jr X Jh:=by
 intro pins s σ H x v vl vu lo hi sl Q I rx hs pl pu h;unfold Jh at h;split at h
 ·rename_i z;obtain ⟨hz,q⟩:=h;obtain ⟨t,rfl⟩:=rx;obtain ⟨l,rfl,rfl⟩:=JL pl;obtain ⟨u,rfl,rfl⟩:=JL pu;refine ⟨"str",_,F.slot_str_getitem.lookup,typeIs_str _ _ _,wpAny_getItem_str_slice (l:=l) (u:=u) (st:=none) hs rfl
   (post_val_or_str ⟨Nat.le_trans (Txt.slice_le z _ _) hz,fun t' k=>?_⟩)⟩
  exact ⟨.str (Txt.slice z (l.map (·.1)) (u.map (·.1))),H,I.tok k,⟨t',rfl⟩,q⟩
 ·exact h.elim
def yw:R2:=fun x y H Q=>match x,y with
 | .int i,.int j=>vm i j/\Q (.int (i * j)) H
 | .str z,.int n=>MulOk z n/\Q (.str (Txt.mul z n)) H
 | .ref l,.int k=>match H l with
  | some (.lst xs)=>-(2 ^ 63)<=k/\k < 2 ^ 63/\xs.length * k.toNat<=sizeLine/\∀ p,H p=none->Q (.ref p) (upd H p (.lst (List.replicate k.toNat xs).flatten))
  | _=>False
 | _,_=>False
theorem NN:aX X (binaryOp .Mult) (fun x y H Q=>∃ z n,x=.str z/\y=.int n/\MulOk z n/\Q (.str (Txt.mul z n)) H):=by
 intro pins s σ H x y v u Q I rx ry h;obtain ⟨z,n,rfl,rfl,hm,q⟩:=h;obtain ⟨t,rfl⟩:=rx;obtain ⟨t',rfl⟩:=ry;exact SB.mul hm fun t2 k=>⟨.str _,H,I.tok _,⟨_,rfl⟩,q⟩
theorem uK:aX X (binaryOp .Mult) yw:=(Ud.or (NN.or O1)).imp fun x y H Q h=>by
 unfold yw at h;split at h
 ·exact .inl ⟨_,_,rfl,rfl,h.1,h.2⟩
 ·exact .inr (.inl ⟨_,_,rfl,rfl,h.1,h.2⟩)
 ·split at h
  ·rename_i xs h1;obtain ⟨h2,h3,h4,h5⟩:=h;exact .inr (.inr ⟨_,_,xs,rfl,rfl,h1,h2,h3,h4,h5⟩)
  ·exact h.elim
 ·exact h.elim
theorem IC:∀ {bs:List Bool} {us:List Value},Vals (bs.map V.bl) us->us=bs.map Value.bool
 | [],_,.nil=>rfl
 | b::r,_,.cons h h'=>by
  have h:_=Value.bool b:=h;rw [h,IC h'];rfl
theorem all_range (bs:List Bool):(List.range bs.length).all (fun j=>bs.getD j true)=bs.all id:=by
 rw [Bool.eq_iff_iff,List.all_eq_true,List.all_eq_true];constructor
 ·intro h b hb;obtain ⟨i,hi,e⟩:=List.getElem_of_mem hb;have:=h i (List.mem_range.mpr hi);rw [List.getD_eq_getElem?_getD,List.getElem?_eq_getElem hi,e] at this;exact this
 ·intro h j hj;have hj:=List.mem_range.mp hj;rw [List.getD_eq_getElem?_getD,List.getElem?_eq_getElem hj];exact h _ (List.getElem_mem hj)
theorem Py (hc:X.calm=true):cy X (.builtin "all") (fun xs H Q=>∃ (p:Addr) (bs:List Bool),xs=[.ref p]/\aC X.K H p (bs.map V.bl)/\Q (.bl (bs.all id)) H):=by
 intro pins s σ H xs us Q I r h;obtain ⟨p,bs,rfl,hq,q⟩:=h;obtain ⟨u,rfl,e⟩:=vals1 r;cases e;obtain ⟨aj,rv,pl,hz⟩:=I.list hq;have eb:=IC rv;subst eb;have bt:p < s.heap.objs.size:=pl.lt;refine call_all_walk (wpAny_pyIter_list pl.isList ?_);refine ⟨s.heap.objs.size,_,_,_,_,_,fun j=>bs.getD j true,rfl,Walks.list (A:=X.A.in1) (show X.A.in1.handled=none from I.ok.hd hc) _ p (Nat.ne_of_lt bt) (bs.map Value.bool).toArray,⟨⟨_,Heap.get?_push_size _ rfl,rfl,rfl⟩,pl.isList.push _⟩,?_,?_⟩
 ·intro i v s' Q' E' hP hQ;have hi:bs[i]?=some (bs.getD i true)/\v=.bool (bs.getD i true):=by
   have hP:(bs.map Value.bool).toArray[i]?=some v:=hP;rw [List.getElem?_toArray,List.getElem?_map] at hP;cases e:bs[i]? with
   | none=>rw [e] at hP; cases hP
   | some b =>
    rw [e] at hP;have:bs.getD i true=b:=by rw [List.getD_eq_getElem?_getD,e]; rfl
    rw [this];exact ⟨rfl,(Option.some.inj hP).symm⟩
  rw [hi.2];exact wpAny_truthy_bool hQ
 ·intro h' tk hk;have e:(List.range (bs.map Value.bool).toArray.size).all (fun j=>bs.getD j true)=bs.all id:=by
   rw [List.size_toArray,List.length_map];exact all_range bs
  rw [e];refine ⟨.bl (bs.all id),H,I.kept (t':=tk) (fun b o eo=>?_),rfl,q⟩;refine hk b o ?_ (Heap.get?_push_of_some _ eo);intro hm;have e1:b=s.heap.objs.size:=by simpa using hm
  exact absurd (Heap.lt_size eo) (by rw [e1]; exact Nat.lt_irrefl _)
def qJ (x:Str):It:=⟨fun i _=>i < x.length,fun i H y H'=>H'=H/\∃ c,x.cps[i]?=some c/\y=.str ⟨#[c]⟩,fun i _=>x.length<=i⟩
theorem FO {P:Program} {w:World} {K:PySem.W.Frag} {tg:Expr} {x:Str} {t:Tok} {ty:String} (it:Addr)
  (cA:["enumerate","zip","dict_itemiterator","dict_reverseitemiterator","odict_iterator","itertools.zip_longest","itertools.pairwise"].contains ty=false)
  (W:∀ A:Around,A.handled=none->Walks P w A it [it] [it] x.cps.size (SignAt x) (fun i h=>h.IsStrIter it ty x t i)) (W0:∀ (A:Around) (i:Nat) (s:Shared) (Q:Value->Shared->Prop) (E:Value->Shared->Prop),s.heap.IsStrIter it ty x t i->Q (.ref it) s->wpAny (model P w) A (pyIter (.ref it)) Q E s) :
  Turn P w K tg (qJ x) [it] it (fun i h=>i<=x.length/\h.IsStrIter it ty x t i) where
 mem:=by simp
 obj:=fun i h st b hb=>by
  have e:b=it:=by simpa using hb
  subst e;obtain ⟨_,o,e,c,d⟩:=st;exact ⟨o,e,fun v z=>by rw [d] at z; cases z⟩
 keep:=fun i h h' st k=>⟨st.1,let ⟨o,ho,r⟩:=st.2; ⟨o,k it (by simp) o ho,r⟩⟩
 item:=by
  intro X hP hw hK hc i pins s σ H E I hf st hg;subst hP hw hK;obtain ⟨f0,f1,f2,f3,f4,f5⟩:=hf it (by simp);refine (W X.A (I.ok.hd hc)).item i s _ E hg st.2 fun v h' tk hv st' hk=>?_;obtain ⟨c,u,DO,rfl⟩:=hv;have I1:Inv X pins σ H { s with heap:=h',toks:=tk }:=I.turned (t':=tk) (fun b o hb e=>hk b o (by simpa using hb) e) f0 f1 f3 f4 f5;obtain ⟨o,e,cc,d⟩:=id st';exact ⟨_,rfl,zc (s:={ s with heap:=h',toks:=tk }) e cc d cA ⟨.str ⟨#[c]⟩,H,I1,⟨u,rfl⟩,⟨rfl,c,DO,rfl⟩,⟨hg,st'⟩,fun b hb=>(hf b hb).1⟩⟩
 done:=by
  intro X hP hw hK hc i pins s σ H E I hf st hg;subst hP hw hK;obtain ⟨f0,f1,f2,f3,f4,f5⟩:=hf it (by simp);have hi:i=x.cps.size:=Nat.le_antisymm st.1 hg;subst hi;exact (W X.A (I.ok.hd hc)).done s _ E st.2 fun h' tk hk=>⟨rfl,I.turned (t':=tk) (fun b o hb e=>hk b o (by simpa using hb) e) f0 f1 f3 f4 f5⟩
 self:=fun A i s Q E st h=>W0 A i s Q E st.2 h
def zJ (tl:TE):TI:=fun σ H R=>tl σ H fun x H1=>match x with
 | .str z=>R (qJ z) H1
 | _=>False
theorem OW {tg l:Expr} {tl:TE} (hl:PE X l tl):PI X tg l (zJ tl):=by
 intro pins s σ H R I h;refine aD (hl pins s σ H _ I h) fun v s1 ⟨x,H1,I1,r1,q1⟩=>?_;have q1':∃ z,x=.str z/\R (qJ z) H1:=by
  dsimp only at q1;split at q1
  ·exact ⟨_,rfl,q1⟩
  ·exact q1.elim
 obtain ⟨z,rfl,q⟩:=q1';obtain ⟨t,rfl⟩:=r1;have fp:∀ b∈[s1.heap.objs.size],jJ X pins H1 b:=fun b hb=>by
  have e:b=s1.heap.objs.size:=by simpa using hb
  subst e;exact I1.Cg (Nat.le_refl _) (I1.aA.fresh (Nat.le_refl _))
 cases ha:z.cps.all (· < 128)
 ·refine wpAny_pyIter_wide ha ⟨s1.heap.objs.size,[s1.heap.objs.size],_,_,H1,rfl,I1.kept (t':=s1.toks) fun b o e=>Heap.get?_push_of_some _ e,
   FO (ty := "str_iterator") (t:=t) _ (by decide) (fun A hA=>Walks.strWide hA _ z t) (fun A i s Q E st h=>wpAny_pyIter_striter_wide st h),⟨Nat.zero_le _,_,Heap.get?_push_size _ rfl,rfl,rfl⟩,fp,q⟩
 ·refine wpAny_pyIter_ascii ha ⟨s1.heap.objs.size,[s1.heap.objs.size],_,_,H1,rfl,I1.kept (t':=s1.toks) fun b o e=>Heap.get?_push_of_some _ e,
   FO (ty := "str_ascii_iterator") (t:=t) _ (by decide) (fun A hA=>Walks.strAscii hA _ z t) (fun A i s Q E st h=>wpAny_pyIter_striter_ascii st h),⟨Nat.zero_le _,_,Heap.get?_push_size _ rfl,rfl,rfl⟩,fp,q⟩
end
section
variable {X:Cx} {a b c:Expr} {ta tb tc:TE} {pos:Pos}
theorem WA (ha:PE X a ta):PE X (.UnaryOp .Not a pos) (yY ta):=by
 intro pins s σ H Q I h;refine UnaryOp_ (aD (ha pins s σ H _ I h) fun v s1 ⟨x,H1,I1,r1,q1⟩=>?_);have q1':∃ k,x=.bl k/\Q (.bl (!k)) H1:=by
  dsimp only at q1;split at q1
  ·exact ⟨_,rfl,q1⟩
  ·exact q1.elim
 obtain ⟨k,rfl,z1⟩:=q1';cases r1;exact not_of (wpAny_truthy_bool ⟨.bl (!k),H1,I1,rfl,z1⟩)
theorem O2 {op op':CmpOp} {f g:Int->Int->Bool} (ho:aX X (compareOp op) (je f)) (ho':aX X (compareOp op') (je g)) (ha:PE X a ta) (hb:PE X b tb) (hc:PE X c tc)
  (hm:lastMarks [op,op'] [b,c]=false:=by with_unfolding_all rfl):PT X (.Compare a [op,op'] [b,c] pos) (Ai f g ta tb tc):=by
 intro pins s σ H Q I h;refine isTrue_chain (aD (ha pins s σ H _ I h) fun v s1 ⟨x,H1,I1,r1,q1⟩=>test_link (aD (hb pins s1 σ H1 _ I1 q1) fun u s2 ⟨y,H2,I2,r2,q2⟩=>?_)) hm;have q2':∃ i j,x=.int i/\y=.int j/\if f i j=true then tc σ H2 (fun z H3=>(match z with | .int k=>Q (g j k) H3 | _=>False)) else Q false H2:=by
  dsimp only at q2;split at q2
  ·exact ⟨_,_,rfl,rfl,q2⟩
  ·exact q2.elim
 obtain ⟨i,j,rfl,rfl,z2⟩:=q2';refine aD (ho pins s2 σ H2 (.int i) (.int j) v u (fun z H3=>z=.bl (f i j)/\H3=H2) I2 r1 r2 ⟨rfl,rfl⟩) fun d s3 ⟨z,H3,I3,r3,e,e'⟩=>?_;subst e e';cases r3;refine wpAny_truthy_bool ?_;cases hf:f i j with
 | false =>
  rw [hf] at z2;exact ite_ff ⟨H3,I3,z2⟩
 | true =>
  rw [hf,if_pos rfl] at z2;refine ite_tt (test_last (aD (hc pins s3 σ H3 _ I3 z2) fun w' s4 ⟨z',H4,I4,r4,q4⟩=>?_));have q4':∃ k,z'=.int k/\Q (g j k) H4:=by
   dsimp only at q4;split at q4
   ·exact ⟨_,rfl,q4⟩
   ·exact q4.elim
  obtain ⟨k,rfl,z4⟩:=q4';refine aD (ho' pins s4 σ H4 (.int j) (.int k) u w' (fun z H5=>z=.bl (g j k)/\H5=H4) I4 r2 r4 ⟨rfl,rfl⟩) fun d' s5 ⟨z2,H5,I5,r5,e,e'⟩=>?_;subst e e';cases r5;exact wpAny_truthy_bool ⟨H5,I5,z4⟩
def uN (K:PySem.W.Frag):List V->Hp->VK->Prop:=fun xs H Q=>match xs with
 | [.str y]=>y.length<=sizeLine/\Q (.int y.length) H
 | [.ref p]=>bS K H p fun ys=>Q (.int ys.length) H
 | _=>False
theorem Qu:cy X (.builtin "len") (uN X.K):=Qe.imp fun xs H Q h=>by
 unfold uN at h;split at h
 ·exact ⟨_,_,rfl,⟨h.1,rfl⟩,h.2⟩
 ·obtain ⟨ys,h1,h2⟩:=vF h;rcases h1 with h1 | h1
  ·exact ⟨_,_,rfl,.inl ⟨ys,h1,rfl⟩,h2⟩
  ·exact ⟨_,_,rfl,.inr ⟨ys,h1,rfl⟩,h2⟩
 ·exact h.elim
def Je (K:PySem.W.Frag):List V->Hp->VK->Prop:=fun xs H Q=>match xs with
 | [x,cV]=>∃ t b,((∃ n,cV=.ty n)\/∃ a,cV=.ref a)/\fk K H x t/\PySem.W.kitOne K t (wF cV)=some b/\Q (.bl b) H
 | _=>False
theorem ZA:cy X (.builtin "isinstance") (Je X.K):=VR.imp fun xs H Q h=>by
 unfold Je at h;split at h
 ·obtain ⟨t,b,h1,h2,h3,h4⟩:=h;exact ⟨_,_,t,b,rfl,h1,h2,h3,h4⟩
 ·exact h.elim
def vZ (K:PySem.W.Frag):List V->Hp->VK->Prop:=fun xs H Q=>match xs with
 | [.ref p]=>qX K H p fun xs=>∃ bs:List Bool,xs=bs.map V.bl/\Q (.bl (bs.all id)) H
 | _=>False
theorem OX (hc:X.calm=true):cy X (.builtin "all") (vZ X.K):=(Py hc).imp fun xs H Q h=>by
 unfold vZ at h;split at h
 ·obtain ⟨xs,h1,bs,rfl,h2⟩:=AR h;exact ⟨_,bs,rfl,h1,h2⟩
 ·exact h.elim
def vQ (K:PySem.W.Frag):List V->Hp->VK->Prop:=fun xs H Q=>match xs with
 | [.ref p]=>bS K H p fun ys=>∀ l,H l=none->Q (.ref l) (upd H l (.lst ys))
 | _=>False
theorem Zp:cy X (.type "list") (vQ X.K):=Wy.imp fun xs H Q h=>by
 unfold vQ at h;split at h
 ·obtain ⟨ys,h1,h2⟩:=vF h;exact ⟨_,ys,rfl,h1,h2⟩
 ·exact h.elim
def pQ (K:PySem.W.Frag):R2:=fun x y H Q=>match x,y with
 | .ref p,.int i=>bS K H p fun xs=>match cO xs i with
  | some v=>Q v H
  | none=>False
 | .str z,.int i=>z.length<=sizeLine/\match cO z.cps.toList i with
  | some c=>Q (.str ⟨#[c]⟩) H
  | none=>False
 | _,_=>False
theorem fR.imp {r r':R2} (h:fR X r) (i:∀ x y H Q,r' x y H Q->r x y H Q):fR X r':=fun value slice pins s σ H x y v u Q I rx ry q=>h value slice pins s σ H x y v u Q I rx ry (i x y H Q q)
theorem qx:fR X (pQ X.K):=UH.imp fun x y H Q h=>by
 unfold pQ at h;split at h
 ·obtain ⟨xs,h1,h2⟩:=vF h;split at h2
  ·rename_i v e;rcases h1 with h1 | h1
   ·exact .inl ⟨_,xs,_,v,rfl,rfl,h1,e,h2⟩
   ·exact .inr (.inl ⟨_,xs,_,v,rfl,rfl,h1,e,h2⟩)
  ·exact h2.elim
 ·obtain ⟨h1,h2⟩:=h;split at h2
  ·rename_i d e;exact .inr (.inr ⟨_,_,d,rfl,rfl,h1,e,h2⟩)
  ·exact h2.elim
 ·exact h.elim
def wt (K:PySem.W.Frag):V->Option Int->Option Int->Hp->VK->Prop:=fun x lo hi H Q=>match x with
 | .str z=>z.length<=sizeLine/\Q (.str (Txt.slice z lo hi)) H
 | .ref a=>qX K H a fun xs=>∀ p,H p=none->Q (.ref p) (upd H p (.lst (fc xs lo hi)))
 | _=>False
theorem OB:jr X (wt X.K):=by
 intro pins s σ H x v vl vu lo hi sl Q I rx hs pl pu h;refine (NV.or Yc) pins s σ H x v vl vu lo hi sl Q I rx hs pl pu ?_;unfold wt at h;split at h
 ·exact .inl h
 ·obtain ⟨xs,h1,h2⟩:=AR h;exact .inr ⟨_,xs,rfl,h1,h2⟩
 ·exact h.elim
def Bj (t:TE):TO:=fun σ H Q=>t σ H fun x H1=>match x with
 | .int i=>Q (some i) H1
 | _=>False
theorem TZ {e:Expr} {te:TE} (h:PE X e te):PO X (some e) (Bj te):=by
 intro pins s σ H Q I q;refine evalPart_some_step (aD (h pins s σ H _ I q) fun v s1 ⟨x,H1,I1,r1,q1⟩=>?_);have q1':∃ i,x=.int i/\Q (some i) H1:=by
  dsimp only at q1;split at q1
  ·exact ⟨_,rfl,q1⟩
  ·exact q1.elim
 obtain ⟨i,rfl,z1⟩:=q1';obtain ⟨t,rfl⟩:=r1;exact ⟨some i,H1,I1,.int i t,z1⟩
def yf:sH:=fun o i v H Q=>match o,i with
 | .ref p,.int k=>match H p with
  | some (.lst xs)=>(match eI xs.length k with
   | some j=>Q (upd H p (.lst (xs.set j v)))
   | none=>False)
  | _=>False
 | _,_=>False
theorem vX:wb X yf:=by
 intro pins s σ H o i v ov iv u Q I ro ri rv h;refine set_list pins s σ H o i v ov iv u Q I ro ri rv ?_;unfold yf at h;split at h
 ·split at h
  ·rename_i xs h1;split at h
   ·rename_i j h2;exact ⟨_,xs,_,j,rfl,rfl,h1,h2,h⟩
   ·exact h.elim
  ·exact h.elim
 ·exact h.elim
theorem dD.imp {id:String} {r r':V->List V->Hp->VK->Prop} (h:dD X id r) (i:∀ x xs H Q,r' x xs H Q->r x xs H Q):dD X id r':=fun pins s σ H x xs v us Q I rx rv q=>h pins s σ H x xs v us Q I rx rv (i x xs H Q q)
def AL:V->List V->Hp->VK->Prop:=fun x vs H Q=>match x,vs with
 | .ref l,[y]=>match H l with
  | some (.lst xs)=>xs.length < sizeLine/\Q .au (upd H l (.lst (xs++[y])))
  | _=>False
 | _,_=>False
theorem lz:dD X "list.append" AL:=dD.imp RA fun x xs H Q h=>by
 unfold AL at h;split at h
 ·split at h
  ·rename_i zs h1;exact ⟨_,zs,_,rfl,rfl,h1,h.1,h.2⟩
  ·exact h.elim
 ·exact h.elim
def yr:V->List V->Hp->VK->Prop:=fun x vs H Q=>match x,vs with
 | .ref l,[.ref b]=>match H l,H b with
  | some (.lst xs),some (.lst zs)=>xs.length+zs.length<=sizeLine/\Q .au (upd H l (.lst (xs++zs)))
  | _,_=>False
 | _,_=>False
theorem ZE:dD X "list.extend" yr:=dD.imp SE fun x xs H Q h=>by
 unfold yr at h;split at h
 ·split at h
  ·rename_i zs ws h1 h2;exact ⟨_,_,zs,ws,rfl,rfl,h1,h2,h.1,h.2⟩
  ·exact h.elim
 ·exact h.elim
def clsName (H:Hp):V->Option String
 | .au=>some "NoneType"
 | .bl _=>some "bool"
 | .int _=>some "int"
 | .str _=>some "str"
 | .ref p=>match H p with
  | some (.lst _)=>some "list"
  | some (.tup _)=>some "tuple"
  | some (.dK _)=>some "dict"
  | _=>none
 | _=>none
def wQ (T n:String):Bool:=T == n || (T == "bool" && n == "int")
theorem U0 {K:PySem.W.Frag} {H:Hp} {x:V} {T:String} (h:clsName H x=some T):fk K H x (.type T)/\T∈["NoneType","bool","int","str","list","tuple","dict"]:=by
 unfold clsName at h;split at h
 ·cases h; exact ⟨.au,by simp⟩
 ·cases h; exact ⟨.bl _,by simp⟩
 ·cases h; exact ⟨.int _,by simp⟩
 ·cases h; exact ⟨.str _,by simp⟩
 ·split at h
  ·rename_i e; cases h; exact ⟨.lst e,by simp⟩
  ·rename_i e; cases h; exact ⟨.tup e,by simp⟩
  ·rename_i e; cases h; exact ⟨.dK e,by simp⟩
  ·cases h
 ·cases h
theorem Zh (K:PySem.W.Frag):∀ T,T∈["NoneType","bool","int","str","list","tuple","dict"]->∀ n,n∈["bool","int","str","list","tuple","dict"]->PySem.W.kitOne K (.type T) (.type n)=some (wQ T n):=by
 intro T hT n hn;simp only [List.mem_cons,List.mem_nil_iff,or_false] at hT hn;rcases hT with rfl | rfl | rfl | rfl | rfl | rfl | rfl <;> rcases hn with rfl | rfl | rfl | rfl | rfl | rfl <;> kernel_rfl
def Bm:List V->Hp->VK->Prop:=fun xs H Q=>match xs with
 | [x,.ty n]=>n∈["bool","int","str","list","tuple","dict"]/\match clsName H x with
  | some T=>Q (.bl (wQ T n)) H
  | none=>False
 | _=>False
theorem j0:cy X (.builtin "isinstance") Bm:=ZA.imp fun xs H Q h=>by
 unfold Bm at h;split at h
 ·rename_i x n;obtain ⟨hn,h⟩:=h;split at h
  ·rename_i T e;obtain ⟨h1,h2⟩:=U0 (K:=X.K) e;exact ⟨_,_,.inl ⟨_,rfl⟩,h1,Zh _ T h2 n hn,h⟩
  ·exact h.elim
 ·exact h.elim
def Ax (r:V->List V->Hp->VK->Prop) (to:TE) (t:TA):TE:=fun σ H Q=>to σ H fun x H1=>match x with
 | .str z=>t σ H1 fun xs H2=>r (.str z) xs H2 Q
 | _=>False
def yg (r:V->List V->Hp->VK->Prop) (to:TE) (t:TA):TE:=fun σ H Q=>to σ H fun x H1=>match x with
 | .ref l=>(match H1 l with
  | some (.lst _)=>t σ H1 fun xs H2=>r (.ref l) xs H2 Q
  | _=>False)
 | _=>False
section
variable {T:String} {name:Str} {id:String} {r:V->List V->Hp->VK->Prop} {o e:Expr} {es:List Expr} {to:TE} {t:TA} {apos bw:Pos}
theorem T7 (slot:Slot "str" name id) (cA:typeOf (.builtin id)=pure (.type "method_descriptor")) (hm:dD X id r) (ho:PE X o to) (ha:PA X (e::es) t)
  (hs:(e::es).all noStar=true:=by rfl) (aW:decide ((e::es).length+([]:List Keyword).length+(if ([]:List Keyword).isEmpty then 0 else 1) < 30)=true:=by rfl)
  (iO:attributeBase o name X.env (eval o X.env)=eval o X.env:=by rfl) (iM:(apos.endLine == bw.line)=true:=by rfl) :
  PE X (.Call (.Attribute o name apos) (e::es) [] bw) (Ax r to t):=by
 have hs':=hs;rw [List.all_cons,Bool.and_eq_true] at hs';have aR:starEach (e::es) X.env=(false,eval e X.env)::starEach es X.env:=fi hs'.1;have EX:(backTo bw (starEach es X.env)).any (·.1)=false:=hZ hs'.2;have ES:((backTo bw (starEach (e::es) X.env)).all (fun x=>!x.1) && (backToKw bw (keywordEach [] X.env)).all (fun x=>x.1.isSome)
   && decide ((e::es).length+([]:List Keyword).length+(if ([]:List Keyword).isEmpty then 0 else 1) < 30))=true:=by
  rw [Ab hs,aW];rfl
 intro pins s σ H Q I h;refine wpAny_Call_method_late iO ES iM rfl (aD (ho pins s σ H _ I h) fun v s1 ⟨x,H1,I1,r1,q1⟩=>?_);dsimp only at q1;split at q1
 ·rename_i z;obtain ⟨h1,h2⟩:=yE (T := "str") I1 r1 rfl;refine ⟨"str",id,PySem.F.plainAttrs_str,slot,cA,h1,h2,?_⟩;have hA:=ha bw pins s1 σ H1 _ I1 q1;rw [aR] at hA ⊢;refine Calls.callWith_builtin (by show (false || (backTo bw (starEach es X.env)).any (·.1))=false; rw [EX] <;> rfl) (Calls.evalArgs_plain ?_);exact aD hA fun us s2 ⟨vs,H2,I2,r2,q2⟩=>hm pins s2 σ H2 (.str z) vs v us Q I2 r1 r2 q2
 ·exact q1.elim
theorem SQ (slot:Slot "list" name id) (cA:typeOf (.builtin id)=pure (.type "method_descriptor")) (hm:dD X id r) (ho:PE X o to) (ha:PA X (e::es) t)
  (hs:(e::es).all noStar=true:=by rfl) (aW:decide ((e::es).length+([]:List Keyword).length+(if ([]:List Keyword).isEmpty then 0 else 1) < 30)=true:=by rfl)
  (iO:attributeBase o name X.env (eval o X.env)=eval o X.env:=by rfl) (iM:(apos.endLine == bw.line)=true:=by rfl) :
  PE X (.Call (.Attribute o name apos) (e::es) [] bw) (yg r to t):=by
 have hs':=hs;rw [List.all_cons,Bool.and_eq_true] at hs';have aR:starEach (e::es) X.env=(false,eval e X.env)::starEach es X.env:=fi hs'.1;have EX:(backTo bw (starEach es X.env)).any (·.1)=false:=hZ hs'.2;have ES:((backTo bw (starEach (e::es) X.env)).all (fun x=>!x.1) && (backToKw bw (keywordEach [] X.env)).all (fun x=>x.1.isSome)
   && decide ((e::es).length+([]:List Keyword).length+(if ([]:List Keyword).isEmpty then 0 else 1) < 30))=true:=by
  rw [Ab hs,aW];rfl
 intro pins s σ H Q I h;refine wpAny_Call_method_late iO ES iM rfl (aD (ho pins s σ H _ I h) fun v s1 ⟨x,H1,I1,r1,q1⟩=>?_);dsimp only at q1;split at q1
 ·rename_i l;split at q1
  ·rename_i zs el;obtain ⟨h1,h2⟩:=yE (T := "list") I1 r1 (.inl ⟨rfl,zs,aC.of el⟩);refine ⟨"list",id,PySem.F.plainAttrs_list,slot,cA,h1,h2,?_⟩;have hA:=ha bw pins s1 σ H1 _ I1 q1;rw [aR] at hA ⊢;refine Calls.callWith_builtin (by show (false || (backTo bw (starEach es X.env)).any (·.1))=false; rw [EX] <;> rfl) (Calls.evalArgs_plain ?_);exact aD hA fun us s2 ⟨vs,H2,I2,r2,q2⟩=>hm pins s2 σ H2 (.ref l) vs v us Q I2 r1 r2 q2
  ·exact q1.elim
 ·exact q1.elim
end
theorem U2 {CX:dA} {P:Program} {w:World} {K:PySem.W.Frag} {mg:Str->Option Value} {base:Heap} {N:List Str} {qual:Str} {scope:Scope} {f:Addr} {cd:Value} {A:Around} {outer:List Env} {s:Shared} {H:Hp} {E:XK} :
  (cF CX P w K mg base N qual scope f cd A outer s H E).K=K:=rfl
theorem gX {α:Type} (a:α) (l:List α):cO (a::l) 0=some a:=jq (j:=0) rfl
theorem wj {α:Type} (a b:α) (l:List α):cO (a::b::l) 1=some b:=jq (j:=1) rfl
theorem IB {α:Type} (a b c:α) (l:List α):cO (a::b::c::l) 2=some c:=jq (j:=2) rfl
theorem Sj (n:Nat):eI (n+1) 0=some 0:=by
 unfold eI;rw [if_pos (by decide),if_pos (by omega)];rfl
theorem PQ (n:Nat):eI (n+3) 2=some 2:=by
 unfold eI;rw [if_pos (by decide),if_pos (by omega)];rfl
theorem Q2 {H:Hp} {p b:Addr} {o u:HO} (h:H b=some u) (hp:H p=Option.none):upd H p o b=some u:=by rw [ag (fU h hp)]; exact h
theorem gf:bootBuiltins "isinstance" = some (.builtin "isinstance"):=by decide +kernel
theorem Fz:bootBuiltins "all" = some (.builtin "all"):=by decide +kernel
theorem pe:bootBuiltins "str" = some (.type "str"):=by decide +kernel
theorem Gz:bootBuiltins "bool" = some (.type "bool"):=by decide +kernel
theorem Fd:bootBuiltins "int" = some (.type "int"):=by decide +kernel
theorem GB:bootBuiltins "list" = some (.type "list"):=by decide +kernel
end
abbrev Kc (ifs:List Expr) (env:Env):Sem Bool:=forIn ifs true fun c r=>if r=true then do let ok <- isTrue c env (eval c env); pure (ForInStep.yield ok) else pure (ForInStep.yield r)
section
variable {prog:Program} {w:World} {A:Around} {R:Result->Shared->Prop} {s:Shared}
theorem OV {elt tg iter:Expr} {ifs:List Expr} {scope:Scope} {pos:Pos} {it acc:Value} {env:Env} (J:Nat->Shared->Prop) (hN:∀ e s',notedBy (model prog w) A env (fun e s'=>R (.error e) s') e s'->True)
  (turn:∀ n s,J n s->wpAny (model prog w) A (pyNext it) (fun r s1=>match r with
   | none=>R (.ok .next) s1
   | some v=>wpAny (model prog w) A (letOwnedTupleGo tg it v) (fun _ s2=>wpAny (model prog w) A (assign tg env v) (fun _ s3=>wpAny (model prog w) A (Kc ifs env)
     (fun ok s4=>if ok=true then wpAny (model prog w) A (eval elt env) (fun x s5=>wpAny (model prog w) A (call (.builtin "list.append") [acc,x]) (fun _ s6=>∃ m,m < n/\J m s6) (fun _ _=>False) s5) (fun _ _=>False) s4
      else ∃ m,m < n/\J m s4) (fun _ _=>False) s3) (fun _ _=>False) s2) (fun _ _=>False) s1) (fun _ _=>False) s)
  (n:Nat) (h:J n s):codeAny (model prog w) A (.compLoop (.ListComp elt [⟨tg,iter,ifs,0⟩] scope pos) 0 it acc env) R s:=by
 have no:∀ {E:Value->Shared->Prop} (e:Value) (s':Shared),False->E e s':=fun _ _ z=>z.elim;refine codeAny_loop rfl J (fun n s hI=>?_) n h;refine (show wpAny _ A (Sem.onRaise (compTurn (.ListComp elt [⟨tg,iter,ifs,0⟩] scope pos) 0 it acc env) (fun x=>do noteFrame x env; theTreesLotGoes x)) _ _ s from ?_);refine wpAny_noted ?_;rw [compTurn_list];refine wpAny_bind (wpAny_standAt (wpAny_bind (wpAny_mono (turn n s hI) (fun r s1 q1=>?_) no)));cases r with
 | none=>exact wpAny_pure q1
 | some v =>
  refine wpAny_bind (wpAny_mono q1 (fun _ s2 q2=>wpAny_bind (wpAny_mono q2 (fun _ s3 q3=>wpAny_bind (wpAny_mono q3 (fun ok s4 q4=>?_) no)) no)) no);cases ok with
  | false=>exact wpAny_pure ⟨rfl,q4⟩
  | true=>exact wpAny_bind (wpAny_bind (wpAny_mono q4 (fun x s5 q5=>wpAny_bind (wpAny_mono q5 (fun _ s6 q6=>wpAny_pure (wpAny_pure ⟨rfl,q6⟩)) no)) no))
end
def oX (X:Cx) (ifs:List Expr) (t:TT):Prop :=
 ∀ (pins:List (Addr×Obj)) (s:Shared) (σ:St) (H:Hp) (Q:Bool->Hp->Prop),Inv X pins σ H s->t σ H Q->wpAny (model X.prog X.w) X.A (Kc ifs X.env) (TP X pins σ Q) X.xe s
def nH:TT:=fun _ H Q=>Q true H
theorem Z6 {X:Cx}:oX X [] nH:=fun _ _ _ H _ I h=>wpAny_tests_nil ⟨H,I,h⟩
theorem RY {X:Cx} {c:Expr} {t:TT} (h:PT X c t):oX X [c] t:=fun pins s σ H Q I q=>wpAny_tests_one (h pins s σ H Q I q)
def vj (wi:TI) (tt:TT) (te:TE):TE:=fun σ H Q=>wi σ H fun J H1=>∃ W:Nat->List V->Nat->Hp->Prop,(∃ m,W 0 [] m H1)/\∀ i ys m H,W i ys m H ->
 ys.length<=sizeLine/\((J.stop i H/\∀ l,H l=none->Q (.ref l) (upd H l (.lst ys))) \/
  (J.go i H/\ys.length < sizeLine/\∀ y H',J.ky i H y H'->tt [some y] H' fun c H2=>if c=true then te [some y] H2 fun z H3=>∃ m',m' < m/\W (i+1) (ys++[z]) m' H3 else ∃ m',m' < m/\W (i+1) ys m' H2))
section
variable {X:Cx}
structure BJ (X:Cx) (pins:List (Addr×Obj)) (H:Hp) (C:Addr):Prop where
 fr:H C=none
 nl:C≠X.env.locals
 ab:X.s₀.heap.objs.size<=C
 nc:∀ x c,X.env.cells.lookup x=some c->c≠C
 np:∀ p∈X.pn++pins,p.1≠C
theorem BJ.go {pins:List (Addr×Obj)} {σ:St} {H:Hp} {s:Shared} {C:Addr} {h':Heap} (o:BJ X pins H C) (I:Inv X pins σ H s) (hs:Heap.SameBut C s.heap h'):Inv X pins σ H { s with heap:=h' } :=
 I.turned (t':=s.toks) (fun b ob hb e=>(hs.2 b hb).trans e) o.fr o.nl (.inr o.ab) o.nc o.np
end
def cj (st:Addr) (H H':Hp):Prop:=∀ c o,c≠st->H c=some o->H' c=some o
theorem cj.trans {st:Addr} {H H1 H2:Hp} (a:cj st H H1) (b:cj st H1 H2):cj st H H2:=fun c o n e=>b c o n (a c o n e)
theorem ao.upd {H:Hp} {p:Addr} {o:HO} (h:H p=Option.none):ao H (upd H p o):=fun b u e=>by rw [ag (fU e h)]; exact e
theorem ao.keep {H H':Hp} (h:ao H H') (st:Addr):cj st H H':=fun c o _ e=>h c o e
theorem cj.upd {H:Hp} {p:Addr} {o:HO}:cj p H (upd H p o):=fun c u n e=>by rw [ag n]; exact e
theorem cj.same {H H1 H':Hp} {st:Addr} (a:ao H H1) (h:H st=Option.none) (k:cj st H1 H'):ao H H':=fun c o e=>k c o (fU e h) (a c o e)
def wc:V->Bool
 | .str _=>true
 | _=>false
def mE (t:TE):TE:=fun σ H Q=>∃ M:VK,t σ H M/\∀ v H1,M v H1->Q v H1
def mA (t:TA):TA:=fun σ H Q=>∃ M:List V->Hp->Prop,t σ H M/\∀ v H1,M v H1->Q v H1
theorem PE.m {X:Cx} {e:Expr} {t:TE} (h:PE X e t):PE X e (mE t):=fun pins s σ H Q I ⟨M,h1,h2⟩=>aD (h pins s σ H M I h1) fun _ _ ⟨v,H1,I1,r,q⟩=>⟨v,H1,I1,r,h2 v H1 q⟩
theorem PA.m {X:Cx} {e:List Expr} {t:TA} (h:PA X e t):PA X e (mA t):=fun pos pins s σ H Q I ⟨M,h1,h2⟩=>aD (h pos pins s σ H M I h1) fun _ _ ⟨v,H1,I1,r,q⟩=>⟨v,H1,I1,r,h2 v H1 q⟩
theorem PI.imp {X:Cx} {tg it:Expr} {t t':TI} (h:PI X tg it t) (i:∀ σ H R,t' σ H R->t σ H R):PI X tg it t':=fun pins s σ H R I hw=>h pins s σ H R I (i σ H R hw)
def Cw (ta:TA):TI:=fun σ H R=>ta σ H fun vs H1=>match vs with
 | [.int j]=>(-(2 ^ 62)<=j/\j < 2 ^ 62)/\R (kD 0 j.toNat) H1
 | _=>False
theorem VJ {X:Cx} {tg a:Expr} {ta:TA} {p pos:Pos} (hg:Gl X "range") (hm:X.mg "range" = none) (ha:PA X [a] ta) (hs:starEach [a] X.env=[(false,eval a X.env)]:=by rfl):PI X tg (.Call (.Name "range" p) [a] [] pos) (Cw ta) :=
 (Z3 hg hm ha.m hs).imp fun σ H R h=>⟨_,h,fun vs H1 z=>by
  split at z
  ·exact ⟨_,rfl,z.1.1,z.1.2,z.2⟩
  ·exact z.elim⟩
def yK (K:PySem.W.Frag) (tl:TE):TI:=fun σ H R=>tl σ H fun x H1=>match x with
 | .ref a=>(∃ xs,aC K H1 a xs)/\R (jS K a) H1
 | _=>False
theorem aag {X:Cx} {tg l:Expr} {tl:TE} (hl:PE X l tl):PI X tg l (yK X.K tl):=(O3 hl.m).imp fun σ H R h=>⟨_,h,fun x H1 z=>by
  split at z
  ·exact ⟨_,rfl,z.1,z.2⟩
  ·exact z.elim⟩
def wW (J:It) (g:TG) (tb:TS) (D:Ends) (σ:St) (H1:Hp):Prop:=∃ W:Nat->Nat->St->Hp->Prop,(∃ m,W 0 m σ H1)/\∀ i m σ H,W i m σ H ->
 (J.stop i H/\D.nx σ H)\/(J.go i H/\∃ N:St->Hp->Prop,(∀ σ' H',N σ' H'->∃ m',m' < m/\W (i+1) m' σ' H')/\∀ x H',J.ky i H x H'->g x σ H' fun σ2 H2=>tb { D with nx:=N,ct:=N,bk:=D.nx } σ2 H2)
theorem OD {wi:TI} {g:TG} {tb:TS} {D:Ends} {σ:St} {H:Hp}:yR wi g tb D σ H=wi σ H fun J H1=>wW J g tb D σ H1:=rfl
theorem Ka {lo:Int} {n:Nat} {g:TG} {tb:TS} {D:Ends} {σ:St} {H:Hp} (Pv:Nat->St->Hp->Prop) (h0:Pv 0 σ H)
  (hs:∀ i σ H,i < n->Pv i σ H->g (.int (lo+i)) σ H fun σ2 H2=>tb { D with nx:=Pv (i+1),ct:=Pv (i+1),bk:=D.nx } σ2 H2) (hd:∀ σ H,Pv n σ H->D.nx σ H):wW (kD lo n) g tb D σ H:=Vo Pv h0 hs hd
theorem vV {K:PySem.W.Frag} {a:Addr} {xs:List V} {g:TG} {tb:TS} {D:Ends} {σ:St} {H:Hp} (Pv:Nat->St->Hp->Prop) (h0:Pv 0 σ H) (hl:∀ i σ H,i<=xs.length->Pv i σ H->aC K H a xs)
  (hs:∀ i x σ H,xs[i]?=some x->Pv i σ H->g x σ H fun σ2 H2=>tb { D with nx:=Pv (i+1),ct:=Pv (i+1),bk:=D.nx } σ2 H2) (hd:∀ σ H,Pv xs.length σ H->D.nx σ H):wW (jS K a) g tb D σ H:=Q4 Pv h0 hl hs hd
theorem fits {n:Nat} (h:n<=1000):n<=sizeLine:=Nat.le_of_lt (Ko h)
theorem lQ {n:Nat} (h:n<=1000):n < sizeLine:=Ko h
def rq (t u:TS):TS:=fun D σ H=>∃ P:St->Hp->Prop,t { D with nx:=P } σ H/\∀ σ' H',P σ' H'->u D σ' H'
theorem NY {X:Cx} {st:Stmt} {rest:List Stmt} {t u:TS} (h1:PS X st t) (h2:cT X rest u):cT X (st::rest) (rq t u):=by
 intro pins s σ H D I h;obtain ⟨P,ht,hu⟩:=h;have h1':PS X st (fun D' σ' H'=>D'={ D with nx:=P }/\t D' σ' H'):=h1.imp fun _ _ _ z=>z.2;have h2':cT X rest (fun D' σ' H'=>P σ' H'/\D'=D):=fun pins s σ H D' I z=>by
  obtain ⟨z1,rfl⟩:=z;exact h2 pins s σ H D' I (hu σ H z1)
 refine Uw (t:=fun D' σ' H'=>t { D with nx:=P } σ' H'/\D'.rt=D.rt/\D'.bk=D.bk/\D'.ct=D.ct/\∀ σ'' H'',P σ'' H''->D'.nx σ'' H'') (u:=fun D' σ' H'=>P σ' H'/\D'=D) ?_ h2' pins s σ H D I ⟨ht,rfl,rfl,rfl,fun σ'' H'' z=>⟨z,rfl⟩⟩;intro pins s σ H D' I z;obtain ⟨z1,z2,z3,z4,z5⟩:=z;refine aD (h1 pins s σ H { D with nx:=P } I z1) fun f s' hq=>?_;cases f with
 | next=>obtain ⟨σ',H',I',q⟩:=hq; exact ⟨σ',H',I',z5 _ _ q⟩
 | brk=>obtain ⟨σ',H',I',q⟩:=hq; exact ⟨σ',H',I',by rw [z3]; exact q⟩
 | cont=>obtain ⟨σ',H',I',q⟩:=hq; exact ⟨σ',H',I',by rw [z4]; exact q⟩
 | ret u=>obtain ⟨v,σ',H',I',r,q⟩:=hq; exact ⟨v,σ',H',I',r,by rw [z2]; exact q⟩
theorem ai {t u:TS} {D:Ends} {σ:St} {H:Hp} (h:t { D with nx:=u D } σ H):rq t u D σ H:=⟨u D,h,fun _ _ z=>z⟩
theorem js {t u:TS} {D:Ends} {σ:St} {H:Hp} (P:St->Hp->Prop) (h1:t { D with nx:=P } σ H) (h2:∀ σ' H',P σ' H'->u D σ' H'):rq t u D σ H:=⟨P,h1,h2⟩
theorem CY {H:Hp} {x:V} {T:String} (h:clsName H x=some T):wQ T "str" = wc x:=by
 unfold clsName at h;split at h
 ·cases h; rfl
 ·cases h; rfl
 ·cases h; rfl
 ·cases h; rfl
 ·split at h
  ·cases h; rfl
  ·cases h; rfl
  ·cases h; rfl
  ·cases h
 ·cases h
theorem Zu (H:Hp) (z:Str):clsName H (.str z)=some "str" := rfl
theorem U8 (H:Hp) (z:Bool):clsName H (.bl z)=some "bool" := rfl
theorem Rp (H:Hp) (z:Int):clsName H (.int z)=some "int" := rfl
theorem Zl (H:Hp):clsName H .au=some "NoneType" := rfl
theorem vK (n:String) (h:["bool","int","str","list","tuple","dict"].contains n=true):n∈["bool","int","str","list","tuple","dict"]:=by simpa using h
def we (K:PySem.W.Frag):R2:=fun x y H Q=>match y with
 | .ref p=>∃ xs,(aC K H p xs\/bC K H p xs)/\cx x=true/\xs.all cx=true/\Q (.bl (gE x xs)) H
 | _=>False
theorem S5 {X:Cx}:aX X (compareOp .In) (we X.K):=KG.imp fun x y H Q h=>by
 unfold we at h;split at h
 ·obtain ⟨xs,h1,h2,h3,h4⟩:=h;exact ⟨_,xs,rfl,h1,h2,h3,h4⟩
 ·exact h.elim
section
variable {X:Cx} {K:PySem.W.Frag}
theorem vx (h:X.K=K):aX X (compareOp .In) (uO K):=h ▸ UN
theorem zV (h:X.K=K):aX X (compareOp .In) (we K):=h ▸ S5
theorem lA (h:X.K=K):cy X (.builtin "len") (uN K):=h ▸ Qu
theorem EY (h:X.K=K) (hc:X.calm=true):cy X (.builtin "all") (vZ K):=h ▸ OX hc
theorem TH (h:X.K=K):cy X (.type "list") (vQ K):=h ▸ Zp
theorem bG (h:X.K=K):fR X (pQ K):=h ▸ qx
theorem m8 (h:X.K=K):jr X (wt K):=h ▸ OB
theorem Fn (h:X.K=K):dD X "str.join" (rJoin K):=h ▸ QQ
end
def sj (J:It) (tt:TT) (te:TE) (Q:VK) (H0:Hp):Prop:=∃ W:Nat->List V->Nat->Hp->Prop,(∃ m,W 0 [] m H0)/\∀ i ys m H,W i ys m H ->
 ys.length<=sizeLine/\((J.stop i H/\∀ l,H l=none->Q (.ref l) (upd H l (.lst ys))) \/
  (J.go i H/\ys.length < sizeLine/\∀ y H',J.ky i H y H'->tt [some y] H' fun c H2=>if c=true then te [some y] H2 fun z H3=>∃ m',m' < m/\W (i+1) (ys++[z]) m' H3 else ∃ m',m' < m/\W (i+1) ys m' H2))
theorem J2 {wi:TI} {tt:TT} {te:TE} {σ:St} {H:Hp} {Q:VK}:vj wi tt te σ H Q=wi σ H fun J H1=>sj J tt te Q H1:=rfl
theorem Vt {z:Str} {te:TE} {H:Hp} {Q:VK} (f:Nat->V) (hz:z.length<=sizeLine)
  (he:∀ c,c∈z.cps.toList->∀ H1,ao H H1->∀ R:VK,(∀ H2,ao H1 H2->R (f c) H2)->te [some (.str ⟨#[c]⟩)] H1 R)
  (q:∀ H1,ao H H1->∀ l,H1 l=none->Q (.ref l) (upd H1 l (.lst (z.cps.toList.map f)))):sj (qJ z) nH te Q H:=by
 have hl:z.cps.toList.length=z.length:=by simp [Str.length]
 refine ⟨fun i ys m H1=>ao H H1/\ys=(z.cps.toList.take i).map f/\i<=z.length/\m=z.length - i,⟨_,ao.refl H,rfl,Nat.zero_le _,rfl⟩,?_⟩;rintro i ys m H1 ⟨s1,rfl,hi,rfl⟩;have hlen:((z.cps.toList.take i).map f).length=i:=by rw [List.length_map,List.length_take,hl]; omega
 refine ⟨by rw [hlen]; omega,?_⟩;by_cases h:i < z.length
 ·refine .inr ⟨h,by rw [hlen]; omega,?_⟩;rintro y H' ⟨rfl,c,hc,rfl⟩;have DT:z.cps.toList[i]?=some c:=by simpa using hc
  simp only [nH,if_true];refine he c (List.mem_of_getElem? DT) H' s1 _ fun H2 s2=>⟨_,?_,s1.trans s2,?_,h,rfl⟩
  ·omega
  ·rw [List.take_add_one,DT,List.map_append]; rfl
 ·have LL:i=z.length:=by omega
  refine .inl ⟨Nat.le_of_eq LL.symm,fun l hl'=>?_⟩;have:=q H1 s1 l hl';rw [List.take_of_length_le (by rw [hl]; omega)];exact this
theorem LC {K:PySem.W.Frag} {a:Addr} {xs:List V} {tt:TT} {te:TE} {H:Hp} {Q:VK} (p:V->Bool) (f:V->V) (Dc:aC K H a xs) (hz:xs.length<=sizeLine)
  (ht:∀ x,x∈xs->∀ H1,ao H H1->∀ R:Bool->Hp->Prop,(∀ H2,ao H1 H2->R (p x) H2)->tt [some x] H1 R)
  (he:∀ x,x∈xs->p x=true->∀ H1,ao H H1->∀ R:VK,(∀ H2,ao H1 H2->R (f x) H2)->te [some x] H1 R)
  (q:∀ H1,ao H H1->∀ l,H1 l=none->Q (.ref l) (upd H1 l (.lst ((xs.filter p).map f)))):sj (jS K a) tt te Q H:=by
 refine ⟨fun i ys m H1=>ao H H1/\ys=((xs.take i).filter p).map f/\i<=xs.length/\m=xs.length - i,⟨_,ao.refl H,rfl,Nat.zero_le _,rfl⟩,?_⟩;rintro i ys m H1 ⟨s1,rfl,hi,rfl⟩;have hlen:(((xs.take i).filter p).map f).length<=i:=by
  rw [List.length_map];refine Nat.le_trans (List.length_filter_le _ _) ?_;rw [List.length_take]; omega
 refine ⟨by omega,?_⟩;by_cases h:i < xs.length
 ·have hx:xs[i]?=some xs[i]:=List.getElem?_eq_getElem h;refine .inr ⟨⟨xs,xs[i],s1.seq Dc,hx⟩,by omega,?_⟩;rintro y H' ⟨rfl,hy⟩;have LP:xs[i]?=some y:=hy xs (s1.seq Dc);have hm:y∈xs:=List.mem_of_getElem? LP;have e1:(xs.take (i+1)).filter p=(xs.take i).filter p++(if p y=true then [y] else []):=by
   rw [List.take_add_one,LP,List.filter_append];by_cases hp:p y=true
   ·simp [hp]
   ·simp [hp]
  refine ht y hm H' s1 _ fun H2 s2=>?_;by_cases hp:p y=true
  ·rw [if_pos hp];refine he y hm hp H2 (s1.trans s2) _ fun H3 s3=>⟨_,?_,(s1.trans s2).trans s3,?_,h,rfl⟩
   ·omega
   ·rw [e1,if_pos hp,List.map_append]; rfl
  ·rw [if_neg hp];refine ⟨_,?_,s1.trans s2,?_,h,rfl⟩
   ·omega
   ·rw [e1,if_neg hp,List.append_nil]
 ·have LL:i=xs.length:=by omega
  refine .inl ⟨⟨xs,s1.seq Dc,by omega⟩,fun l hl'=>?_⟩;have:=q H1 s1 l hl';rw [List.take_of_length_le (by omega)];exact this
structure QE (X:Cx) (e:Expr) (t:TE):Prop where
 h:PE X e t
structure QA (X:Cx) (e:List Expr) (t:TA):Prop where
 h:PA X e t
structure QT (X:Cx) (e:Expr) (t:TT):Prop where
 h:PT X e t
structure QW (X:Cx) (e:Expr) (t:TT):Prop where
 h:PW X e t
structure QS (X:Cx) (e:Stmt) (t:TS):Prop where
 h:PS X e t
structure QB (X:Cx) (e:List Stmt) (t:TS):Prop where
 h:cT X e t
structure QI (X:Cx) (tg it:Expr) (t:TI):Prop where
 h:PI X tg it t
structure QG (X:Cx) (e:Expr) (t:TG):Prop where
 h:PG X e t
structure uQ (X:Cx) (e:List Expr) (t:iW):Prop where
 h:rR X e t
structure pO (X:Cx) (e:List Expr) (t:TT):Prop where
 h:oX X e t
structure QO (X:Cx) (e:Option Expr) (t:TO):Prop where
 h:PO X e t
structure QP (X:Cx) (pos:Pos) (ks:List (Option Expr)) (vs:List Expr) (t:List (TE×TE)):Prop where
 h:Qq X pos ks vs t
namespace Dv
section
variable {X:Cx} {a b c:Expr} {ta tb tc:TE} {pos:Pos} {rest:List Expr} {tA tB':TT}
theorem v (i:Nat) {x:Str} {pos:Pos} (hN:X.N[i]?=some x:=by rfl) (hv:lE X.env.scope x:=by first | exact Or.inl rfl | exact Or.inr (Or.inl rfl) | exact Or.inr (Or.inr rfl)) (hd:(x == ("__debug__" : Str))=false:=by decide)
  (bM:(x == ("__classdict__" : Str))=false:=by decide):QE X (.Name x pos) (kj i):=⟨qv i hN hv hd bM⟩
theorem int {i j pos}:QE X (.Constant (.int i) j pos) (tC (.int i)):=⟨Om⟩
theorem bl {b j pos}:QE X (.Constant (.bool b) j pos) (tC (.bl b)):=⟨Vu⟩
theorem au {j pos}:QE X (.Constant .none j pos) (tC .au):=⟨Ug⟩
theorem str {x j pos}:QE X (.Constant (.str x) j pos) (tC (.str x)):=⟨Sg⟩
theorem glob {x:Str} (v:V) {u:Value} {pos:Pos} (hm:X.mg x=some u) (r:RelV v u) (hg:Gl X x:=by rfl) (hd:(x == ("__debug__" : Str))=false:=by decide):QE X (.Name x pos) (tC v):=⟨Uu hg hm r hd⟩
theorem jF {x:Str} (v:V) {u:Value} {pos:Pos} (hm:X.mg x=none) (hv:bootBuiltins x=some u) (r:RelV v u) (hg:Gl X x:=by rfl) (hn:x ≠ "__name__" := by decide) (hd:(x == ("__debug__" : Str))=false:=by decide):QE X (.Name x pos) (tC v):=⟨Oc hg hm hv r hn hd⟩
theorem op {o:Operator} {r:R2} (ho:aX X (binaryOp o) r) (ha:QE X a ta) (hb:QE X b tb):QE X (.BinOp a o b pos) (kg r ta tb):=⟨Td ho ha.h hb.h⟩
theorem un {o:UnaryOp} {r:V->Hp->VK->Prop} (ho:sY X (unaryOp o) r) (ha:QE X a ta):QE X (.UnaryOp o a pos) (zf r ta):=⟨Wf ho ha.h⟩
theorem cmp {o:CmpOp} {r:R2} (ho:aX X (compareOp o) r) (ha:QE X a ta) (hb:QE X b tb) (hm:behindInMarks o b=false:=by first | exact uV _ (by decide) (by decide) | rfl):QE X (.Compare a [o] [b] pos) (kg r ta tb):=⟨U1 ho ha.h hb.h hm⟩
theorem kq (ha:QE X a ta) (hb:QE X (.BoolOp .And (b::rest) pos) tb):QE X (.BoolOp .And (a::b::rest) pos) (zT ta tb):=⟨Ue ha.h hb.h⟩
theorem V0 (ha:QE X a ta) (hb:QE X (.BoolOp .Or (b::rest) pos) tb):QE X (.BoolOp .Or (a::b::rest) pos) (xX ta tb):=⟨Si ha.h hb.h⟩
theorem one {o} {t:TE} (h:QE X a t):QE X (.BoolOp o [a] pos) t:=⟨Wi h.h⟩
theorem Ow (ha:QE X a ta):QE X (.UnaryOp .Not a pos) (yY ta):=⟨WA ha.h⟩
theorem ae:QA X [] lh:=⟨Y2⟩
theorem aa {e:Expr} {es:List Expr} {te:TE} {t:TA} (ha:QE X e te) (hr:QA X es t) (hs:noStar e=true:=by rfl):QA X (e::es) (ou te t):=⟨XN ha.h hr.h hs⟩
theorem call {CX:dA} {k:Nat} {f:Addr} {fd:FuncData} {ps:List Str} {sp:Sp} {bj:List V} {ds:List Value} {E:XK} {x:Str} {p pos:Pos} {e:Expr} {es:List Expr} {t:TA}
  (F:aB X.prog X.w X.K X.mg X.base CX k f fd ps sp) (hr:aZ k X.A) (hm:X.mg x=some (.ref f)) (hk:PySem.W.keepIn X.K (.ref f)=true) (hb:Binds X.K fd ps ds) (hd:Vals bj ds) (hx:Passes CX X E)
  (ha:QA X (e::es) t) (hg:Gl X x:=by rfl) (hs:(e::es).all noStar=true:=by rfl) (bI:(x == ("__debug__" : Str))=false:=by decide):QE X (.Call (.Name x p) (e::es) [] pos) (uZ sp bj E t):=⟨WE F hr hg hm hk hb hd hx ha.h hs bI⟩
theorem cC {x:Str} {p pos:Pos} {e:Expr} {es:List Expr} {t:TA} {id:String} {r:List V->Hp->VK->Prop} (hc:cy X (.builtin id) r) (hm:X.mg x=none) (hv:bootBuiltins x=some (.builtin id)) (ha:QA X (e::es) t)
  (hg:Gl X x:=by rfl) (hs:(e::es).all noStar=true:=by rfl) (hn:x ≠ "__name__" := by decide) (bI:(x == ("__debug__" : Str))=false:=by decide):QE X (.Call (.Name x p) (e::es) [] pos) (mJ r t):=⟨SX hc hg hm hv ha.h hs hn bI⟩
theorem ye {x:Str} {p pos:Pos} {e:Expr} {es:List Expr} {t:TA} {T:String} {r:List V->Hp->VK->Prop} (hc:cy X (.type T) r) (hm:X.mg x=none) (hv:bootBuiltins x=some (.type T)) (ha:QA X (e::es) t)
  (hg:Gl X x:=by rfl) (hs:(e::es).all noStar=true:=by rfl) (hn:x ≠ "__name__" := by decide) (bI:(x == ("__debug__" : Str))=false:=by decide):QE X (.Call (.Name x p) (e::es) [] pos) (mJ r t):=⟨O7 hc hg hm hv ha.h hs hn bI⟩
section
variable {name:Str} {id:String} {r:V->List V->Hp->VK->Prop} {o e:Expr} {es:List Expr} {to:TE} {t:TA} {apos bw:Pos}
theorem tP (slot:Slot "str" name id) (cA:typeOf (.builtin id)=pure (.type "method_descriptor")) (hm:dD X id r) (ho:QE X o to) (ha:QA X (e::es) t)
  (hs:(e::es).all noStar=true:=by rfl) (aW:decide ((e::es).length+([]:List Keyword).length+(if ([]:List Keyword).isEmpty then 0 else 1) < 30)=true:=by rfl)
  (iO:attributeBase o name X.env (eval o X.env)=eval o X.env:=by rfl) (iM:(apos.endLine == bw.line)=true:=by rfl):QE X (.Call (.Attribute o name apos) (e::es) [] bw) (Ax r to t):=⟨T7 slot cA hm ho.h ha.h hs aW iO iM⟩
theorem iB (slot:Slot "list" name id) (cA:typeOf (.builtin id)=pure (.type "method_descriptor")) (hm:dD X id r) (ho:QE X o to) (ha:QA X (e::es) t)
  (hs:(e::es).all noStar=true:=by rfl) (aW:decide ((e::es).length+([]:List Keyword).length+(if ([]:List Keyword).isEmpty then 0 else 1) < 30)=true:=by rfl)
  (iO:attributeBase o name X.env (eval o X.env)=eval o X.env:=by rfl) (iM:(apos.endLine == bw.line)=true:=by rfl):QE X (.Call (.Attribute o name apos) (e::es) [] bw) (yg r to t):=⟨SQ slot cA hm ho.h ha.h hs aW iO iM⟩
end
theorem pE:QO X none BU:=⟨SU⟩
theorem lT (h:QE X a ta):QO X (some a) (Bj ta):=⟨TZ h.h⟩
theorem slice {r:V->Option Int->Option Int->Hp->VK->Prop} {lo hi:Option Expr} {tl th:TO} {p2:Pos} (hr:jr X r) (he:QE X a ta) (hl:QO X lo tl) (hu:QO X hi th):QE X (.Subscript a (.Slice lo hi none p2) pos) (BZ r ta tl th):=⟨Wv hr he.h hl.h hu.h⟩
theorem ix {r:R2} (hr:fR X r) (ha:QE X a ta) (hb:QE X b tb) (hs:JJ b:=by intro _ _; rfl):QE X (.Subscript a b pos) (kg r ta tb):=⟨Oz hr ha.h hb.h hs⟩
theorem lst {es:List Expr} {t:TA} (h:QA X es t):QE X (.List es pos) (z0 t):=⟨XD h.h⟩
theorem tup {es:List Expr} {x1} {t:TA} (h:QA X es t):QE X (.Tuple es x1 pos) (wM t):=⟨Xa h.h⟩
theorem mM:QE X (.Dict [] [] pos) C0:=⟨Xk⟩
theorem bY {o:CmpOp} {r:R2} (ho:aX X (compareOp o) r) (ha:QE X a ta) (hb:QE X b tb) (hm:behindInMarks o b=false:=by first | exact uV _ (by decide) (by decide) | rfl):QT X (.Compare a [o] [b] pos) (lM (kg r ta tb)):=⟨Sh ho ha.h hb.h hm⟩
theorem CU {o o':CmpOp} {f g:Int->Int->Bool} (ho:aX X (compareOp o) (je f)) (ho':aX X (compareOp o') (je g)) (ha:QE X a ta) (hb:QE X b tb) (hc:QE X c tc)
  (hm:lastMarks [o,o'] [b,c]=false:=by with_unfolding_all rfl):QT X (.Compare a [o,o'] [b,c] pos) (Ai f g ta tb tc):=⟨O2 ho ho' ha.h hb.h hc.h hm⟩
theorem cN {t:TE} (h:QE X a t) (he:∀ whole,isTrue a X.env whole=(do let v <- whole; standAt a.pos; holding [v] (truthy v)):=by intro _; rfl):QT X a (lM t):=⟨Q1 h.h he⟩
theorem dB (ha:QT X a tA):QT X (.UnaryOp .Not a pos) (yk tA):=⟨Tp ha.h⟩
theorem hX (h:QW X a tA):QT X a tA:=⟨h.h.pt⟩
theorem vT (ha:QT X a tA):QW X (.BoolOp .And [a] pos) tA:=⟨Zo ha.h⟩
theorem lJ (ha:QT X a tA):QW X (.BoolOp .Or [a] pos) tA:=⟨Qn ha.h⟩
theorem w_and (ha:QT X a tA) (hb:QW X (.BoolOp .And (b::rest) pos) tB'):QW X (.BoolOp .And (a::b::rest) pos) (zh tA tB'):=⟨YR ha.h hb.h⟩
theorem w_or (ha:QT X a tA) (hb:QW X (.BoolOp .Or (b::rest) pos) tB'):QW X (.BoolOp .Or (a::b::rest) pos) (zr tA tB'):=⟨Tv ha.h hb.h⟩
variable {st:Stmt} {MH:List Stmt} {t u:TS} {tg:Expr} {g:TG}
theorem fD (i:Nat) {x:Str} (hN:X.N.Nodup) (hi:X.N[i]?=some x:=by rfl) (hx:Loc X.env.scope x:=by first | exact Or.inl rfl | exact Or.inr rfl) (hf:X.fn x=true\/X.env.scope.names.lookup x=some .local:=by first | exact .inl rfl | exact .inr rfl):QG X (.Name x pos) (fJ i):=⟨Ss hN hi hx hf⟩
theorem u9 {o i:Expr} {to ti:TE} {s:sH} (ho:QE X o to) (hi:QE X i ti) (hs:wb X s) (ha:∀ v,assign (.Subscript o i pos) X.env v=(do
   let ov <- holding [v] (eval o X.env)
   let iv <- holding [v,ov] (eval i X.env)
   standAt pos
   holding [v,ov,iv] (setItem ov iv v)
   release [v,ov,iv] []):=by intro _; rfl):QG X (.Subscript o i pos) (Bk to ti s):=⟨Vz ho.h hi.h hs ha⟩
theorem F5:uQ X [] zb:=⟨OT⟩
theorem uT {e:Expr} {es:List Expr} {t:TG} {u:iW} (h1:QG X e t) (h2:uQ X es u) (hs:(assignEach (e::es) X.env).map (·.2)=assign e X.env::(assignEach es X.env).map (·.2):=by rfl):uQ X (e::es) (zH t u):=⟨ZS h1.h h2.h hs⟩
theorem G9 {K:PySem.W.Frag} {es:List Expr} {k:Nat} {t:iW} {n:Nat} (hK:X.K=K) (hc:X.calm=true) (h:uQ X es t) (hn:(assignEach es X.env).length=n:=by rfl) (aR:(assignEach es X.env).findIdx? (·.1)=none:=by rfl):QG X (.Tuple es k pos) (yx K n t):=hK ▸ ⟨Vd hc h.h hn aR⟩
theorem aQ (i:Nat) {x:Str} {e:Expr} {te:TE} {pos':Pos} (hN:X.N.Nodup) (he:QE X e te) (hi:X.N[i]?=some x:=by rfl) (hx:Loc X.env.scope x:=by first | exact Or.inl rfl | exact Or.inr rfl) (hs:swapsWith e (some (.Name x pos')) pos.line X.env=pure false:=by rfl)
  (hf:X.fn x=true\/X.env.scope.names.lookup x=some .local:=by first | exact .inl rfl | exact .inr rfl):QS X (.Assign [.Name x pos'] e pos) (lI te (fJ i)):=⟨Yj hN hi hx he.h hs hf⟩
theorem qV {e:Expr} {te:TE} (he:QE X e te) (hg:QG X tg g) (hs:swapsWithSole [tg] e pos.line X.env=pure false:=by rfl) (hw:swappedStores [tg] e X.env=pure none:=by rfl) (h1:(assignEach [tg] X.env).map (·.2)=[assign tg X.env]:=by rfl) :
  QS X (.Assign [tg] e pos) (lI te g):=⟨VP he.h hg.h hs hw h1⟩
theorem aN (he:QE X a ta):QS X (.Return (some a) pos) (B9 ta):=⟨NR he.h⟩
theorem Kd:QS X (.Return none pos) Bh:=⟨T1⟩
theorem aY (he:QE X a ta) (hs:swapsWith a none pos.line X.env=pure false:=by rfl):QS X (.Expr a pos) (CL ta):=⟨OZ he.h hs⟩
theorem bB {A B:List Stmt} (hc:QT X a tA) (ha:QB X A t) (hb:QB X B u):QS X (.If a A B pos) (B2 tA t u):=⟨W5 hc.h ha.h hb.h⟩
theorem m6 {iter:Expr} {body:List Stmt} {wi:TI} {tb:TS} (hp:PassesOwn (model X.prog X.w) X.A X.env X.xe) (hc:X.calm=true) (hi:QI X tg iter wi) (hg:QG X tg g) (hb:QB X body tb) (hs:∀ x,foldedSetIterable iter X.env x=pure x:=by intro _; rfl) :
  QS X (.For tg iter body [] pos) (yR wi g tb):=⟨P6 hp hc hi.h hg.h hb.h hs⟩
theorem nil:QB X [] BE:=⟨Rw⟩
theorem aq (h1:QS X st t):QB X [st] t:=⟨Sd h1.h⟩
theorem cut (h1:QS X st t) (h2:QB X MH u):QB X (st::MH) (rq t u):=⟨NY h1.h h2.h⟩
theorem mO {K:PySem.W.Frag} {l:Expr} {tl:TE} (h:X.K=K) (hl:QE X l tl):QI X tg l (yK K tl):=h ▸ ⟨aag hl.h⟩
theorem F6 {l:Expr} {tl:TE} (hl:QE X l tl):QI X tg l (zJ tl):=⟨OW hl.h⟩
theorem zj {ta:TA} {p:Pos} (hm:X.mg "range" = none) (ha:QA X [a] ta) (hg:Gl X "range" := by rfl) (hs:noStar a=true:=by rfl):QI X tg (.Call (.Name "range" p) [a] [] pos) (Cw ta):=⟨VJ hg hm ha.h (fi hs)⟩
theorem zx:pO X [] nH:=⟨Z6⟩
theorem G4 (h:QT X c tA):pO X [c] tA:=⟨RY h.h⟩
end
end Dv
end L2
namespace Tx
open PySem PySem.Builtin PySem.StrLaws
theorem yv {c a:Nat} (h:a=c) (r:List Nat):cut c (a::r)=[]::cut c r:=if_pos h
theorem FX {c a:Nat} {r:List Nat} {x:List Nat} {y:List (List Nat)} (h:¬ a=c) (e:cut c r=x::y):cut c (a::r)=(a::x)::y:=by
 show (if a=c then _ else _)=_;rw [if_neg h,e]
theorem Hq (c:Nat):∀ (t r:List Nat),cut c (t++c::r)=cut c t++cut c r
 | [],r=>yv rfl r
 | a::t,r=>by
  have ih:=Hq c t r;show cut c (a::(t++c::r))=_;by_cases h:a=c
  ·rw [yv h,yv h,ih]; rfl
  ·cases e:cut c t with
   | nil=>exact absurd e (UE c t)
   | cons x y =>
    rw [e] at ih;rw [FX h ih,FX h e]; rfl
def words (c:Nat) (t:List Nat):List (List Nat):=(cut c t).filter fun w=>decide (w≠[])
theorem z9 (c:Nat) (t r:List Nat):words c (t++c::r)=words c t++words c r:=by
 unfold words;rw [Hq,List.filter_append]
theorem E7 (c:Nat) (r:List Nat):words c (c::r)=words c r:=z9 c [] r
theorem Kl (c:Nat) (r:List Nat):∀ n:Nat,words c (List.replicate n c++r)=words c r
 | 0=>rfl
 | n+1=>by
  show words c (c::(List.replicate n c++r))=_;rw [E7,Kl c r n]
theorem HG (c:Nat):∀ w:List Nat,c ∉ w->cut c w=[w]
 | [],_=>rfl
 | a::r,h=>by
  unfold cut;rw [if_neg (fun e=>h (by rw [e]; exact List.mem_cons_self)),HG c r (fun m=>h (List.mem_cons_of_mem _ m))]
theorem GV (c:Nat) (w:List Nat) (h:c ∉ w) (hn:w≠[]):words c w=[w]:=by
 unfold words;rw [HG c w h];simp [hn]
theorem Cu (c:Nat):∀ t:List Nat,(cut c t).length<=t.length+1
 | []=>Nat.le_refl _
 | a::r=>by
  have ih:=Cu c r;unfold cut;split
  ·simp only [List.length_cons]; omega
  ·split
   ·simp
   ·rename_i h t' e;rw [e] at ih;simp only [List.length_cons] at ih ⊢;omega
theorem US (t:List Nat) (c:Nat):((cut c t).map S).filter (fun z=>decide (z≠S []))=(words c t).map S:=by
 unfold words;rw [List.filter_map]
 congr 1
 refine List.filter_congr fun w _=>?_;show decide (S w≠S [])=decide (w≠[]);by_cases h:w=[]
 ·simp [h]
 ·have:S w≠S []:=fun e=>h (La e);simp [h,this]
theorem Vy (x:List Nat) (c:Nat):Txt.startswith (S x) (S [c])=decide (x.head?=some c):=by
 unfold Txt.startswith;rw [cY,cY];cases x with
 | nil=>simp
 | cons a r =>
  rw [subAt_one (a::r) c 0 (by simp)];simp
theorem Qm (x:List Nat) (c:Nat):Txt.endswith (S x) (S [c])=decide (x.getLast?=some c):=by
 unfold Txt.endswith;rw [cY,cY];cases hx:x with
 | nil=>simp
 | cons a r =>
  have hl:(a::r).length - [c].length < (a::r).length:=by simp
  rw [subAt_one (a::r) c _ hl];have e:(a::r)[(a::r).length - [c].length]?=(a::r).getLast?:=by
   rw [List.getLast?_eq_getElem?]; rfl
  rw [e];have:decide (0+[c].length<=(a::r).length)=true:=decide_eq_true (by simp);rw [this,Bool.true_and]
end Tx
namespace L2
open PySem PySem.Spec PyProof.Rows
theorem JA {A:Around} {s:Shared} {l1 l2:List (Str×Tok)} (j:Nat) (h1:j < (strValues l1).toArray.size) (h2:j < (strValues l2).toArray.size) :
  SeqAt.EqAt A s (strValues l1).toArray[j] (strValues l2).toArray[j] (decide ((l1.map (·.1))[j]?=(l2.map (·.1))[j]?)):=by
 have g1:j < l1.length:=by simpa [strValues] using h1
 have g2:j < l2.length:=by simpa [strValues] using h2
 have e1:(strValues l1).toArray[j]=Value.str l1[j].1 l1[j].2:=by simp [strValues]
 have e2:(strValues l2).toArray[j]=Value.str l2[j].1 l2[j].2:=by simp [strValues]
 rw [e1,e2];have e:decide ((l1.map (·.1))[j]?=(l2.map (·.1))[j]?)=(l1[j].1 == l2[j].1):=by
  rw [List.getElem?_map,List.getElem?_map,List.getElem?_eq_getElem g1,List.getElem?_eq_getElem g2];by_cases q:l1[j].1=l2[j].1
  ·simp [q]
  ·simp [q]
 rw [e];exact SeqAt.EqAt.str_str _ _ _ _
theorem all_eq {α:Type} [DecidableEq α] {xs ys:List α} (h:xs.length=ys.length):(List.range xs.length).all (fun j=>decide (xs[j]?=ys[j]?))=decide (xs=ys):=by
 rw [Bool.eq_iff_iff,List.all_eq_true,decide_eq_true_eq];constructor
 ·intro q;apply List.ext_getElem?;intro i;by_cases hi:i < xs.length
  ·exact of_decide_eq_true (q i (List.mem_range.mpr hi))
  ·rw [List.getElem?_eq_none (by omega),List.getElem?_eq_none (by omega)]
 ·rintro rfl j _;simp
section
variable {X:Cx}
theorem Iy {pins:List (Addr×Obj)} {σ:St} {H:Hp} {s:Shared} {A:Around} {a b:Addr} {ts us:List Str} (I:Inv X pins σ H s) (ha:H a=some (.lst (ts.map V.str))) (hb:H b=some (.lst (us.map V.str))) (hu:A.units < cLine) :
  SeqAt.RcAt A s (.ref a) (.ref b) (decide (ts=us))/\SeqAt.RcNeAt A s (.ref a) (.ref b) (!decide (ts=us)):=by
 obtain ⟨i1,r1,p1,_⟩:=I.list (aC.of ha);obtain ⟨i2,r2,p2,_⟩:=I.list (aC.of hb);obtain ⟨l1,rfl,e1⟩:=vk r1;obtain ⟨l2,rfl,e2⟩:=vk r2;have n1:(strValues l1).toArray.size=ts.length:=by rw [<- e1]; simp [strValues]
 have n2:(strValues l2).toArray.size=us.length:=by rw [<- e2]; simp [strValues]
 by_cases h:ts.length=us.length
 ·have hsz:(strValues l1).toArray.size=(strValues l2).toArray.size:=by rw [n1,n2,h]
  have k1:=SeqAt.RcAt.lists (A:=A) p1.isList p2.isList hsz hu (fun j g1 g2=>JA j g1 g2);have k2:=SeqAt.RcNeAt.lists (A:=A) p1.isList p2.isList hsz hu (fun j g1 g2=>JA j g1 g2);rw [n1,e1,e2,all_eq h] at k1 k2;exact ⟨k1,k2⟩
 ·have hsz:((strValues l1).toArray.size != (strValues l2).toArray.size)=true:=by rw [n1,n2]; simpa using h
  have e:decide (ts=us)=false:=decide_eq_false fun z=>h (by rw [z]);rw [e];exact ⟨SeqAt.RcAt.lists_lengths p1.isList p2.isList hsz hu,SeqAt.RcNeAt.lists_lengths p1.isList p2.isList hsz hu⟩
def oV (neg:Bool):R2:=fun x y H Q=>match x,y with
 | .ref a,.ref b=>∃ ts us:List Str,H a=some (.lst (ts.map V.str))/\H b=some (.lst (us.map V.str))/\Q (.bl (neg ^^ decide (ts=us))) H
 | _,_=>False
theorem Uc (hu:X.A.units < cLine):aX X (compareOp .Eq) (oV false):=by
 intro pins s σ H x y v u Q I rx ry h;unfold oV at h;split at h
 ·obtain ⟨ts,us,ha,hb,q⟩:=h;cases rx; cases ry;simp only [Bool.false_bne] at q;exact (Iy I ha hb hu).1 _ _ _ _ ⟨.bl _,H,I,rfl,q⟩
 ·exact h.elim
theorem RQ (hu:X.A.units < cLine):aX X (compareOp .NotEq) (oV true):=by
 intro pins s σ H x y v u Q I rx ry h;unfold oV at h;split at h
 ·obtain ⟨ts,us,ha,hb,q⟩:=h;cases rx; cases ry;simp only [Bool.true_bne] at q;exact (Iy I ha hb hu).2 _ _ _ _ ⟨.bl _,H,I,rfl,q⟩
 ·exact h.elim
theorem Dv.iA {st:Stmt}:QS X st Cb:=⟨Rk⟩
end
def zX:V->Hp->VK->Prop:=fun x H Q=>match x with
 | .int i=>Q (.int (-i)) H
 | _=>False
theorem iU {X:Cx}:sY X (unaryOp .USub) zX:=fun pins s σ H x v Q I rx h=>Sk pins s σ H x v Q I rx (by
 unfold zX at h;split at h
 ·exact ⟨_,rfl,h⟩
 ·exact h.elim)
theorem S0 (r:List V) (x:V):fc (r++[x]) Option.none (some (-1))=r:=by
 unfold fc;have e1:HT.cM (r++[x]).length (r++[x]).length (some (-1))=r.length:=by
  unfold HT.cM;simp;omega
 rw [HT.BS,e1];simp
section
variable {X:Cx} {K:PySem.W.Frag}
def Yh (K:PySem.W.Frag):List V->Hp->VK->Prop:=fun xs H Q=>match xs with
 | [.ref p]=>∃ ys,aC K H p ys/\Q (.int ys.length) H
 | _=>False
def Ox (K:PySem.W.Frag):R2:=fun x y H Q=>match x,y with
 | .ref p,.int i=>∃ xs v,aC K H p xs/\cO xs i=some v/\Q v H
 | _,_=>False
end
end L2
namespace L2
open PySem
open Sem (wp)
def cS (e:Addr) (c:Value) (od:Option Addr) (h:Heap):Prop:=∃ o,h.get? e=some o/\o.cls=c/\o.dict=od/\∃ vs,o.data=.fields vs
structure Kp (e:Addr) (c:Value) (od:Option Addr) {α:Type} (t:Sem α):Prop where
 out:∀ (M:Model) (Γ:Ctx) (P:α->Pos->Shared->Prop) (Ee:Value->Pos->Shared->Prop) (p:Pos) (s:Shared),cS e c od s.heap->wp M Γ t P Ee p s->wp M Γ t (fun a p' s'=>P a p' s'/\cS e c od s'.heap) Ee p s
section
variable {e:Addr} {c:Value} {od:Option Addr} {α β:Type}
theorem Kp.pure (a:α):Kp e c od (Pure.pure a:Sem α):=⟨fun _ _ _ _ _ _ hd h=>⟨h,hd⟩⟩
theorem Kp.unsupported (w:String):Kp e c od (PySem.unsupported w:Sem α):=⟨fun _ _ _ _ _ _ _ h=>h⟩
theorem Kp.bind {m:Sem α} {f:α->Sem β} (hm:Kp e c od m) (hf:∀ a,Kp e c od (f a)):Kp e c od (m >>= f):=⟨fun M Γ P Ee p s hd h=>by
 rw [Sem.wp_bind'] at h ⊢;exact Sem.wp_mono M Γ m (fun a p' s' h'=>(hf a).out M Γ P Ee p' s' h'.2 h'.1) (fun _ _ _ x=>x) p s (hm.out M Γ _ Ee p s hd h)⟩
theorem Kp.ite {q:Prop} [Decidable q] {t u:Sem α} (ht:Kp e c od t) (hu:Kp e c od u):Kp e c od (if q then t else u):=by split <;> assumption
theorem Kp.load (a:Addr):Kp e c od (PySem.load a):=⟨fun _ _ _ _ _ _ hd h=>let ⟨o,ho,z⟩:=h; ⟨o,ho,z,hd⟩⟩
theorem Kp.stack:Kp e c od PySem.stack:=⟨fun M Γ P Ee p s hd h=>by
 unfold PySem.stack at h ⊢;rw [Sem.wp_stack] at h ⊢;exact ⟨h,hd⟩⟩
theorem cS.push {h:Heap} (x:cS e c od h) (o:Obj):cS e c od (h.push o):=let ⟨u,hu,r⟩:=x; ⟨u,Heap.get?_push_of_some _ hu,r⟩
theorem cS.update {h:Heap} (x:cS e c od h) (a:Addr) (f:Obj->Obj) (hf:∀ o,(f o).cls=o.cls/\(f o).dict=o.dict/\∀ vs,o.data=.fields vs->∃ ws,(f o).data=.fields ws):cS e c od (h.update a f):=by
 obtain ⟨u,hu,h1,h2,vs,h3⟩:=x;by_cases q:a=e
 ·subst q;obtain ⟨ws,h4⟩:=(hf u).2.2 vs h3;exact ⟨f u,Heap.get?_update_self f hu (Obj.isFreed_of_fields h4),(hf u).1.trans h1,(hf u).2.1.trans h2,ws,h4⟩
 ·exact ⟨u,(Heap.get?_update_other _ _ q).trans hu,h1,h2,vs,h3⟩
theorem Kp.update (a:Addr) (f:Obj->Obj) (hf:∀ o,(f o).cls=o.cls/\(f o).dict=o.dict/\∀ vs,o.data=.fields vs->∃ ws,(f o).data=.fields ws):Kp e c od (PySem.update a f) :=
 ⟨fun _ _ _ _ _ _ hd h=>⟨h.1,h.2,hd.update a f hf⟩⟩
theorem Sw (g:Array Value->Array Value) (o:Obj):(Obj.mapFields g o).cls=o.cls/\(Obj.mapFields g o).dict=o.dict/\∀ vs,o.data=.fields vs->∃ ws,(Obj.mapFields g o).data=.fields ws:=by
 obtain ⟨c1,d1,dt,sl⟩:=o;refine ⟨Obj.cls_mapFields _ _,?_,fun vs h=>⟨_,Obj.data_mapFields h g⟩⟩;cases dt <;> rfl
theorem Kp.alloc (o:Obj):Kp e c od (PySem.alloc o):=⟨fun _ _ _ _ _ _ hd h=>⟨h,hd.push o⟩⟩
theorem Kp.field (v:Value) (i:Nat):Kp e c od (PySem.field v i):=⟨fun _ Γ _ _ _ _ hd h=>by
 rw [wp_field_iff] at h ⊢;obtain ⟨a,o,vs,x,h1,h2,h3,h4,h5⟩:=h;exact ⟨a,o,vs,x,h1,h2,h3,h4,h5,hd⟩⟩
theorem Kp.setField (v:Value) (i:Nat) (x:Value):Kp e c od (PySem.setField v i x):=⟨fun _ Γ _ _ _ _ hd h=>by
 rw [wp_setField_iff] at h ⊢;obtain ⟨a,o,vs,h1,h2,h3,h4,h5⟩:=h;exact ⟨a,o,vs,h1,h2,h3,h4,h5,hd.update a _ (Sw _)⟩⟩
local macro_rules | `(tactic| walk_at "kps")=>`(tactic| repeat' with_reducible first | assumption | exact Kp.pure _ | exact Kp.unsupported _ | exact Kp.field _ _ | exact Kp.setField _ _ _ | exact Kp.load _ | exact Kp.stack | exact Kp.alloc _ | apply Kp.ite | apply Kp.bind | intro _ | split)
theorem Kp.newFields (ty:String) (vs:List Value):Kp e c od (PySem.newFields ty vs):=by
 unfold PySem.newFields newObj newObjAsIs;walk_at "kps"
theorem Kp.frameEnvs:Kp e c od PySem.frameEnvs:=by
 unfold PySem.frameEnvs;walk_at "kps"
theorem Kp.isImport (env:Env) (outer:List Env):Kp e c od (behindIsImport env outer):=by
 unfold behindIsImport;walk_at "kps"
theorem Kp.caller:Kp e c od underTheClaimsCaller:=by
 unfold underTheClaimsCaller;walk_at "kps"
theorem Kp.keptBack (env:Env) (i:Bool) (l:List Env):Kp e c od (PySem.keptBack env i l):=by
 have:=Kp.caller (e:=e) (c:=c) (od:=od);cases l <;> unfold PySem.keptBack <;> walk_at "kps"
theorem Kp.ready:∀ l:List Env,Kp e c od (readyFrames l)
 | []=>Kp.pure _
 | env::outer=>by
  have ih:=Kp.ready outer;have h1:=Kp.isImport (e:=e) (c:=c) (od:=od) env outer;have h2:=fun i=>Kp.keptBack (e:=e) (c:=c) (od:=od) env i outer;unfold readyFrames;walk_at "kps"
  all_goals first | exact h2 _ | exact Kp.update _ _ (fun o=>⟨rfl,rfl,fun vs h=>⟨vs,h⟩⟩) | skip
theorem Kp.frameObject (l:List Env):Kp e c od (PySem.frameObject l):=by
 cases l with
 | nil=>exact Kp.pure _
 | cons env outer =>
  have:=Kp.ready (e:=e) (c:=c) (od:=od) (env::outer);unfold PySem.frameObject;walk_at "kps"
theorem Kp.frameOf (env:Env):Kp e c od (PySem.frameOf env):=by
 have h1:=Kp.frameEnvs (e:=e) (c:=c) (od:=od);have h2:=Kp.frameObject (e:=e) (c:=c) (od:=od);unfold PySem.frameOf;walk_at "kps"
 all_goals first | exact h2 _ | skip
theorem Kp.place (f:Addr) (b:Bool):Kp e c od (entryPlaceOf f b):=by
 unfold entryPlaceOf;walk_at "kps"
theorem Kp.setFlight (v:Value) (fr:Option Addr):Kp e c od (PySem.setFlight v fr):=by
 unfold PySem.setFlight;walk_at "kps"
theorem Kp.noteFrame (v:Value) (env:Env):Kp e c od (PySem.noteFrame v env):=by
 have h1:=Kp.frameOf (e:=e) (c:=c) (od:=od) env;have h2:=fun f b=>Kp.place (e:=e) (c:=c) (od:=od) f b;unfold PySem.noteFrame EntryCells.newEntry;walk_at "kps"
 all_goals first | exact h2 _ _ | exact Kp.newFields _ _ | skip
theorem Kp.leaving (env:Env) (v:Value):Kp e c od (PySem.leaving env v):=by
 have h1:=Kp.noteFrame (e:=e) (c:=c) (od:=od) v env;have h2:=Kp.setFlight (e:=e) (c:=c) (od:=od) v none;unfold PySem.leaving;walk_at "kps"
theorem Kp.any {t:Sem α} (k:Kp e c od t) {M:Model} {A:Around} {Q:α->Shared->Prop} {E:Value->Shared->Prop} {s:Shared} (hd:cS e c od s.heap) (h:wpAny M A t Q E s):wpAny M A t (fun a s'=>Q a s'/\cS e c od s'.heap) E s :=
 fun Γ p hΓ=>k.out M Γ _ _ p s hd (h Γ p hΓ)
end
end L2
namespace L2
theorem Su (xs:List V) (k:Nat):fc xs none (some (k:Int))=xs.take k:=by
 unfold fc;rw [HT.BS,HT.AO,List.drop_zero,Nat.sub_zero];by_cases h:k<=xs.length
 ·rw [Nat.min_eq_left h]
 ·rw [Nat.min_eq_right (by omega),List.take_of_length_le (Nat.le_refl _),List.take_of_length_le (by omega)]
theorem G0 (xs:List V) (k:Nat):fc xs (some (k:Int)) none=xs.drop k:=by
 unfold fc;rw [HT.BS,HT.AO];by_cases h:k<=xs.length
 ·rw [Nat.min_eq_left h,List.take_of_length_le (by rw [List.length_drop]; exact Nat.le_refl _)]
 ·rw [Nat.min_eq_right (by omega),List.drop_eq_nil_of_le (Nat.le_refl _),List.drop_eq_nil_of_le (by omega)];simp
end L2
namespace L2
open PySem PySem.Spec PyProof.Rows
theorem bH.there {P:Program} {w:World} {H:Hp} {h:Heap} {a:Addr} {o:HO} (x:bH P w H h a o):∃ u,h.get? a=some u:=by
 cases o with
 | lst xs=>obtain ⟨_,_,_,_,e⟩:=x; exact ⟨_,e⟩
 | tup xs=>obtain ⟨_,_,_,u,e,_⟩:=x; exact ⟨_,e⟩
 | dK kvs=>obtain ⟨_,_,_,_,o,_,_,e,_⟩:=x; exact ⟨_,e⟩
 | dT kvs=>obtain ⟨_,_,_,_,o,_,_,e,_⟩:=x; exact ⟨_,e⟩
 | set S n=>obtain ⟨o,_,_,_,e,_⟩:=x; exact ⟨_,e⟩
 | ins C dx fs=>obtain ⟨_,_,_,e,_⟩:=x; exact ⟨_,e⟩
 | own y=>exact x
 | xd fs=>obtain ⟨_,⟨_,_,_,e,_⟩,_⟩:=x; exact ⟨_,e⟩
 | vh lo hi=>obtain ⟨_,_,_,e⟩:=x; exact ⟨_,e⟩
 | eA ob u=>obtain ⟨e,_⟩:=x; exact ⟨_,e⟩
 | lY ps=>exact ⟨_,(show h.get? a=some _ from x)⟩
 | met f y=>exact ⟨_,(show h.get? a=some _ from x)⟩
 | ext φ=>obtain ⟨_,e,_⟩:=x; exact e
def rg (B:Heap) (fs:List Addr) (h:Heap) (H':Hp) (h':Heap):Prop :=
 ∀ b o,h'.get? b=some o->b ∉ fs->((∃ u,h.get? b=some u)\/∃ u,H' b=some u)->B.get? b=some o
theorem J7 {P:Program} {w:World} {fs:List Addr} {H H':Hp} {h h1 h2 B:Heap} (u:Un fs [] H H' h h1) (aA:bZ P w H' h1) (hf:∀ b∈fs,H b=none/\∃ o,h.get? b=some o/\∀ vs,o.data≠.fields vs) (gp:rg B fs h H' h1)
  (st:B.StaysIn h2) (up:h1.UpToSlots h2):Un fs [] H H' h h2/\bZ P w H' h2:=by
 have kB:∀ b o,h1.get? b=some o->b ∉ fs->((∃ u,h.get? b=some u)\/∃ u,H' b=some u)->h2.get? b=some o:=fun b o e hb z=>st b o (gp b o e hb z);have fr:∀ b∈fs,∀ o,h.get? b=some o->∃ sl,h2.get? b=some { o with slots:=sl }:=fun b hb o e=>by
  obtain ⟨n,o',e',nf⟩:=hf b hb;rw [e] at e'; cases e';obtain ⟨sl,e1⟩:=u.slot b o e n hb (by simp);obtain ⟨sl',e2⟩:=up b _ e1 nf;exact ⟨sl',e2⟩
 refine ⟨⟨fun b o q n hb hx=>kB b o (u.keep b o q n hb hx) hb (.inl ⟨o,q⟩),fun b o q n hb hx=>fr b hb o q,u.free,fun b o q hx=>?_,u.fS,u.fg,u.fH⟩,fun a v e=>?_⟩
 ·by_cases hb:b∈fs
  ·obtain ⟨sl,e⟩:=fr b hb o q;exact ⟨_,e⟩
  ·obtain ⟨o',e1⟩:=u.there b o q hx;exact ⟨o',kB b o' e1 hb (.inl ⟨o,q⟩)⟩
 ·have tr:∀ b,(∃ u,H' b=some u)->b ∉ fs:=fun b ⟨v',e'⟩ hb=>by
   obtain ⟨n,o,ho,_⟩:=hf b hb;have:=u.free b o ho n (by simp);rw [e'] at this; cases this
  refine (aA a v e).gg (fun b x hb q=>?_) (fun _ q=>q) fun _ _ q=>q;have hs:∃ u,H' b=some u:=by
   rcases hb with rfl | hb
   ·exact ⟨v,e⟩
   ·exact ⟨_,hb⟩
  exact kB b x q (tr b hs) (.inr hs)
structure mW (P:Program) (w:World) (outer:List Env) (H:Hp) (s:Shared) (ea C:Addr) (od:Option Addr) (H':Hp) (s':Shared):Prop where
 os:s'.os=s.os
 bare:AllBare s'.gens
 un:Un (bF outer) [] H H' s.heap s'.heap
 aA:bZ P w H' s'.heap
 free:H' ea=none
 new:s.heap.get? ea=none
 hd:cS ea (.ref C) od s'.heap
 He:∃ B a0,Heap.FlyingW B outer ea (.ref C) a0 s'.heap/\rg B (bF outer) s.heap H' s'.heap
def bJ (P:Program) (w:World):dA:=fun outer H s E e s'=>∃ ea C od H',e=.ref ea/\mW P w outer H s ea C od H' s'/\E (.ref C) od H'
section
variable {X:Cx} {pins:List (Addr×Obj)} {σ:St} {H H':Hp} {s s':Shared} {ea C:Addr} {od:Option Addr}
theorem Inv.GU (I:Inv X pins σ H s):∀ b∈bF X.stack,H b=none/\∃ o,s.heap.get? b=some o/\∀ vs,o.data≠.fields vs:=fun b hb=>⟨I.uG b hb,(I.stack.mem hb).2⟩
structure Own (X:Cx):Prop where
 df:X.stack=X.env::X.outer
 frame:X.env.frame=some X.env.locals
 ex:X.ex=[]
theorem Inv.CP {h1 B:Heap} {a0:Value} (I:Inv X pins σ H s) (O:Own X) (os:s'.os=s.os) (bare:AllBare s'.gens) (un:Un (bF X.stack) [] H H' s.heap h1) (aA:bZ X.prog X.w H' h1) (free:H' ea=none) (new:s.heap.get? ea=none)
  (gp:rg B (bF X.stack) s.heap H' h1) (fl:Heap.FlyingW B X.outer ea (.ref C) a0 s'.heap) (up:h1.UpToSlots s'.heap) (hd:cS ea (.ref C) od s'.heap):mW X.prog X.w X.outer X.H₀ X.s₀ ea C od H' s':=by
 obtain ⟨u2,hok2⟩:=J7 un aA I.GU gp fl.1 up;have Ey:bF X.stack=X.env.locals::X.fs:=by
  rw [O.df];unfold bF;rw [List.filterMap_cons,O.frame];rfl
 have ub:∀ b o,X.s₀.heap.get? b=some o->b≠X.env.locals:=fun b o e=>Nat.ne_of_lt (Nat.lt_of_lt_of_le (Heap.lt_size e) I.ok.above);have nx:∀ b:Addr,b ∉ X.ex:=fun b=>by rw [O.ex]; simp
 have fv:∀ b o,X.s₀.heap.get? b=some o->b ∉ X.fs->b ∉ bF X.stack:=fun b o e hb z=>by
  rw [Ey] at z;rcases List.mem_cons.mp z with q | q
  ·exact ub b o e q
  ·exact hb q
 have Lfree:H' X.env.locals=none:=by
  obtain ⟨m,⟨o,_,_,ho,_⟩,_⟩:=I.loc;exact un.free _ o ho I.free (by simp)
 refine ⟨os.trans I.os,bare,⟨fun b o q n hb _=>?_,fun b o q n hb _=>?_,fun b o q n _=>?_,fun b o q _=>?_,fun b xs q=>?_,fun b o v q=>?_,fun b ps q=>?_⟩,hok2,free,?_,hd,B,a0,fl,fun b o e hb z=>?_⟩
 ·exact u2.keep b o (I.base.keep b o q n hb (nx b)) (I.base.free b o q n (nx b)) (fv b o q hb) (by simp)
 ·obtain ⟨sl,e1⟩:=I.base.slot b o q n hb (nx b);obtain ⟨sl',e2⟩:=u2.slot b _ e1 (I.base.free b o q n (nx b)) (by rw [Ey]; exact List.mem_cons_of_mem _ hb) (by simp);exact ⟨sl',e2⟩
 ·obtain ⟨o',e1⟩:=I.base.there b o q (nx b);exact u2.free b o' e1 (I.base.free b o q n (nx b)) (by simp)
 ·obtain ⟨o',e1⟩:=I.base.there b o q (nx b);exact u2.there b o' e1 (by simp)
 ·exact u2.fS b xs (I.base.fS b xs q)
 ·exact u2.fg b o v (I.base.fg b o v q)
 ·obtain ⟨m1,e1⟩:=I.base.fH b ps q;obtain ⟨m2,e2⟩:=u2.fH b _ e1;exact ⟨m1++m2,by rw [e2,Array.append_assoc]⟩
 ·cases q:X.s₀.heap.get? ea with
  | none=>rfl
  | some u =>
   obtain ⟨u',e'⟩:=I.base.there ea u q (nx ea);rw [new] at e'; cases e'
 ·have hn:b ∉ bF X.stack:=fun z'=>by
   rw [Ey] at z';rcases List.mem_cons.mp z' with q | q
   ·rcases z with ⟨o',e'⟩ | ⟨v,e'⟩
    ·exact ub b o' e' q
    ·rw [q,Lfree] at e'; cases e'
   ·exact hb q
  have hs:∃ o',h1.get? b=some o'/\((∃ u,s.heap.get? b=some u)\/∃ u,H' b=some u):=by
   rcases z with ⟨o',e'⟩ | ⟨v,e'⟩
   ·obtain ⟨o2,e2⟩:=I.base.there b o' e' (nx b);obtain ⟨o3,e3⟩:=un.there b o2 e2 (by simp);exact ⟨o3,e3,.inl ⟨o2,e2⟩⟩
   ·obtain ⟨o3,e3⟩:=(aA b v e').there;exact ⟨o3,e3,.inr ⟨v,e'⟩⟩
  obtain ⟨o3,e3,z3⟩:=hs;have e4:=gp b o3 e3 hn z3;have e5:=fl.1 b o3 e4;rw [e] at e5; cases e5;exact e4
theorem Inv.Hc {M:Model} {A:Around} {E:Value->Shared->Prop} (I:Inv X pins σ H s) (O:Own X) (hA:A.frames=some X.stack) (F:mW X.prog X.w X.stack H s ea C od H' s') :
  wpAny M A (leaving X.env (.ref ea)) (fun _ s''=>mW X.prog X.w X.outer X.H₀ X.s₀ ea C od H' s'') E s':=by
 obtain ⟨B,a0,fl,gp⟩:=F.He;have fl':=fl;rw [O.df] at fl' hA;refine aD ((Kp.leaving X.env (.ref ea)).any F.hd (wpAny_leaves_onW (Q:=fun _ s''=>∃ h',s''={ s' with heap:=h' }/\Heap.FlyingW B X.outer ea (.ref C) a0 h'/\s'.heap.UpToSlots h') hA O.frame fl' fun h' x1 x2=>⟨h',rfl,x1,x2⟩)) fun _ s'' ⟨⟨h',e,x1,x2⟩,hd⟩=>?_;subst e;exact I.CP (s':={ s' with heap:=h' }) O F.os F.bare F.un F.aA F.free F.new gp x1 x2 hd
theorem IF {h h':Heap} {e:Addr} {cls:Value} {args:List Value} (hx:Heap.MadeExcOf h h' e cls args):cS e cls none h':=by
 obtain ⟨t,he,_⟩:=hx.there;exact ⟨_,he,rfl,rfl,_,rfl⟩
theorem Inv.Yw {M:Model} {A:Around} {E:Value->Shared->Prop} {h':Heap} {vs:List Value} (I:Inv X pins σ H s) (O:Own X) (hA:A.frames=some X.stack) (hx:Heap.MadeExcOf s.heap h' ea (.ref C) vs) :
  wpAny M A (leaving X.env (.ref ea)) (fun _ s''=>mW X.prog X.w X.outer X.H₀ X.s₀ ea C none H s'') E { s with heap:=h' }:=by
 have aR:(PySem.W.hideAll s.heap (bF X.stack)).StaysIn s.heap:=fun b o q=>PySem.W.of_hideAll _ q;have kS:s.heap.FunFrames (PySem.W.hideAll s.heap (bF X.stack)) X.stack:=PySem.W.funFrames_hide I.stack fun env he a ha=>List.mem_filterMap.mpr ⟨env,he,ha⟩;have mz:H ea=none:=by
  cases q:H ea with
  | none=>rfl
  | some u =>
   obtain ⟨o,e⟩:=(I.aA ea u q).there;have:=hx.new;rw [e] at this; cases this
 have gp:rg (PySem.W.hideAll s.heap (bF X.stack)) (bF X.stack) s.heap H h':=fun b o e hb z=>by
  have hs:∃ u,s.heap.get? b=some u:=by
   rcases z with z | ⟨v,z⟩
   ·exact z
   ·exact (I.aA b v z).there
  obtain ⟨u,eu⟩:=hs;have:=hx.keeps b u eu;rw [e] at this; cases this;exact PySem.W.hideAll_get _ eu hb
 generalize PySem.W.hideAll s.heap (bF X.stack)=B at aR kS gp;have hfr':=kS;rw [O.df] at hfr' hA;refine aD ((Kp.leaving X.env (.ref ea)).any (s:={ s with heap:=h' }) (IF hx) (wpAny_leaves_madeW (s:={ s with heap:=h' }) (Q:=fun _ s''=>∃ h2 t,s''={ s with heap:=h2 }/\Heap.FlyingW B X.outer ea (.ref C) (.ref t) h2/\h'.UpToSlots h2) hA O.frame aR hfr' hx
  fun h2 t x1 _ _ x4=>⟨h2,t,rfl,x1,x4⟩)) fun _ s'' ⟨⟨h2,t,e,x1,x4⟩,hd⟩=>?_
 subst e;exact I.CP (s':={ s with heap:=h2 }) O rfl I.bare (Un.kept hx.keeps) (I.aA.kept hx.keeps) mz hx.new gp x1 x4 hd
structure gz (X:Cx) (R:St->XK):Prop where
 pass:∀ (pins:List (Addr×Obj)) (σ:St) (H:Hp) (s:Shared) (e:Value) (s':Shared),Inv X pins σ H s->bJ X.prog X.w X.stack H s (R σ) e s'->X.xe e s'
structure Raises (X:Cx) (R:St->XK):Prop where
 made:∀ (pins:List (Addr×Obj)) (σ:St) (H:Hp) (s:Shared) (h':Heap) (ea C:Addr) (vs:List Value),Inv X pins σ H s->Heap.MadeExcOf s.heap h' ea (.ref C) vs->R σ (.ref C) none H->X.xe (.ref ea) { s with heap:=h' }
theorem dO {P:Program} {w:World} {K:PySem.W.Frag} {mg:Str->Option Value} {base:Heap} {N:List Str} {qual:Str} {scope:Scope} {f:Addr} {cd:Value} {A:Around} {outer:List Env} {s₀:Shared} {H₀:Hp} {E:XK} :
  gz (cF (bJ P w) P w K mg base N qual scope f cd A outer s₀ H₀ E) (fun _=>E) where
 pass:=fun pins σ H s e s' I hc=>by
  obtain ⟨ea,C,od,H',rfl,F,hE⟩:=hc;exact aD (I.Hc ⟨rfl,rfl,rfl⟩ I.ok.frames F) fun _ s'' z=>⟨ea,C,od,H',rfl,z,hE⟩
theorem Ba {P:Program} {w:World} {K:PySem.W.Frag} {mg:Str->Option Value} {base:Heap} {N:List Str} {qual:Str} {scope:Scope} {f:Addr} {cd:Value} {A:Around} {outer:List Env} {s₀:Shared} {H₀:Hp} {E:XK} :
  Raises (cF (bJ P w) P w K mg base N qual scope f cd A outer s₀ H₀ E) (fun _=>E) where
 made:=fun pins σ H s h' ea C vs I hx hE=>aD (I.Yw ⟨rfl,rfl,rfl⟩ I.ok.frames hx) fun _ s'' z=>⟨ea,C,none,H,rfl,z,hE⟩
def zu (sp:Sp) (bj:List V) (R:St->XK) (t:TA):TE:=fun σ H Q=>t σ H fun vs H1=>sp (vs++bj) H1 Q (R σ)
section
variable {k:Nat} {f:Addr} {fd:FuncData} {ps:List Str} {sp:Sp} {bj:List V} {ds:List Value} {R:St->XK} {x:Str} {p pos:Pos} {e:Expr} {es:List Expr} {t:TA}
theorem Gm {Q:VK} {us:List Value} {vs:List V} (F:aB X.prog X.w X.K X.mg X.base (bJ X.prog X.w) k f fd ps sp) (hr:aZ k X.A) (hb:Binds X.K fd ps ds) (hd:Vals bj ds) (hx:gz X R)
  (I:Inv X pins σ H s) (r:Vals vs us) (h:sp (vs++bj) H Q (R σ)):wpAny (model X.prog X.w) X.A (call (.ref f) us) (EP X pins σ Q) X.xe s:=by
 have r2:Vals (vs++bj) (us++ds):=r.append hd;have hl:(us++ds).length=ps.length:=by rw [<- r2.length]; exact F.len _ _ _ _ h
 refine wpAny_call (codeAny_mono (F.run X.A X.stack s H ⟨us,[]⟩ (us++ds) (vs++bj) Q (R σ) hr I.oB (hb s us I.bT hl) r2 h) fun r s' hq=>?_);cases r with
 | error e=>exact hx.pass pins σ H s e s' I hq
 | ok fl =>
  cases fl with
  | ret u=>exact I.after hq
  | next=>exact False.elim hq
  | brk=>exact False.elim hq
  | cont=>exact False.elim hq
theorem SK (F:aB X.prog X.w X.K X.mg X.base (bJ X.prog X.w) k f fd ps sp) (hr:aZ k X.A) (hg:Gl X x) (hm:X.mg x=some (.ref f)) (hk:PySem.W.keepIn X.K (.ref f)=true) (hb:Binds X.K fd ps ds) (hd:Vals bj ds) (hx:gz X R)
  (ha:PA X (e::es) t) (hs:(e::es).all noStar=true:=by rfl) (bI:(x == ("__debug__" : Str))=false:=by decide):PE X (.Call (.Name x p) (e::es) [] pos) (zu sp bj R t):=by
 have hs':=hs;rw [List.all_cons,Bool.and_eq_true] at hs';intro pins s σ H Q I h;refine wpAny_Call_Name_kw (jR I hg hm ?_ bI);refine PySem.W.callWith_K (h₀:=X.base) I.ok.mod.hV hk (aD (ha pos pins s σ H _ I h) fun us s1 ⟨vs,H1,I1,r,q⟩=>⟨I1.bT,?_⟩) (fi hs'.1) (hZ hs'.2);exact Gm F hr hb hd hx I1 r q
end
end
abbrev rn:List Value:=[.type "ValueError",.type "Exception",.type "BaseException",.type "object"]
theorem Ot {K:PySem.W.Frag} {h:Heap} {C:Addr} {Md:List Value} {newId:String} (X:K.In h) (q:PySem.W.excIn K C Md newId=true) :
  ∃ bm N nm q bs hdct sn sub ab col dd k0 k1 k2 k3 k5 mN,h.get? C=some (excClassObj nm q C N bs bm hdct sn sub ab col dd k0 k1 k2 k3 k5 newId)/\h.Ns N mN/\mN "__init__" = none/\OwnTail h Md bm:=by
 unfold PySem.W.excIn at q;split at q
 ·rename_i dd cd sl ho;split at q
  ·rename_i C' bm k0 k1 k2 k3 n k5 hm hs;simp only [Bool.and_eq_true,beq_iff_eq,Bool.not_eq_true'] at q;obtain ⟨⟨⟨⟨⟨q1,q2⟩,q3⟩,q4⟩,q5⟩,q6⟩:=q;subst q1 q2;obtain ⟨nm,bs,mro,ns,qn,hd,sn,sub,ab,col,del⟩:=cd;dsimp only at hm q3 q5 q6;subst hm q3;have e1:sl=#[k0,k1,k2,k3,some (.builtin n),k5]:=by
    obtain ⟨l⟩:=sl;simp only at hs;rw [hs]
   subst e1;exact ⟨bm,ns,nm,qn,bs,hd,sn,sub,ab,col,dd,k0,k1,k2,k3,k5,_,X _ _ ho,.of_isNs (PySem.W.isNs_of_in X q5),PySem.W.nsMap_none_of_in X q5 q6,PySem.W.tail_of_in X q4⟩
  ·cases q
 ·cases q
def zK (C:Addr) (R:St->XK) (t:TA):TS:=fun _ σ H=>t σ H fun vs H1=>vs.length<=sizeLine/\R σ (.ref C) none H1
theorem OS {X:Cx} {R:St->XK} {x:Str} {C:Addr} {e:Expr} {es:List Expr} {t:TA} {np bw pos:Pos} (hx:Raises X R) (hc:X.calm=true) (hm:X.mg x=some (.ref C)) (q:PySem.W.excIn X.K C rn "ValueError.__new__" = true) (ha:PA X (e::es) t)
  (hg:Gl X x:=by rfl) (hs:(e::es).all noStar=true:=by rfl) (bI:(x == ("__debug__" : Str))=false:=by decide):PS X (.Raise (some (.Call (.Name x np) (e::es) [] bw)) none pos) (zK C R t):=by
 have hs':=hs;rw [List.all_cons,Bool.and_eq_true] at hs';intro pins s σ H D I h;obtain ⟨bm,N,nm,qn,bs,hdct,sn,sub,ab,col,dd,k0,k1,k2,k3,k5,mN,hC,hN,hni,T⟩:=Ot I.ok.mod.hV q;refine wpAny_Raise_call_subT (C:=C) (nm:=nm) (q:=qn) (N:=N) (bs:=bs) (bm:=bm) (hdct:=hdct) (sn:=sn) (sub:=sub) (ab:=ab) (col:=col) (dd:=dd) (k0:=k0) (k1:=k1) (k2:=k2) (k3:=k3) (k5:=k5)
  PySem.F.excBase_ValueError (mN:=mN) (T.hasType PySem.F.excBase_ValueError.hasBase) (I.ok.hd hc) (by rw [fi hs'.1]; exact hZ hs'.2) hni (jR I hg hm ⟨rfl,?_⟩ bI)
 have ha':=ha bw pins s σ H _ I h;rw [fi hs'.1] at ha' ⊢;refine Calls.evalArgs_plain (aD ha' fun us s2 ⟨vs,H2,I2,r,z,hR⟩=>?_);exact ⟨rfl,by rw [<- r.length]; exact z,I2.bk _ _ hC,hN.keeps I2.bk,T.keeps I2.bk,fun h' ea hm'=>hx.made pins σ H2 s2 h' ea C us I2 hm' hR⟩
def kb (ea C:Addr) (od:Option Addr):HO:=.ext (cS ea (.ref C) od)
theorem RV {P:Program} {w:World} {H:Hp} {h:Heap} {ea C:Addr} {od:Option Addr} (x:cS ea (.ref C) od h):bH P w H h ea (kb ea C od) :=
 ⟨x,let ⟨o,e,_⟩:=x; ⟨o,e⟩,fun _ _ ⟨o,e,r⟩ k=>⟨o,k o e,r⟩⟩
abbrev Cx.jN (X:Cx) (v:Value):Cx:={ X with A:=X.A.mark (some v),calm:=false,xe:=fun _ _=>False }
abbrev Cx.mX (X:Cx) (pins:List (Addr×Obj)) (R:St->XK):Cx:={ X with pn:=X.pn++pins,xe:=fun e s'=>∃ (σ':St) (H H':Hp) (s:Shared) (ea C:Addr) (od:Option Addr),Inv X pins σ' H s/\e=.ref ea/\mW X.prog X.w X.stack H s ea C od H' s'/\R σ' (.ref C) od H' }
section
variable {X:Cx} {pins pins':List (Addr×Obj)} {σ:St} {H H':Hp} {s s':Shared} {R:St->XK} {v:Value}
theorem Inv.jN (I:Inv X pins σ H s) (v:Value):Inv (X.jN v) pins σ H s :=
 ⟨⟨I.ok.mod,I.ok.kind,I.ok.glob,I.ok.blt,I.ok.above,I.ok.inj,I.ok.has,I.ok.km,(fun z=>Bool.noConfusion z),I.ok.frames,I.ok.df,I.ok.rJ,I.ok.bs,I.ok.gy,I.ok.lV,I.ok.lZ,I.ok.eU,I.ok.iL⟩,
  I.os,I.bare,I.base,I.loc,I.cell,I.free,I.eT,I.pin,I.aA,I.len⟩
theorem Inv.RO (I:Inv (X.jN v) pins σ H s) (ok:X.Ok):Inv X pins σ H s:=⟨ok,I.os,I.bare,I.base,I.loc,I.cell,I.free,I.eT,I.pin,I.aA,I.len⟩
theorem Inv.mX (I:Inv X pins σ H s) (R:St->XK):Inv (X.mX pins R) [] σ H s :=
 ⟨⟨I.ok.mod,I.ok.kind,I.ok.glob,I.ok.blt,I.ok.above,I.ok.inj,I.ok.has,I.ok.km,I.ok.hd,I.ok.frames,I.ok.df,I.ok.rJ,I.ok.bs,I.ok.gy,I.ok.lV,I.ok.lZ,I.ok.eU,I.ok.iL⟩,
  I.os,I.bare,I.base,I.loc,I.cell,I.free,I.eT,fun p hp=>I.pin p (by simpa using hp),I.aA,I.len⟩
theorem Inv.r9 (I:Inv (X.mX pins R) pins' σ H s):Inv X pins σ H s :=
 ⟨⟨I.ok.mod,I.ok.kind,I.ok.glob,I.ok.blt,I.ok.above,I.ok.inj,I.ok.has,I.ok.km,I.ok.hd,I.ok.frames,I.ok.df,I.ok.rJ,I.ok.bs,I.ok.gy,I.ok.lV,I.ok.lZ,I.ok.eU,I.ok.iL⟩,
  I.os,I.bare,I.base,I.loc,I.cell,I.free,I.eT,fun p hp=>I.pin p (List.mem_append_left _ hp),I.aA,I.len⟩
theorem P4:gz (X.mX pins R) R:=⟨fun pins' σ H s e s' I hc=>by
 obtain ⟨ea,C,od,H',rfl,F,hE⟩:=hc;exact ⟨σ,H,H',s,ea,C,od,I.r9,rfl,F,hE⟩⟩
theorem Inv.wU {a:Addr} {o:HO} (I:Inv X pins σ H s) (hn:H a=none) (n0:X.s₀.heap.get? a=none) (nL:a≠X.env.locals) (nC:∀ x c,X.env.cells.lookup x=some c->c≠a) (nP:∀ p∈X.pn++pins,p.1≠a)
  (new:bH X.prog X.w (upd H a o) s.heap a o):Inv X pins σ (upd H a o) s:=by
 have ne:∀ b u,H b=some u->b≠a:=fun b u e=>fU e hn;have n0':∀ b u,X.s₀.heap.get? b=some u->b≠a:=fun b u e z=>by rw [z,n0] at e; cases e
 refine ⟨I.ok,I.os,I.bare,⟨I.base.keep,I.base.slot,fun b u e n hx=>by rw [ag (n0' b u e)]; exact I.base.free b u e n hx,I.base.there,fun b xs e=>by have:=I.base.fS b xs e; rw [ag (ne b _ this)]; exact this,
  fun b u v e=>by have:=I.base.fg b u v e; rw [ag (ne b _ this)]; exact this,fun b ps e=>?_⟩,I.loc,I.cell,by rw [ag (Ne.symm nL)]; exact I.free,fun x c e=>by rw [ag (nC x c e)]; exact I.eT x c e,fun p hp=>?_,fun b u e=>?_,I.len⟩
 ·obtain ⟨m,e1⟩:=I.base.fH b ps e;exact ⟨m,by rw [ag (ne b _ e1)]; exact e1⟩
 ·obtain ⟨e1,e2,r⟩:=I.pin p hp;exact ⟨e1,by rw [ag (nP p hp)]; exact e2,r⟩
 ·by_cases hb:b=a
  ·subst hb;rw [ax] at e; cases e;exact new
  ·rw [ag hb] at e;exact (I.aA b u e).gg (fun _ _ _ q=>q) (fun c q=>by rw [ag (ne c _ q)]; exact q) fun c xs q=>by rw [ag (ne c _ q)]; exact q
theorem Inv.WB {i:Nat} {n:Str} {m:Str->Option Value} {h8:Heap} {v:Option Value} {t8:Nat} (I:Inv X pins σ H s) (hN:X.N.Nodup) (hi:X.N[i]?=some n)
  (hl:∀ (i:Nat) (x:Str) (v:V),X.N[i]?=some x->σ[i]?=some (some v)->lE X.env.scope x->∃ u,RelV v u/\Look X.env s.heap m x u)
  (Di:h8.Ns X.env.locals (fun x=>if x=n then v else m x)) (sb:Heap.SameBut X.env.locals s.heap h8):Inv X pins (σ.set i none) H { s with heap:=h8,toks:=t8 }:=by
 have old:∀ b o,X.s₀.heap.get? b=some o->h8.get? b=s.heap.get? b:=fun b o e=>sb.2 b (Nat.ne_of_lt (Nat.lt_of_lt_of_le (Heap.lt_size e) I.ok.above));refine ⟨I.ok,I.os,I.bare,⟨fun b o e n' hb hx=>(old b o e).trans (I.base.keep b o e n' hb hx),fun b o e n' hb hx=>?_,I.base.free,fun b o e hx=>?_,I.base.fS,I.base.fg,I.base.fH⟩,⟨_,Di,fun j y v' e1 e2 e3=>?_⟩,fun y c e=>?_,I.free,I.eT,fun p hp=>?_,fun b u e=>?_,by simpa using I.len⟩
 ·obtain ⟨sl,e1⟩:=I.base.slot b o e n' hb hx;exact ⟨sl,(old b o e).trans e1⟩
 ·obtain ⟨o',e1⟩:=I.base.there b o e hx;exact ⟨o',(old b o e).trans e1⟩
 ·by_cases hj:j=i
  ·subst hj;have bL:j < σ.length:=by rw [I.len]; exact (List.getElem?_eq_some_iff.mp hi).1
   rw [List.getElem?_set_self bL] at e2;cases e2
  ·rw [List.getElem?_set_ne (Ne.symm hj)] at e2;obtain ⟨u',r',q⟩:=hl j y v' e1 e2 e3;refine ⟨u',r',?_⟩;rcases q with ⟨k,e⟩ | ⟨k,c,e,z⟩
   ·refine .inl ⟨k,?_⟩;have:y≠n:=fun e=>hj (As hN e1 (e ▸ hi));simp [this,e]
   ·exact .inr ⟨k,c,e,z.sameBut sb (I.ja y c e)⟩
 ·obtain ⟨w',z⟩:=I.cell y c e;exact ⟨w',z.sameBut sb (I.ja y c e)⟩
 ·obtain ⟨e,n',ne,nf,d⟩:=I.pin p hp;exact ⟨(sb.2 p.1 ne).trans e,n',ne,nf,d⟩
 ·refine (I.aA b u e).gg (fun c w' hc q=>(sb.2 c ?_).trans q) (fun _ q=>q) fun _ _ q=>q;rintro rfl;have hf:=I.free;rcases hc with z | z
  ·rw [z] at hf; rw [hf] at e; cases e
  ·rw [hf] at z; cases z
end
def Ends.za (D:Ends) (i:Nat):Ends:=⟨fun σ H=>D.nx (σ.set i none) H,D.rt,fun σ H=>D.bk (σ.set i none) H,fun σ H=>D.ct (σ.set i none) H⟩
structure iV (K:PySem.W.Frag) (C:Addr):Prop where
 ha:PySem.W.findIn K (.ref C) "__class__" = some (some (.builtin "object.__class__"))
 hn:PySem.W.specialIn K (.builtin "object.__class__") "__get__" = some (some (.builtin "getset_descriptor.__get__"))
 fQ:PySem.W.takesIn K (.builtin "object.__class__")=some true
 hm:PySem.W.mroIn K C (.type "object")=some true
 pF:PySem.W.findIn K (.ref C) "__getattribute__" = some (some (.builtin "BaseException.__getattribute__"))
 qU:PySem.W.findIn K (.ref C) "__getattr__" = some none
 hb:PySem.W.mroIn K C (.type "BaseException")=some true
theorem mV {M:Model} {h:Heap} {x C:Addr} {od:Option Addr} (I:cS x (.ref C) od h):PySem.W.Looks M h (typeOf (.ref x)) (.ref C):=by
 obtain ⟨o,e,c,_⟩:=I;exact c ▸ (PySem.W.Looks.ld e).andThen .now
theorem AJ {K:PySem.W.Frag} {C:Addr} {b:Value} {r:Bool} (h:PySem.W.mroIn K C b=some r):∃ c d cd sl,K.lookup C=some ⟨c,d,.cls cd,sl⟩:=by
 obtain ⟨cd,bM,_⟩:=Option.bind_eq_some_iff.mp h;unfold PySem.W.clsIn at bM;split at bM
 ·rename_i c' d' cd' sl' ho;exact ⟨_,_,_,_,ho⟩
 ·cases bM
section
variable {prog:Program} {w:World} {A:Around} {E:Value->Shared->Prop} {s:Shared} {K:PySem.W.Frag} {x C:Addr} {od:Option Addr}
theorem Rl {M:Model} {h:Heap} {name:Str} {a g:Value} (X:K.In h) (ha:PySem.W.findIn K (.ref C) name=some (some a)) (hn:PySem.W.specialIn K a "__get__" = some (some g)) (fQ:PySem.W.takesIn K a=some true) :
  PySem.W.Looks M h (Builtin.ObjectAttr.find (.ref x) (.ref C) name) (.bind g a):=by
 have L1:=PySem.W.looks_findIn (M:=M) X ha;have L2:PySem.W.Looks M h (Builtin.ObjectAttr.getOf (some a)) (some g):=PySem.W.looks_specialIn X hn;have L3:=PySem.W.looks_takesIn (M:=M) X fQ;unfold Builtin.ObjectAttr.find;refine L1.andThen (L2.andThen ?_);have L4:PySem.W.Looks M h (Builtin.ObjectAttr.dataDescriptor? (some a) (some g)) (some (g,a)):=by
  unfold Builtin.ObjectAttr.dataDescriptor?;exact L3.andThen .now
 exact L4.andThen (PySem.W.Looks.tag .now)
open PySem.W in
open Builtin Builtin.ObjectAttr Builtin.Getset_descriptor in
theorem YA {R:Result->Shared->Prop} {tp:Value} (Z:iV K C) (X:K.In s.heap) (I:cS x (.ref C) od s.heap) (h:R (.ok (.ret (.ref C))) s) :
  codeAny (model prog w) A (.call (.builtin "getset_descriptor.__get__") ⟨[.builtin "object.__class__",.ref x,tp],[]⟩) R s:=by
 obtain ⟨hh,g,dr,t,os⟩:=s;have L0:=mV (M:=model prog w) I;have L1:=looks_mroIn (M:=model prog w) X Z.hm;refine codeAny_call_builtin KF.slot_gs.plain KF.entry_gs (KF.slot_gs.check _ _ _ _ _ _ _ _ KF.type_class (KF.args_gs _ _ _) ?_);unfold Builtin.«getset_descriptor.__get__» descrGet;rw [dga_obj];refine wpAny_bind (wpAny_pure ?_);unfold descrGetter descrCheckInstance descrNameAndClass isInstance;simp only [KF.owner_class]
 repeat lk
 refine ⟨Code.quiet_builtin _ (by decide +kernel),codeAny_builtin KF.entry_class ?_⟩;unfold Builtin.«object.__class__» shownTypeOf
 repeat lk
 exact h
theorem JG {M:Model} {Nj:Value} {Q:Unit->Shared->Prop} (Z:iV K C) (X:K.In s.heap) (I:cS x (.ref C) od s.heap) (h:Q () s):wpAny M A (checkBuiltinCall "BaseException.__getattribute__" ⟨[.ref x,Nj],[]⟩) Q E s:=by
 have k1:builtinKind "BaseException.__getattribute__" = some .slot:=by decide +kernel
 have k2:splitId "BaseException.__getattribute__" = some ("BaseException","__getattribute__"):=by decide +kernel
 have k3:=PySem.F.args_bexc_ga (.ref x) Nj;have L0:=mV (M:=M) I;have L1:=PySem.W.looks_mroIn (M:=M) X Z.hb;obtain ⟨hh,g,d,t,os⟩:=s;have L2:PySem.W.Looks M hh (isInstance (.ref x) (.type "BaseException")) true:=L0.andThen L1;simp only [checkBuiltinCall,k1,k2];refine wpAny_bind (L2.at ?_)
 repeat (any_goals (first | assumption | wp_step))
theorem U4 {Q:Option Value->Shared->Prop} (Z:iV K C) (X:K.In s.heap) (I:cS x (.ref C) od s.heap) (h:Q (some (.ref C)) { s with toks:=s.toks+1 }):wpAny (model prog w) A (getAttr? (.ref x) "__class__") Q E s:=by
 obtain ⟨hh,g,d,t,os⟩:=s;have L0:=mV (M:=model prog w) I;have L1:=PySem.W.looks_findIn (M:=model prog w) X Z.pF;have L2:=PySem.W.looks_findIn (M:=model prog w) X Z.qU;have L3:=Rl (M:=model prog w) (x:=x) X Z.ha Z.hn Z.fQ;unfold getAttr? getAttrBy? getAttrBy;refine wpAny_bind (wpAny_mkText (wpAny_bind (wpAny_attempt (wpAny_holding (wpAny_bind (L0.at (wpAny_bind (L1.at ?_))))))));show wpAny _ _ (getAttrByItsOwn (.ref x) (.str "__class__" t) (.ref C) (.builtin "BaseException.__getattribute__") false false) _ _ _;unfold getAttrByItsOwn;refine wpAny_bind (L2.at ?_);refine wpAny_bind (wpAny_attempt (wpAny_holding ?_));show wpAny _ _ (boundAndCalled (.builtin "BaseException.__getattribute__") (.ref x) (.str "__class__" t)) _ _ _;unfold boundAndCalled;refine wpAny_bind (wpAny_of_eq (PySem.F.attr_ValueError.ga.bind (.ref x)) ?_);refine wpAny_call (codeAny_call_builtin PySem.F.attr_ValueError.ga.plain PySem.F.entry_bexc_ga (JG Z X I ?_));show wpAny _ _ (Builtin.«object.__getattribute__» ⟨[.ref x,.str "__class__" t],[]⟩) _ _ _;unfold Builtin.«object.__getattribute__»;refine wpAny_bind (wpAny_pure ?_);refine wpAny_bind (wpAny_pure ?_);refine wpAny_bind (L0.at (wpAny_bind (L3.at ?_)));show wpAny _ _ (Builtin.ObjectAttr.bindTo (.builtin "getset_descriptor.__get__") (.builtin "object.__class__") (.ref x) (.ref C)) _ _ _;show wpAny _ _ (holding [.builtin "object.__class__"] (call (.builtin "getset_descriptor.__get__") [.builtin "object.__class__",.ref x,.ref C]) >>= fun v=>ret v) _ _ _;refine wpAny_bind (wpAny_holding (wpAny_call (YA Z X I (wpAny_pure ?_))));exact wpAny_pure (wpAny_pure h)
theorem yB (Z:iV K C):PySem.W.KitX K (.ref x) (.ref C) (cS x (.ref C) od) where
 ty:=fun _ _ _ I=>mV I
 it:=fun _ _ X _=>by
  obtain ⟨c',d',cd',sl',ho⟩:=AJ Z.hm;intro A' Q' E' s' k q;unfold isType loadHead;exact wpAny_bind (wpAny_loadPart (k _ _ (X _ _ ho)) (wpAny_pure q))
 ne:=fun h tp dd aj n sl X htp=>by
  obtain ⟨c',d',cd',sl',ho⟩:=AJ Z.hm;refine Bool.eq_false_iff.mpr fun q=>?_;have e:C=tp:=Value.ref.inj (beq_iff_eq.mp q);subst e;have z:=(X _ _ ho).symm.trans htp;cases z
 ca:=fun X I k=>U4 Z X I k
end
inductive tq (K:PySem.W.Frag) (H:Hp):V->Value->Bool->Prop where
 | of {x:V} {t:Value} (h:fk K H x t):tq K H x t false
 | exc {ea C:Addr} {od:Option Addr} (e:H ea=some (kb ea C od)) (Z:iV K C):tq K H (.ref ea) (.ref C) true
inductive oU (K:PySem.W.Frag) (H:Hp) (t:Value):Bool->V->Bool->Prop where
 | ty {f:Bool} {n:String} {b:Bool} (e:PySem.W.kitOne K t (.type n)=some b):oU K H t f (.ty n) b
 | cls {f:Bool} {a:Addr} {b:Bool} (e:PySem.W.kitOne K t (.ref a)=some b):oU K H t f (.ref a) b
 | tup {p:Addr} {cs:List V} {us:List Value} {b:Bool} (h:H p=some (.tup cs)) (hu:∀ ws,Vals cs ws->ws=us) (e:PySem.W.kitAny K t us=some b):oU K H t true (.ref p) b
section
variable {X:Cx} {K:PySem.W.Frag}
def BL (K:PySem.W.Frag):List V->Hp->VK->Prop:=fun xs H Q=>match xs with
 | [x,c]=>∃ (t:Value) (f b:Bool),tq K H x t f/\oU K H t f c b/\Q (.bl b) H
 | _=>False
theorem SY {x c:V} {u v t:Value} {pins:List (Addr×Obj)} {σ:St} {H:Hp} {s:Shared} {A:Around} {E:Value->Shared->Prop} {Q:Value->Shared->Prop} {f b:Bool} (I:Inv X pins σ H s) (rx:RelV x u) (rc:RelV c v) (ty:tq X.K H x t f) (a:oU X.K H t f c b)
  (h:∀ tk,Q (.bool b) { s with toks:=tk }):wpAny (model X.prog X.w) A (call (.builtin "isinstance") [u,v]) Q E s:=by
 cases ty with
 | of ty =>
  cases a with
  | ty e=>cases (show v=Value.type _ from rc); exact Bs I rx ty e h
  | cls e=>cases (show v=Value.ref _ from rc); exact Bs I rx ty e h
 | @exc ea C od e Z =>
  cases (show u=Value.ref ea from rx);obtain ⟨p,_,_⟩:=(show bH X.prog X.w H s.heap ea (kb ea C od) from I.aA ea _ e);cases a with
  | ty e'=>cases (show v=Value.type _ from rc); exact PySem.W.kia_one (yB Z) I.bT p e' (fun z=>nomatch z) h
  | cls e'=>cases (show v=Value.ref _ from rc); exact PySem.W.kia_one (yB Z) I.bT p e' (fun z=>nomatch z) h
  | @tup tp cs us b hp hu e' =>
   cases (show v=Value.ref tp from rc);obtain ⟨_,aj,rv,o,ho,hc,n,hd,_⟩:=(show bH X.prog X.w H s.heap tp (.tup cs) from I.aA tp _ hp);obtain rfl:=hu aj rv;obtain ⟨oc,odd,Ed,cU⟩:=o;dsimp only at hc hd;subst hc hd;exact PySem.W.kia_tup (yB Z) I.bT p ho e' (fun z=>nomatch z) h
theorem t9 (h:X.K=K):cy X (.builtin "isinstance") (BL K):=h ▸ fun pins s σ H xs us Q I r q=>by
 unfold BL at q;split at q
 ·rename_i x c;obtain ⟨t,f,b,ty,a,q⟩:=q;obtain ⟨u,v,rfl,ru,rv⟩:=vals2 r;exact SY I ru rv ty a fun tk=>⟨.bl b,H,I.tok tk,rfl,q⟩
 ·exact q.elim
end
namespace Dv
section
variable {X:Cx} {st:Stmt} {t:TS}
theorem eO {k:Nat} {f:Addr} {fd:FuncData} {ps:List Str} {sp:Sp} {bj:List V} {ds:List Value} {R:St->XK} {x:Str} {p pos:Pos} {e:Expr} {es:List Expr} {t:TA}
  (F:aB X.prog X.w X.K X.mg X.base (bJ X.prog X.w) k f fd ps sp) (hr:aZ k X.A) (hm:X.mg x=some (.ref f)) (hk:PySem.W.keepIn X.K (.ref f)=true) (hb:Binds X.K fd ps ds) (hd:Vals bj ds) (hx:gz X R)
  (ha:QA X (e::es) t) (hg:Gl X x:=by rfl) (hs:(e::es).all noStar=true:=by rfl) (bI:(x == ("__debug__" : Str))=false:=by decide):QE X (.Call (.Name x p) (e::es) [] pos) (zu sp bj R t):=⟨SK F hr hg hm hk hb hd hx ha.h hs bI⟩
theorem Bx {R:St->XK} {x:Str} {C:Addr} {e:Expr} {es:List Expr} {t:TA} {np bw pos:Pos} (hx:Raises X R) (hc:X.calm=true) (hm:X.mg x=some (.ref C)) (q:PySem.W.excIn X.K C rn "ValueError.__new__" = true) (ha:QA X (e::es) t)
  (hg:Gl X x:=by rfl) (hs:(e::es).all noStar=true:=by rfl) (bI:(x == ("__debug__" : Str))=false:=by decide):QS X (.Raise (some (.Call (.Name x np) (e::es) [] bw)) none pos) (zK C R t):=⟨OS hx hc hm q ha.h hg hs bI⟩
end
end Dv
theorem e8.eN {P:Program} {w:World} {K:PySem.W.Frag} {mg:Str->Option Value} {base:Heap} {CX:dA} {x qual:Str} {st:Stmt} {f:Addr} {fd:FuncData} {N ps:List Str} {k:Nat} {sp:Sp} (F:e8 K x qual st f fd) (S:aE N ps (az st)) (len:∀ vs H Q E,sp vs H Q E->vs.length=ps.length)
  (hb:∀ (ah:Value) (A:Around) (outer:List Env) (s:Shared) (H:Hp) (vs:List V) (Q:VK) (E:XK),aZ k (A.deeper (envOfC qual (az st) s.heap.objs.size f ah))->sp vs H Q E ->
   ∃ t,cT (cF CX P w K mg base N qual (az st) f ah A outer s H E) (aS st) t/\t { nx:=fun _ H'=>Q .au H',rt:=Q } (start N vs) H):aB P w K mg base CX (k+1) f fd ps sp:=by
 obtain ⟨oc,od,kV,doc,pm,an,ah,ct,cU,rfl,lk,bM⟩:=F.ex;exact uP lk bM S len fun A outer s H vs Q E hr cZ=>hb ah A outer s H vs Q E hr cZ
def tm:List Value->Bool
 | []=>false
 | v::r=>(v::r) == rn || match v with
  | .ref _=>tm r
  | _=>false
theorem GC (self:Value):∀ {l:List Value},tm l=true->refuseLoop self "__setattr__" l=pure ()
 | [],e=>nomatch e
 | v::r,e=>by
  unfold tm at e;rcases Bool.or_eq_true_iff.mp e with q | q
  ·rw [beq_iff_eq.mp q]; exact PySem.F.store_ValueError.passes self
  ·split at q
   ·rw [refuseLoop_ref];exact GC self q
   ·cases q
def uF (K:PySem.W.Frag) (C:Addr):Bool:=match K.lookup C with
 | some ⟨.type "type",_,.cls cd,sl⟩=>(match cd.mro,sl.toList with
  | .ref C'::bm,[_,_,_,_,some (.builtin n),_]=>C' == C && n == "ValueError.__new__" && !cd.hasDel && PySem.W.tailIn K rn bm && tm cd.mro && cd.hasDict
  | _,_=>false)
 | _=>false
structure fY (K:PySem.W.Frag) (C f:Addr) (fld:Str):Prop where
 q:uF K C=true
 hi:PySem.W.findIn K (.ref C) "__init__" = some (some (.ref f))
 hf:PySem.W.typeIn K (.ref f)=some (.type "function")
 sa:PySem.W.findIn K (.ref C) "__setattr__" = some (some (.builtin "object.__setattr__"))
 na:PySem.W.findIn K (.ref C) fld=some none
 ob:PySem.W.mroIn K C (.type "object")=some true
 be:PySem.W.mroIn K C (.type "BaseException")=some true
 self:PySem.W.mroIn K C (.ref C)=some true
 kp:PySem.W.keepIn K (.ref C)=true
theorem v8 {K:PySem.W.Frag} {h:Heap} {C:Addr} (X:K.In h) (q:uF K C=true) :
  ∃ bm N nm q bs sn sub ab col dd k0 k1 k2 k3 k5,h.get? C=some (excClassObj nm q C N bs bm true sn sub ab col dd k0 k1 k2 k3 k5 "ValueError.__new__")/\OwnTail h rn bm/\tm (.ref C::bm)=true:=by
 unfold uF at q;split at q
 ·rename_i dd cd sl ho;split at q
  ·rename_i C' bm k0 k1 k2 k3 n k5 hm hs;simp only [Bool.and_eq_true,beq_iff_eq,Bool.not_eq_true'] at q;obtain ⟨⟨⟨⟨⟨q1,q2⟩,q3⟩,q4⟩,q5⟩,q6⟩:=q;subst q1 q2;obtain ⟨nm,bs,mro,ns,qn,hd,sn,sub,ab,col,del⟩:=cd;dsimp only at hm q3 q5 q6;subst hm q3 q6;have e1:sl=#[k0,k1,k2,k3,some (.builtin "ValueError.__new__"),k5]:=by
    obtain ⟨l⟩:=sl;simp only at hs;rw [hs]
   subst e1;exact ⟨bm,ns,nm,qn,bs,sn,sub,ab,col,dd,k0,k1,k2,k3,k5,X _ _ ho,PySem.W.tail_of_in X q4,q5⟩
  ·cases q
 ·cases q
section
variable {prog:Program} {w:World} {A:Around} {E:Value->Shared->Prop} {s:Shared} {K:PySem.W.Frag} {x C f:Addr} {fld:Str} {v:Value}
open Builtin Builtin.ObjectAttr in
theorem QL {Q:Unit->Shared->Prop} (Z:fY K C f fld) (X:K.In s.heap) (I:cS x (.ref C) none s.heap)
  (h:∀ h' d tk,s.heap.objs.size<=d->d≠x->(∃ o,s.heap.get? x=some o/\h'.get? x=some { o with dict:=some d })->h'.Ns1 d (fun y=>if y=fld then some v else none)->(∀ b o,b≠x->s.heap.get? b=some o->h'.get? b=some o)->Q () { s with heap:=h',toks:=tk }) :
  wpAny (model prog w) A (setAttr (.ref x) fld v) Q E s:=by
 obtain ⟨hh,g,dr,t,os⟩:=s;have L0:=mV (M:=model prog w) I;have L1:=PySem.W.looks_findIn (M:=model prog w) X Z.sa;have L2:=PySem.W.looks_findIn (M:=model prog w) X Z.na;obtain ⟨bm,N,nm,qn,bs,sn,sub,ab,col,dd,k0,k1,k2,k3,k5,hC,T,MX⟩:=v8 X Z.q;have Lo:=PySem.W.looks_mroIn (M:=model prog w) X Z.ob;have Li:PySem.W.Looks (model prog w) hh (isInstance (.ref x) (.type "object")) true:=L0.andThen Lo;have SF:=PySem.F.store_object;refine wpAny_bind (wpAny_mkText (wpAny_bind (wpAny_bind (wpAny_bind (L0.at (L1.at (wpAny_holding ?_)))))));rw [SF.slot.bind];refine wpAny_bind (wpAny_pure (wpAny_bind (wpAny_call ?_)));refine codeAny_call_builtin SF.slot.plain SF.entry ?_;refine @PySem.W.check_slot (model prog w) _ _ ⟨hh,g,dr,t+1,os⟩ "object.__setattr__" "object" "__setattr__" (.ref x) [.str fld t,v] [] _ SF.kind SF.split Li (SF.args (.ref x) (.str fld t) v) ?_;show wpAny _ _ (Builtin.«object.__setattr__» ⟨[.ref x,.str fld t,v],[]⟩) _ _ _;rw [PySem.W.osa_eq,refuse_eq];refine wpAny_bind (wpAny_bind (L0.at (wpAny_bind (wpAny_mroOf_exc hC ?_))));rw [GC _ MX];refine wpAny_pure (wpAny_bind (L0.at (wpAny_bind (L2.at (wpAny_bind (wpAny_pure ?_))))));obtain ⟨o,hx,hc,kK,vs,eW⟩:=I;show wpAny _ _ (storeInOwnDict (.ref x) (.ref C) (.str fld t) fld v false) _ _ _;have Lc:PySem.W.Looks (model prog w) hh (classData C) _:=(PySem.W.Looks.ld (part:=none) hC).andThen .now;obtain ⟨oc,od,Ed,cU⟩:=o;dsimp only at hc kK eW;subst hc kK eW;have bo:(hh.push { cls:=.type "dict",data:=.dict #[] }).get? x=some ⟨.ref C,none,.fields vs,cU⟩:=Heap.get?_push_of_some _ hx;have D6:x≠hh.objs.size:=Nat.ne_of_lt (Heap.lt_size hx);unfold storeInOwnDict ownDictForStores instanceDict;refine wpAny_bind (wpAny_pure ?_);refine wpAny_bind (wpAny_bind (wpAny_loadPart hx (wpAny_bind (Lc.at ?_))));refine wpAny_bind (wpAny_alloc' ?_);refine wpAny_bind (wpAny_update' bo (wpAny_pure ?_));show wpAny _ _ (storeInDict hh.objs.size (.str fld t) fld v) _ _ _;have hself:((hh.push { cls:=.type "dict",data:=.dict #[] }).update x fun o=>{ o with dict:=some hh.objs.size }).get? x=some ⟨.ref C,some hh.objs.size,.fields vs,cU⟩:=Heap.get?_update_self _ bo rfl;have hdict:((hh.push { cls:=.type "dict",data:=.dict #[] }).update x fun o=>{ o with dict:=some hh.objs.size }).get? hh.objs.size=some { cls:=.type "dict",data:=.dict #[] } :=
  (Heap.get?_update_ne _ _ _ _ D6.symm).trans (Heap.get?_push_at rfl rfl)
 have hoth:∀ b o,b≠x->hh.get? b=some o->((hh.push { cls:=.type "dict",data:=.dict #[] }).update x fun o=>{ o with dict:=some hh.objs.size }).get? b=some o:=fun b o hb e =>
  (Heap.get?_update_ne _ _ _ _ hb).trans (Heap.get?_push_of_some _ e)
 have eC:((hh.push { cls:=.type "dict",data:=.dict #[] }).update x fun o=>{ o with dict:=some hh.objs.size }).Ns hh.objs.size (fun _=>none):=⟨_,#[],_,hdict,rfl,fun e he=>absurd he (by simp),fun _=>rfl⟩;unfold storeInDict newKeyGuard;refine wpAny_bind (wpAny_pure (wpAny_bind (wpAny_nsSet1 (Heap.Ns1.of_empty eC) fun h' hn' hs=>?_)));obtain ⟨oD,esD,epD,Es,El,Ek⟩:=hn'.count (Within.cons fld v Within.nil);refine wpAny_bind (wpAny_lookBehind Es (by rw [El]; exact pastItsLine_dict (Nat.le_trans Ek (by rw [List.length_cons,List.length_nil,sizeLine_eq]; omega))) ?_);refine wpAny_pure (wpAny_pure (wpAny_pure ?_));exact h h' hh.objs.size _ (Nat.le_refl _) (Ne.symm D6) ⟨_,hx,(hs.2 x D6).trans hself⟩ hn' fun b o hb e=>(hs.2 b (Nat.ne_of_lt (Heap.lt_size e))).trans (hoth b o hb e)
end
def lS (e:Addr) (c:Value) (od:Option Addr) (h:Heap):Prop:=∃ o,h.get? e=some o/\o.cls=c/\o.dict=od/\∃ vs a0,o.data=.fields vs/\vs[1]?=some .none/\vs[0]?=some a0
theorem lS.hd {e:Addr} {c:Value} {od:Option Addr} {h:Heap} (x:lS e c od h):cS e c od h:=let ⟨o,a,b,c,vs,_,d,_⟩:=x; ⟨o,a,b,c,vs,d⟩
def dh (ea C:Addr) (od:Option Addr):HO:=.ext (lS ea (.ref C) od)
theorem JE {P:Program} {w:World} {H:Hp} {h:Heap} {ea C:Addr} {od:Option Addr} (x:lS ea (.ref C) od h):bH P w H h ea (dh ea C od) :=
 ⟨x,let ⟨o,e,_⟩:=x; ⟨o,e⟩,fun _ _ ⟨o,e,r⟩ k=>⟨o,k o e,r⟩⟩
theorem NM {h h':Heap} {e:Addr} {cls:Value} {args:List Value} (hx:Heap.MadeExcOf h h' e cls args):lS e cls none h':=by
 obtain ⟨t,he,_⟩:=hx.there;exact ⟨_,he,rfl,rfl,_,_,rfl,rfl,rfl⟩
def zP (C:Addr) (fld:Str) (ta tv:TE):TS:=fun D σ H=>tv σ H fun y H1=>ta σ H1 fun x H2=>∃ ea,x=.ref ea/\H2 ea=some (dh ea C none)/\∀ d,H2 d=none->D.nx σ (upd (upd H2 ea (dh ea C (some d))) d (.xd [(fld,y)]))
theorem RL {fld g:Str} {y:V} {u:Value} (r:RelV y u):eg (([(fld,y)]:List (Str×V)).lookup g) (if g=fld then some u else none):=by
 by_cases h:g=fld
 ·have hb:(g == fld)=true:=beq_iff_eq.mpr h;simp only [List.lookup,hb,if_pos h];exact r
 ·have hb:(g == fld)=false:=beq_eq_false_iff_ne.mpr h;simp only [List.lookup,hb,if_neg h];exact True.intro
section
variable {X:Cx} {C f:Addr} {fld:Str} {o value:Expr} {ta tv:TE} {pos pos':Pos}
theorem RX (Z:fY X.K C f fld) (ha:PE X o ta) (hv:PE X value tv) (hs:swapsWith value (some (.Attribute o fld pos')) pos.line X.env=pure false):PS X (.Assign [.Attribute o fld pos'] value pos) (zP C fld ta tv):=by
 intro pins s σ H D I h;refine plainObj_wpAny_Assign_Attribute (aD (hv pins s σ H _ I h) fun u s1 ⟨y,H1,I1,ry,q⟩=>aD (ha pins s1 σ H1 _ I1 q) fun ov s2 ⟨x,H2,I2,rx,ea,ex,he,q2⟩=>?_) hs;subst ex;obtain rfl:ov=Value.ref ea:=rx;obtain ⟨p,_,_⟩:=(show bH X.prog X.w H2 s2.heap ea (dh ea C none) from I2.aA ea _ he);refine QL Z I2.bT p.hd fun h' d tk hsz kH uc eC hkeep=>?_;obtain ⟨o0,e0,e1⟩:=uc;obtain ⟨o0',e0',c0,d0,vs,a0,v0⟩:=p;rw [e0] at e0'; cases e0';have hd':lS ea (.ref C) (some d) h':=⟨_,e1,c0,rfl,vs,a0,v0⟩;have bc:H2 d=none:=I2.aA.fresh hsz;have J:Inv X pins σ (upd H2 ea (dh ea C (some d))) { s2 with heap:=h',toks:=tk } :=
  I2.write (x:=ea) (e:=ea) (o:=dh ea C (some d)) (t':=tk) (by rw [he]; exact True.intro) (.inl rfl) hkeep ⟨_,e1⟩ (JE hd')
 have big:∀ b,(∃ u,s2.heap.get? b=some u)->b≠d:=fun b ⟨u,e⟩ z=>absurd (Heap.lt_size e) (by rw [z]; exact Nat.not_lt.mpr hsz);refine ⟨σ,_,J.wU (a:=d) (o:=.xd [(fld,y)]) (by rw [ag kH]; exact bc) (Heap.get?_none_of_le (Nat.le_trans I2.sz hsz)) ?_ ?_ ?_ ⟨_,eC,fun g=>RL ry⟩,q2 d bc⟩
 ·obtain ⟨m,⟨o,_,_,ho,_⟩,_⟩:=I2.loc;exact Ne.symm (big _ ⟨o,ho⟩)
 ·intro z c e;obtain ⟨w',o,ho,_⟩:=I2.cell z c e;exact big _ ⟨o,ho⟩
 ·intro p hp;exact big _ ⟨_,(I2.pin p hp).1⟩
end
def ly (C:Addr) (fld:Str):Sp:=fun vs H Q _=>match vs with
 | [.ref ea,y]=>H ea=some (dh ea C none)/\∀ d,H d=none->Q .au (upd (upd H ea (dh ea C (some d))) d (.xd [(fld,y)]))
 | _=>False
section
variable {prog:Program} {w:World} {A:Around} {E:Value->Shared->Prop} {h:Heap} {g:Array GenState} {d:Drawn} {t:Nat} {os:OsState} {K:PySem.W.Frag} {C f:Addr} {fld:Str}
theorem Ph {rest:List Value} {Q:Fin->Shared->Prop} (Z:fY K C f fld) (X:K.In h) (dH:rest.length<=sizeLine)
  (hq:∀ h' e,Heap.MadeExcOf h h' e (.ref C) rest->wpAny (model prog w) A (call (.ref f) (.ref e::rest)) (fun r s'=>r=.none/\Q (.done (.ret (.ref e))) s') E ⟨h',g,d,t,os⟩) :
  wpAny (model prog w) A (Builtin.«type.__call__» ⟨.ref C::rest,[]⟩) Q E ⟨h,g,d,t,os⟩:=by
 have F:=PySem.F.excBase_ValueError;obtain ⟨bm,N,nm,qn,bs,sn,sub,ab,col,dd,k0,k1,k2,k3,k5,hC,T,_⟩:=v8 X Z.q
 repeat (first | with_reducible refine wpAny_loadPart_at hC ?_ | with_reducible refine wpAny_madeBy_exc hC ?_ | wp_step)
 refine codeAny_call_builtin_code (Code.quiet_builtin _ F.quiet) (wpAny_check_new_subT F T hC (codeAny_exc_new_subT F T hC ?_ dH));show wpAny _ _ _ _ _ _;have kk:∀ b o,h.get? b=some o->((h.push { cls:=.type "tuple",data:=.seq rest.toArray }).push { cls:=.ref C,data:=.fields #[.ref h.objs.size,.none,.none,.none,.bool false,.none] }).get? b=some o:=fun b o e=>Heap.get?_push_of_some _ (Heap.get?_push_of_some _ e);have M7:((h.push { cls:=.type "tuple",data:=.seq rest.toArray }).push { cls:=.ref C,data:=.fields #[.ref h.objs.size,.none,.none,.none,.bool false,.none] }).get? (h.objs.size+1)=some { cls:=.ref C,data:=.fields #[.ref h.objs.size,.none,.none,.none,.bool false,.none] }:=by heap_get
 have LO:((h.push { cls:=.type "tuple",data:=.seq rest.toArray }).push { cls:=.ref C,data:=.fields #[.ref h.objs.size,.none,.none,.none,.bool false,.none] }).get? h.objs.size=some { cls:=.type "tuple",data:=.seq rest.toArray }:=Heap.get?_push_of_some _ (Heap.get?_push_at rfl rfl);generalize MV:(h.push { cls:=.type "tuple",data:=.seq rest.toArray }).push { cls:=.ref C,data:=.fields #[.ref h.objs.size,.none,.none,.none,.bool false,.none] }=h2 at kk M7 LO ⊢;have made:Heap.MadeExcOf h h2 (h.objs.size+1) (.ref C) rest:=⟨kk,Heap.get?_none_of_le (Nat.le_succ _),h.objs.size,M7,Heap.get?_none_of_le (Nat.le_refl _),LO⟩;have X2:K.In h2:=fun b o e=>kk b o (X b o e);have L0:=mV (M:=model prog w) (IF made);have L1:=PySem.W.looks_findIn (M:=model prog w) X2 Z.hi;have Lb:=PySem.W.bind_fn (M:=model prog w) X2 (.ref (h.objs.size+1)) Z.hf;have Ls:PySem.W.Looks (model prog w) h2 (isSubtype (.ref C) (.ref C)) true:=PySem.W.looks_mroIn X2 Z.self;have Li:PySem.W.Looks (model prog w) h2 (isInstance (.ref (h.objs.size+1)) (.ref C)) true:=L0.andThen Ls;refine wpAny_bind (Li.at ?_);simp only [Bool.not_true,Bool.false_eq_true,if_false];refine wpAny_bind (wpAny_holding ?_);unfold callSpecial? specialOf;refine wpAny_bind (wpAny_bind (L0.at (L1.at ?_)));refine wpAny_holding (wpAny_bind (Lb.at (wpAny_bind (wpAny_mono (hq h2 _ made) (fun r s' z=>?_) fun _ _ z=>z))));obtain ⟨rfl,z⟩:=z;exact wpAny_pure (wpAny_pure z)
theorem Vs {rest:List Value} {Q:Value->Shared->Prop} (Z:fY K C f fld) (X:K.In h) (dH:rest.length<=sizeLine)
  (hq:∀ h' e,Heap.MadeExcOf h h' e (.ref C) rest->wpAny (model prog w) (A.under (.builtin "type.__call__" ⟨.ref C::rest,[]⟩)) (call (.ref f) (.ref e::rest)) (fun r s'=>r=.none/\Q (.ref e) s') E ⟨h',g,d,t,os⟩) :
  wpAny (model prog w) A (call (.ref C) rest) Q E ⟨h,g,d,t,os⟩:=by
 obtain ⟨bm,N,nm,qn,bs,sn,sub,ab,col,dd,k0,k1,k2,k3,k5,hC,T,_⟩:=v8 X Z.q;have f1:=tc_lookup;have f2:=tc_bind (.ref C);have hT:(⟨h,g,d,t,os⟩:Shared).TypeIs (.ref C) "type" := ⟨_,hC,rfl⟩;refine wpAny_call (codeAny_of_tree ?_);show wpAny _ _ (callAny (.ref C) _) _ _ _
 repeat (any_goals (first | assumption | with_reducible refine wpAny_loadPart_at hC ?_ | wp_step))
 exact ⟨rfl,codeAny_call_builtin_at (Code.quiet_builtin _ (by decide +kernel)) entry_typeCall (wpAny_check_type_call_sub hC (Ph Z X dH fun h' e hm=>hq h' e hm))⟩
end
theorem Y3 {M:Model} {A:Around} {E:Value->Shared->Prop} {s:Shared} {env:Env} {K:PySem.W.Frag} {C:Addr} {x:Sem Value} {Q:Flow->Shared->Prop} (hb:PySem.W.mroIn K C (.type "BaseException")=some true) (cA:PySem.W.typeIn K (.ref C)=some (.type "type")) (hh:A.handled=none)
  (h:wpAny M A x (fun v s₁=>∃ e o vs,v=.ref e/\s₁.heap.get? e=some o/\o.cls=.ref C/\o.data=.fields vs/\vs[1]?=some .none/\K.In s₁.heap/\E (.ref e) s₁) E s) :
  wpAny M A (raiseStmt env (some x) none) Q E s:=by
 unfold raiseStmt;refine wpAny_bind (wpAny_mono h (fun v s₁ h₁=>?_) fun _ _ x=>x);obtain ⟨e,o,vs,rfl,he,hc,hd,h1,X,hE⟩:=h₁;obtain ⟨hp,g,d,tk,os⟩:=s₁;have L0:PySem.W.Looks M hp (typeOf (.ref e)) (.ref C):=hc ▸ (PySem.W.Looks.ld he).andThen .now;have L1:=PySem.W.looks_mroIn (M:=M) X hb;have L2:PySem.W.Looks M hp (isType (.ref e)) false:=by
  obtain ⟨oc,od,Ed,cU⟩:=o;dsimp only at hd;subst hd;intro A' Q' E' s' k q;unfold isType loadHead;exact wpAny_bind (wpAny_loadPart (k _ _ he) (wpAny_pure q))
 have L3:PySem.W.Looks M hp (isExcClass (.ref e)) false:=L2.andThen .now;have L4:PySem.W.Looks M hp (isInstance (.ref e) (.type "BaseException")) true:=L0.andThen L1;have L5:=PySem.W.looks_typeIn (M:=M) X cA;refine wpAny_bind (wpAny_pure (wpAny_bind (wpAny_holding ?_)));unfold excFromValue;refine wpAny_bind (L3.at ?_);simp only [Bool.false_eq_true,if_false];refine wpAny_bind (L4.at ?_);simp only [if_true];refine wpAny_pure ?_;refine wpAny_bind (L2.at ?_);simp only [Bool.false_eq_true,if_false];unfold raisedInstance;refine wpAny_bind (wpAny_bind (L0.at (wpAny_bind (L5.at ?_))));refine wpAny_pure ?_;unfold setFlight;refine wpAny_bind (wpAny_bind (wpAny_field he hd h1 ?_));refine wpAny_pure ?_;exact wpAny_raiseNew_none hh hE
theorem E8 {fs:List Addr} {H H':Hp} {h h1 base:Heap} (u:Un fs [] H H' h h1):∀ l:List Env,(∀ b∈bF l,b∈fs/\H b=none)->h.FunFrames base l->h1.FunFrames base l
 | [],_,_=>trivial
 | env::r,hs,⟨hk,⟨L,o,hf,hn,ho,hd⟩,hr⟩=>by
  have e:bF (env::r)=L::bF r:=by
   unfold bF;rw [List.filterMap_cons,hf]
  obtain ⟨h1',h2'⟩:=hs L (by rw [e]; exact List.mem_cons_self);obtain ⟨sl,e1⟩:=u.slot L o ho h2' h1' (by simp);exact ⟨hk,⟨L,_,hf,hn,e1,hd⟩,E8 u r (fun b hb=>hs b (by rw [e]; exact List.mem_cons_of_mem _ hb)) hr⟩
section
variable {X:Cx} {pins:List (Addr×Obj)} {σ:St} {H H':Hp} {s s1:Shared} {ea C:Addr} {od:Option Addr}
theorem Inv.Od {M:Model} {A:Around} {E:Value->Shared->Prop} (I:Inv X pins σ H s) (O:Own X) (hA:A.frames=some X.stack) (os:s1.os=s.os) (bare:AllBare s1.gens) (un:Un (bF X.stack) [] H H' s.heap s1.heap) (aA:bZ X.prog X.w H' s1.heap)
  (free:H' ea=none) (new:s.heap.get? ea=none) (hn:lS ea (.ref C) od s1.heap):wpAny M A (leaving X.env (.ref ea)) (fun _ s''=>mW X.prog X.w X.outer X.H₀ X.s₀ ea C od H' s'') E s1:=by
 have aR:(PySem.W.hideAll s1.heap (ea::bF X.stack)).StaysIn s1.heap:=fun b o q=>PySem.W.of_hideAll _ q;have kS:s1.heap.FunFrames (PySem.W.hideAll s1.heap (ea::bF X.stack)) X.stack:=PySem.W.funFrames_hide (E8 un X.stack (fun b hb=>⟨hb,I.uG b hb⟩) I.stack) fun env he a ha=>List.mem_cons_of_mem _ (List.mem_filterMap.mpr ⟨env,he,ha⟩);have Df:(PySem.W.hideAll s1.heap (ea::bF X.stack)).get? ea=none:=PySem.W.hideAll_none _ List.mem_cons_self;have gp:rg (PySem.W.hideAll s1.heap (ea::bF X.stack)) (bF X.stack) s.heap H' s1.heap:=fun b o e hb z=>by
  refine PySem.W.hideAll_get _ e fun hm=>?_;rcases List.mem_cons.mp hm with q | q
  ·rcases z with ⟨u,z⟩ | ⟨u,z⟩
   ·rw [q,new] at z; cases z
   ·rw [q,free] at z; cases z
  ·exact hb q
 generalize PySem.W.hideAll s1.heap (ea::bF X.stack)=B at aR kS Df gp;rw [O.df] at kS hA;obtain ⟨oe,he,hc,xR,vs,a0,hd,h1,h0⟩:=id hn;refine aD ((Kp.leaving X.env (.ref ea)).any hn.hd (wpAny_leaving_firstW (Q:=fun _ s''=>∃ h2,s''={ s1 with heap:=h2 }/\Heap.LeftW B (X.env::X.outer) ea oe.cls a0 s1.heap h2) hA kS O.frame he aR Df hd h1 h0 fun h2 x=>⟨h2,rfl,x⟩)) fun _ s'' ⟨⟨h2,e,k1,⟨_,_,k2⟩,k3,k4⟩,hd2⟩=>?_;subst e;rw [hc] at k3;exact I.CP (s':={ s1 with heap:=h2 }) O os bare un aA free new gp ⟨k1,Df,k2,k3⟩ k4 hd2
structure zk (X:Cx) (R:St->XK):Prop where
 made:∀ (pins:List (Addr×Obj)) (σ:St) (H H':Hp) (s s1:Shared) (ea C:Addr) (od:Option Addr),Inv X pins σ H s->s1.os=s.os->AllBare s1.gens->Un (bF X.stack) [] H H' s.heap s1.heap->bZ X.prog X.w H' s1.heap->H' ea=none->s.heap.get? ea=none ->
  lS ea (.ref C) od s1.heap->R σ (.ref C) od H'->X.xe (.ref ea) s1
end
theorem rb {P:Program} {w:World} {K:PySem.W.Frag} {mg:Str->Option Value} {base:Heap} {N:List Str} {qual:Str} {scope:Scope} {f:Addr} {cd:Value} {A:Around} {outer:List Env} {s₀:Shared} {H₀:Hp} {E:XK} :
  zk (cF (bJ P w) P w K mg base N qual scope f cd A outer s₀ H₀ E) (fun _=>E) where
 made:=fun pins σ H H' s s1 ea C od I os bare un aA free new hn hE=>aD (I.Od ⟨rfl,rfl,rfl⟩ I.ok.frames os bare un aA free new hn) fun _ s'' z=>⟨ea,C,od,H',rfl,z,hE⟩
def Cq (C:Addr) (fld:Str) (R:St->XK) (t:TA):TS:=fun _ σ H=>t σ H fun vs H1=>∃ v,vs=[v]/\∀ d,H1 d=none->R σ (.ref C) (some d) (upd H1 d (.xd [(fld,v)]))
theorem RP {X:Cx} {R:St->XK} {x fld:Str} {C f:Addr} {fd:FuncData} {k:Nat} {ps:List Str} {e:Expr} {es:List Expr} {t:TA} {np bw pos:Pos} (hx:zk X R) (hex:X.ex=[]) (hc:X.calm=true) (hm:X.mg x=some (.ref C)) (Z:fY X.K C f fld) (cA:PySem.W.typeIn X.K (.ref C)=some (.type "type"))
  (F:aB X.prog X.w X.K X.mg X.base aL k f fd ps (ly C fld)) (hr:aZ (k+1) X.A) (hb:Binds X.K fd ps []) (ha:PA X (e::es) t)
  (hg:Gl X x:=by rfl) (hs:(e::es).all noStar=true:=by rfl) (bI:(x == ("__debug__" : Str))=false:=by decide):PS X (.Raise (some (.Call (.Name x np) (e::es) [] bw)) none pos) (Cq C fld R t):=by
 have hs':=hs;rw [List.all_cons,Bool.and_eq_true] at hs';intro pins s σ H D I h;rw [arm_exec_Raise];refine wpAny_bind (wpAny_standAt ?_);show wpAny _ _ (raiseStmt X.env (some (do let v <- eval (.Call (.Name x np) (e::es) [] bw) X.env; standAt pos; pure v)) none) _ _ s;refine Y3 Z.be cA (I.ok.hd hc) (wpAny_bind (wpAny_mono (wpAny_Call_Name_kw (jR I hg hm ?_ bI)) (fun v s3 h3=>wpAny_bind (wpAny_standAt (wpAny_pure h3))) fun _ _ z=>z));refine PySem.W.callWith_K (h₀:=X.base) I.ok.mod.hV Z.kp (aD (ha bw pins s σ H _ I h) fun us s2 ⟨vs,H2,I2,r,v,ev,hR⟩=>⟨I2.bT,?_⟩) (fi hs'.1) (hZ hs'.2);subst ev;obtain ⟨u,rfl,ru⟩:=vals1 r;obtain ⟨h2,g2,d2,t2,xC⟩:=s2;refine Vs Z I2.bT (by show 1<=sizeLine; decide) fun h3 ex mB=>?_;have fv:∀ b,(∃ o,h2.get? b=some o)->b≠ex:=fun b ⟨o,e'⟩ z=>by
  have:=mB.new;rw [z,this] at e'; cases e'
 have mz:H2 ex=none:=by
  cases q:H2 ex with
  | none=>rfl
  | some o=>exact absurd rfl (fv ex (I2.aA ex o q).there)
 have I3:Inv X pins σ H2 ⟨h3,g2,d2,t2,xC⟩:=I2.kept (t':=t2) mB.keeps;have I4:Inv X pins σ (upd H2 ex (dh ex C none)) ⟨h3,g2,d2,t2,xC⟩:=by
  refine I3.wU mz ?_ ?_ ?_ ?_ (JE (NM mB))
  ·cases q:X.s₀.heap.get? ex with
   | none=>rfl
   | some o =>
    exact absurd rfl (fv ex (I2.base.there ex o q (by rw [hex]; simp)))
  ·obtain ⟨m,⟨o,_,_,ho,_⟩,_⟩:=I2.loc;exact Ne.symm (fv _ ⟨o,ho⟩)
  ·intro y c e';obtain ⟨w',o,ho,_⟩:=I2.cell y c e';exact fv _ ⟨o,ho⟩
  ·intro p hp;exact fv _ ⟨_,(I2.pin p hp).1⟩
 have hl:([Value.ref ex,u]++([]:List Value)).length=ps.length:=by
  have:=F.len [.ref ex,v] (upd H2 ex (dh ex C none)) (fun _ _=>True) E0 ⟨ax,fun _ _=>True.intro⟩;exact this
 refine wpAny_call (codeAny_mono (F.run (X.A.under (.builtin "type.__call__" ⟨[.ref C,u],[]⟩)) X.stack ⟨h3,g2,d2,t2,xC⟩ (upd H2 ex (dh ex C none)) ⟨[.ref ex,u],[]⟩ [.ref ex,u] [.ref ex,v]
  (fun r H5=>r=.au/\∃ d,upd H2 ex (dh ex C none) d=none/\H5=upd (upd (upd H2 ex (dh ex C none)) ex (dh ex C (some d))) d (.xd [(fld,v)])) E0 (hr.make C [u] []) (I4.oB.make C [u] []) (hb _ [.ref ex,u] I4.bT hl) (.cons rfl (.cons ru .nil))
  ⟨ax,fun d hd=>⟨rfl,d,hd,rfl⟩⟩) fun r s5 hq=>?_)
 cases r with
 | error e'=>exact False.elim hq
 | ok fl =>
  cases fl with
  | next=>exact False.elim hq
  | brk=>exact False.elim hq
  | cont=>exact False.elim hq
  | ret u5 =>
   obtain ⟨v5,H5,os5,bare5,me,DF,rv5,rfl,d,ju,rfl⟩:=hq;have kH:d≠ex:=fun z=>by rw [z,ax] at ju; cases ju
   have hd2:H2 d=none:=by rw [ag kH] at ju; exact ju
   have e5:upd (upd (upd H2 ex (dh ex C none)) ex (dh ex C (some d))) d (.xd [(fld,v)]) ex=some (dh ex C (some d)):=by rw [ag (Ne.symm kH),ax]
   have e6:∀ b,b≠ex->upd (upd (upd H2 ex (dh ex C none)) ex (dh ex C (some d))) d (.xd [(fld,v)]) b=upd H2 d (.xd [(fld,v)]) b:=fun b hb=>by
    by_cases q:b=d
    ·rw [q,ax,ax]
    ·rw [ag q,ag hb,ag hb,ag q]
   have e7:upd H2 d (.xd [(fld,v)]) ex=none:=by rw [ag (Ne.symm kH)]; exact mz
   have e4:∀ b,b≠ex->upd H2 ex (dh ex C none) b=H2 b:=fun b hb=>ag hb;generalize upd (upd (upd H2 ex (dh ex C none)) ex (dh ex C (some d))) d (.xd [(fld,v)])=H5 at me DF e5 e6;obtain ⟨hN,_,_⟩:=(show bH X.prog X.w H5 s5.heap ex (dh ex C (some d)) from DF ex _ e5);have ql:∀ b o,H2 b=some o->b≠ex:=fun b o q=>fU q mz;have MJ:Un (bF X.stack) [] H2 (upd H2 d (.xd [(fld,v)])) h2 s5.heap:=by
    refine ⟨fun b o q n hb hx=>?_,fun b o q n hb hx=>?_,fun b o q n hx=>?_,fun b o q hx=>?_,fun b xs q=>?_,fun b o v' q=>?_,fun b ps' q=>?_⟩
    ·exact me.keep b o (mB.keeps b o q) (by rw [e4 b (fv b ⟨o,q⟩)]; exact n) hb hx
    ·exact me.slot b o (mB.keeps b o q) (by rw [e4 b (fv b ⟨o,q⟩)]; exact n) hb hx
    ·rw [<- e6 b (fv b ⟨o,q⟩)];exact me.free b o (mB.keeps b o q) (by rw [e4 b (fv b ⟨o,q⟩)]; exact n) hx
    ·exact me.there b o (mB.keeps b o q) hx
    ·rw [<- e6 b (ql b _ q)];exact me.fS b xs (by rw [e4 b (ql b _ q)]; exact q)
    ·rw [<- e6 b (ql b _ q)];exact me.fg b o v' (by rw [e4 b (ql b _ q)]; exact q)
    ·rw [<- e6 b (ql b _ q)];exact me.fH b ps' (by rw [e4 b (ql b _ q)]; exact q)
   have hokF:bZ X.prog X.w (upd H2 d (.xd [(fld,v)])) s5.heap:=fun b o q=>by
    have hb:b≠ex:=fun z=>by rw [z,e7] at q; cases q
    have q5:H5 b=some o:=by rw [e6 b hb]; exact q
    have ne5:∀ c o',H5 c=some o'->o'≠dh ex C (some d)->c≠ex:=fun c o' z1 z2 z=>by rw [z,e5] at z1; exact z2 (Option.some.inj z1).symm
    refine (DF b o q5).gg (fun _ _ _ z=>z) (fun c z=>?_) fun c xs z=>?_
    ·rw [<- e6 c (ne5 c _ z (fun z'=>by cases z'))]; exact z
    ·rw [<- e6 c (ne5 c _ z (fun z'=>by cases z'))]; exact z
   obtain ⟨oe,he,xI,xR,vs',a0,xJ,h1,h0⟩:=id hN;refine ⟨rv5,ex,oe,vs',rfl,he,xI,xJ,h1,?_,hx.made pins σ H2 _ ⟨h2,g2,d2,t2,xC⟩ s5 ex C (some d) I2 os5 bare5 MJ hokF e7 mB.new hN (hR d hd2)⟩;exact I2.ok.mod.hV.keeps fun b o z=>MJ.keep b o (I2.bs b o z).1 (I2.bs b o z).2 (fun hb=>by have:=(I2.stack.mem hb).1; rw [z] at this; cases this) (by simp)
section
variable {prog:Program} {w:World} {A:Around} {E:Value->Shared->Prop} {s:Shared} {K:PySem.W.Frag} {x C f d:Addr} {fld:Str}
open Builtin Builtin.ObjectAttr in
theorem RF {M:Model} {h:Heap} {mA:Str->Option Value} {u:Value} (Z:fY K C f fld) (X:K.In h) (I:cS x (.ref C) (some d) h) (hn:h.Ns1 d mA) (hu:mA fld=some u):PySem.W.Looks M h (find (.ref x) (.ref C) fld) (.value u):=by
 have L1:=PySem.W.looks_findIn (M:=M) X Z.na;obtain ⟨bm,N,nm,qn,bs,sn,sub,ab,col,dd,k0,k1,k2,k3,k5,hC,T,MX⟩:=v8 X Z.q;have Lc:PySem.W.Looks M h (classData C) _:=(PySem.W.Looks.ld (part:=none) hC).andThen .now;obtain ⟨o,hx,hc,kK,vs,eW⟩:=I;obtain ⟨oc,od,Ed,cU⟩:=o;dsimp only at hc kK eW;subst hc kK eW;intro A' Q' E' s' k q;unfold find;refine wpAny_bind (L1 _ _ _ _ k ?_);refine wpAny_bind (wpAny_pure (wpAny_bind (wpAny_pure ?_)));show wpAny M A' (ownThenClass (.ref x) fld none none) Q' E' s';unfold ownThenClass inOwnDict ownDict;refine wpAny_bind (wpAny_bind (wpAny_bind (wpAny_loadPart (k _ _ hx) ?_)));show wpAny M A' (instanceDict x false) _ E' s';unfold instanceDict;refine wpAny_bind (wpAny_loadPart (k _ _ hx) (wpAny_bind (Lc _ _ _ _ k ?_)));refine wpAny_pure (a:=some d) ?_;show wpAny M A' (nsGet d fld) _ E' s';refine wpAny_nsGet (hn.ns.keeps k) ?_;rw [hu];exact wpAny_bind (wpAny_rule (wpAny_pure q))
theorem ZL {v:V} {u:Value} (r:RelV v u):handedOut u=pure u:=by
 cases v <;> first
  | (cases r; rfl)
  | (obtain ⟨t,rfl⟩:=r; rfl)
theorem RW {b:Bool} {Q:Value->Shared->Prop} {mA:Str->Option Value} {u:Value} (Z:fY K C f fld) (ZK:iV K C) (X:K.In s.heap) (I:cS x (.ref C) (some d) s.heap) (hn:s.heap.Ns1 d mA) (hu:mA fld=some u) (hh:handedOut u=pure u)
  (h:Q u { s with toks:=s.toks+1 }):wpAny (model prog w) A (getAttr (.ref x) fld b) Q E s:=by
 obtain ⟨hp,g,dr,t,os⟩:=s;have L0:=mV (M:=model prog w) I;have L1:=PySem.W.looks_findIn (M:=model prog w) X ZK.pF;have L2:=PySem.W.looks_findIn (M:=model prog w) X ZK.qU;have L3:=RF (M:=model prog w) Z X I hn hu;unfold getAttr getAttrBy;refine wpAny_bind (wpAny_mkText (wpAny_holding (wpAny_bind (L0.at (wpAny_bind (L1.at ?_))))));show wpAny _ _ (getAttrByItsOwn (.ref x) (.str fld t) (.ref C) (.builtin "BaseException.__getattribute__") true b) _ _ _;unfold getAttrByItsOwn;refine wpAny_bind (L2.at ?_);refine wpAny_bind (wpAny_attempt (wpAny_holding ?_));have ec:callGetattribute (.ref x) (.str fld t) (.builtin "BaseException.__getattribute__") b=boundAndCalled (.builtin "BaseException.__getattribute__") (.ref x) (.str fld t):=by
  unfold callGetattribute;cases b <;> rfl
 rw [ec];unfold boundAndCalled;refine wpAny_bind (wpAny_of_eq (PySem.F.attr_ValueError.ga.bind (.ref x)) ?_);refine wpAny_call (codeAny_call_builtin PySem.F.attr_ValueError.ga.plain PySem.F.entry_bexc_ga (JG ZK X I ?_));show wpAny _ _ (Builtin.«object.__getattribute__» ⟨[.ref x,.str fld t],[]⟩) _ _ _;unfold Builtin.«object.__getattribute__»;refine wpAny_bind (wpAny_pure (wpAny_bind (wpAny_pure (wpAny_bind (L0.at (wpAny_bind (L3.at ?_)))))));refine wpAny_pure ?_;show wpAny _ _ (handedOut u) _ _ _;rw [hh];exact wpAny_pure h
end
def zg (C:Addr) (fld:Str) (ta:TE):TE:=fun σ H Q=>ta σ H fun x H1=>∃ ea d fs v,x=.ref ea/\H1 ea=some (kb ea C (some d))/\H1 d=some (.xd fs)/\fs.lookup fld=some v/\Q v H1
theorem YL {X:Cx} {C f:Addr} {fld:Str} {e:Expr} {ta:TE} {pos:Pos} (Z:fY X.K C f fld) (ZK:iV X.K C) (he:PE X e ta) (hb:attributeBase e fld X.env (eval e X.env)=eval e X.env):PE X (.Attribute e fld pos) (zg C fld ta):=by
 intro pins s σ H Q I h;refine Gp hb (aD (he pins s σ H _ I h) fun u s1 ⟨x,H1,I1,rx,ea,d,fs,v,ex,h1,h2,hl,q⟩=>?_);subst ex;obtain rfl:u=Value.ref ea:=rx;obtain ⟨p,_,_⟩:=(show bH X.prog X.w H1 s1.heap ea (kb ea C (some d)) from I1.aA ea _ h1);obtain ⟨mA,eC,hrel⟩:=(show bH X.prog X.w H1 s1.heap d (.xd fs) from I1.aA d _ h2);have hr:=hrel fld;rw [hl] at hr;cases hm:mA fld with
 | none=>rw [hm] at hr; exact hr.elim
 | some u' =>
  rw [hm] at hr;exact RW Z ZK I1.bT p eC hm (ZL hr) ⟨v,H1,I1.tok _,hr,q⟩
inductive FI (C:Addr) (f:Str) (x:V) (H:Hp) (Q:V->Prop):Prop
 | mk:∀ a dx fs v,x=.ref a->H a=some (.ins C dx fs)->fs.lookup f=some v->Q v->FI C f x H Q
inductive SI (C:Addr) (f:Str) (x y:V) (H:Hp) (R:Hp->Prop):Prop
 | mk:∀ a dx fs,x=.ref a->H a=some (.ins C dx fs)->fs.length < 1000->R (upd H a (.ins C dx (ay f y fs)))->SI C f x y H R
inductive AI (C:Addr) (f:Str) (x:V) (H:Hp) (Q:Addr->V->Prop):Prop
 | mk:∀ a dx fs v,x=.ref a->H a=some (.ins C dx fs)->fs.lookup f=some v->Q a v->AI C f x H Q
inductive BI (C:Addr) (f:Str) (a:Addr) (z:V) (H:Hp) (R:Hp->Prop):Prop
 | mk:∀ dx fs,H a=some (.ins C dx fs)->fs.length < 1000->R (upd H a (.ins C dx (ay f z fs)))->BI C f a z H R
def wY (C:Addr) (f:Str) (ta:TE):TE:=fun σ H Q=>ta σ H fun x H1=>FI C f x H1 fun v=>Q v H1
def sL (C:Addr) (f:Str) (ta tv:TE):TS:=fun D σ H=>tv σ H fun y H1=>ta σ H1 fun x H2=>SI C f x y H2 fun H3=>D.nx σ H3
def Ag (C:Addr) (f:Str) (ta tv:TE) (rd:R2):TS:=fun D σ H=>ta σ H fun x H1=>AI C f x H1 fun a v=>tv σ H1 fun y H2=>rd v y H2 fun z H3=>BI C f a z H3 fun H4=>D.nx σ H4
def Bc (C:Addr) (m:Str) (sp:Sp) (bj:List V) (R:St->XK) (ta:TE) (t:TA):TE:=fun σ H Q=>ta σ H fun x H1=>MI C m x H1 (t σ H1 fun vs H2=>sp (x::(vs++bj)) H2 Q (R σ))
section
variable {X:Cx} {k:Nat} {f C:Addr} {fd:FuncData} {ps:List Str} {sp:Sp} {bj:List V} {ds:List Value} {R:St->XK} {x m:Str} {p pos apos:Pos} {e o:Expr} {es:List Expr} {ta:TE} {t:TA}
theorem P2 {pl:Sem Bool} (he:PE X o ta) (c:cK X.K C) (hm:Meth X.K C m f) (F:aB X.prog X.w X.K X.mg X.base (bJ X.prog X.w) k f fd ps sp) (hr:aZ k X.A) (hb:Binds X.K fd ps ds) (hd:Vals bj ds) (hx:gz X R) (ha:PA X (e::es) t) (hs:(e::es).all noStar=true:=by rfl)
  (ht:eval (.Call (.Attribute o m apos) (e::es) [] pos) X.env=(do
   let ov <- eval o X.env
   standAt apos.atName
   let (f,first) <- holding [ov] (getMethod ov m pl)
   callWith pos f first (backTo pos (starEach (e::es) X.env)) (backToKw pos (keywordEach [] X.env))):=by rfl):PE X (.Call (.Attribute o m apos) (e::es) [] pos) (Bc C m sp bj R ta t):=by
 have hs':=hs;rw [List.all_cons,Bool.and_eq_true] at hs';intro pins s σ H Q I h;refine PySem.W.methodCall_KW (pl:=pl) (aD (he pins s σ H _ I h) fun u s1 ⟨x,H1,I1,rx,a,dx,fs,ex,ea,l,q⟩=>?_) ht;subst ex;obtain rfl:u=Value.ref a:=rx;refine AQ I1 ea c hm l (PySem.W.callWith_K (first:=[.ref a]) (h₀:=X.base) I.ok.mod.hV hm.kp (aD (ha pos pins s1 σ H1 _ I1 q) fun us s2 ⟨vs,H2,I2,r,q2⟩=>⟨I2.bT,?_⟩) (fi hs'.1) (hZ hs'.2));exact Gm (us:=.ref a::us) (vs:=.ref a::vs) F hr hb hd hx I2 (.cons rfl r) q2
end
section
variable {X:Cx} {C:Addr} {f:Str} {e o value:Expr} {ta tv:TE} {pos pos' tpos:Pos}
theorem Wm (c:cK X.K C) (n:bA X.K C f) (he:PE X e ta) (hb:attributeBase e f X.env (eval e X.env)=eval e X.env):PE X (.Attribute e f pos) (wY C f ta):=by
 intro pins s σ H Q I h;refine Gp hb (aD (he pins s σ H _ I h) fun u s1 ⟨x,H1,I1,rx,a,dx,fs,v,ex,ea,l,q⟩=>?_);subst ex;obtain rfl:u=Value.ref a:=rx;exact JU I1 ea c n l fun u' s2 I2 ru=>⟨v,H1,I2,ru,q⟩
theorem RT (c:cK X.K C) (n:bA X.K C f) (ha:PE X o ta) (hv:PE X value tv) (hs:swapsWith value (some (.Attribute o f pos')) pos.line X.env=pure false):PS X (.Assign [.Attribute o f pos'] value pos) (sL C f ta tv):=by
 intro pins s σ H D I h;refine plainObj_wpAny_Assign_Attribute (aD (hv pins s σ H _ I h) fun u s1 ⟨y,H1,I1,ry,q⟩=>aD (ha pins s1 σ H1 _ I1 q) fun ov s2 ⟨x,H2,I2,rx,a,dx,fs,ex,ea,l,q2⟩=>?_) hs;subst ex;obtain rfl:ov=Value.ref a:=rx;exact IJ I2 ea c n l ry fun s3 I3=>⟨σ,_,I3,q2⟩
theorem Xq {op:Operator} {rd:R2} (c:cK X.K C) (n:bA X.K C f) (ha:PE X o ta) (hv:PE X value tv) (En:CM X op rd):PS X (.AugAssign (.Attribute o f tpos) op value pos) (Ag C f ta tv rd):=by
 intro pins s σ H D I h;refine wpAny_AugAssign_AttributeAny (aD (ha pins s σ H _ I h) fun ov s1 ⟨x,H1,I1,rx,a,dx,fs,v,ex,ea,l,q⟩=>?_);subst ex;obtain rfl:ov=Value.ref a:=rx;refine JU I1 ea c n l fun u s2 I2 ru=>aD (hv pins s2 σ H1 _ I2 q) fun w3 s3 ⟨y,H2,I3,ry,q3⟩=>aD (En pins s3 σ H2 v y u w3 _ I3 ru ry q3) fun w4 s4 ⟨z,H3,I4,rz,dx',fs',ea',l',q4⟩=>?_;exact IJ I4 ea' c n l' rz fun s5 I5=>⟨σ,_,I5,q4⟩
end
theorem F9 {X:Cx} {op:CmpOp} {a b:Expr} {t:TE} {pos:Pos} (h:PC X op a b t) (hm:behindInMarks op b=false:=by first | exact uV _ (by decide) (by decide) | rfl):PT X (.Compare a [op] [b] pos) (lM t):=by
 intro pins s σ H Q I hw;refine wpAny_isTrue_Compare1 (aD (h pins s σ H _ I hw) fun v s1 h1=>aD h1 fun u s2 h2=>aD h2 fun c s3 ⟨x,H1,I1,r1,q1⟩=>?_) hm;obtain ⟨k,rfl,q⟩:=zN q1;cases r1;exact wpAny_truthy_bool ⟨H1,I1,q⟩
namespace Dv
section
variable {X:Cx} {a b o e i value:Expr} {ta tb td ty tv:TE} {es:List Expr} {t:TA} {pos pos' apos bw p tpos:Pos} {f C:Addr} {fn m x:Str} {k:Nat} {fd:FuncData} {ps:List Str} {sp:Sp} {bj:List V} {ds:List Value} {R:St->XK} {CX:dA} {E:XK} {tA:TT} {body:List Stmt} {tB:TS}
theorem fld (c:cK X.K C) (n:bA X.K C fn) (he:QE X e ta) (hb:attributeBase e fn X.env (eval e X.env)=eval e X.env:=by rfl):QE X (.Attribute e fn pos) (wY C fn ta):=⟨Wm c n he.h hb⟩
theorem bu (c:cK X.K C) (n:bA X.K C fn) (ha:QE X o ta) (hv:QE X value tv) (hs:swapsWith value (some (.Attribute o fn pos')) pos.line X.env=pure false:=by rfl):QS X (.Assign [.Attribute o fn pos'] value pos) (sL C fn ta tv):=⟨RT c n ha.h hv.h hs⟩
theorem jT {op:Operator} {rd:R2} (c:cK X.K C) (n:bA X.K C fn) (En:CM X op rd) (ha:QE X o ta) (hv:QE X value tv):QS X (.AugAssign (.Attribute o fn tpos) op value pos) (Ag C fn ta tv rd):=⟨Xq c n ha.h hv.h En⟩
theorem Fj (Z:fY X.K C f fn) (ZK:iV X.K C) (he:QE X e ta) (hb:attributeBase e fn X.env (eval e X.env)=eval e X.env:=by rfl):QE X (.Attribute e fn pos) (zg C fn ta):=⟨YL Z ZK he.h hb⟩
theorem GF (Z:fY X.K C f fn) (ha:QE X o ta) (hv:QE X value tv) (hs:swapsWith value (some (.Attribute o fn pos')) pos.line X.env=pure false:=by rfl):QS X (.Assign [.Attribute o fn pos'] value pos) (zP C fn ta tv):=⟨RX Z ha.h hv.h hs⟩
theorem bf {pl:Sem Bool} (c:cK X.K C) (hm:Meth X.K C m f) (F:aB X.prog X.w X.K X.mg X.base CX k f fd ps sp) (hr:aZ k X.A) (hb:Binds X.K fd ps ds) (hd:Vals bj ds) (hx:Passes CX X E) (ho:QE X o ta) (ha:QA X (e::es) t) (hs:(e::es).all noStar=true:=by rfl)
  (ht:eval (.Call (.Attribute o m apos) (e::es) [] pos) X.env=(do
   let ov <- eval o X.env
   standAt apos.atName
   let (f,first) <- holding [ov] (getMethod ov m pl)
   callWith pos f first (backTo pos (starEach (e::es) X.env)) (backToKw pos (keywordEach [] X.env))):=by rfl):QE X (.Call (.Attribute o m apos) (e::es) [] pos) (qH C m sp bj E ta t):=by
 have hs':=hs;rw [List.all_cons,Bool.and_eq_true] at hs';exact ⟨Zi ho.h c hm F hr hb hd hx ha.h (fi hs'.1) (hZ hs'.2) ht⟩
theorem nB {pl:Sem Bool} (c:cK X.K C) (hm:Meth X.K C m f) (F:aB X.prog X.w X.K X.mg X.base CX k f fd ps sp) (hr:aZ k X.A) (hb:Binds X.K fd ps ds) (hd:Vals bj ds) (hx:Passes CX X E) (ho:QE X o ta)
  (ht:eval (.Call (.Attribute o m apos) [] [] pos) X.env=(do
   let ov <- eval o X.env
   standAt apos.atName
   let (f,first) <- holding [ov] (getMethod ov m pl)
   callWith pos f first (backTo pos (starEach [] X.env)) (backToKw pos (keywordEach [] X.env))):=by rfl):QE X (.Call (.Attribute o m apos) [] [] pos) (qH C m sp bj E ta lh):=⟨R3 ho.h c hm F hr hb hd hx ht⟩
theorem cX {pl:Sem Bool} (c:cK X.K C) (hm:Meth X.K C m f) (F:aB X.prog X.w X.K X.mg X.base (bJ X.prog X.w) k f fd ps sp) (hr:aZ k X.A) (hb:Binds X.K fd ps ds) (hd:Vals bj ds) (hx:gz X R) (ho:QE X o ta) (ha:QA X (e::es) t) (hs:(e::es).all noStar=true:=by rfl)
  (ht:eval (.Call (.Attribute o m apos) (e::es) [] pos) X.env=(do
   let ov <- eval o X.env
   standAt apos.atName
   let (f,first) <- holding [ov] (getMethod ov m pl)
   callWith pos f first (backTo pos (starEach (e::es) X.env)) (backToKw pos (keywordEach [] X.env))):=by rfl):QE X (.Call (.Attribute o m apos) (e::es) [] pos) (Bc C m sp bj R ta t):=⟨P2 ho.h c hm F hr hb hd hx ha.h hs ht⟩
theorem make (M:Mk X.K C f) (F:aB X.prog X.w X.K X.mg X.base CX k f fd ps sp) (hr:aZ (k+1) X.A) (hm:X.mg x=some (.ref C)) (hb:Binds X.K fd ps ds) (hd:Vals bj ds) (hx:Passes CX X E) (ha:QA X (e::es) t) (hg:Gl X x:=by rfl) (hs:(e::es).all noStar=true:=by rfl) (bI:(x == ("__debug__" : Str))=false:=by decide) :
  QE X (.Call (.Name x p) (e::es) [] pos) (qT C sp bj E t):=by
 have hs':=hs;rw [List.all_cons,Bool.and_eq_true] at hs';exact ⟨Rz M F hr hg hm hb hd hx ha.h bI (fi hs'.1) (hZ hs'.2)⟩
theorem XT (M:Mk X.K C f) (F:aB X.prog X.w X.K X.mg X.base CX k f fd ps sp) (hr:aZ (k+1) X.A) (hm:X.mg x=some (.ref C)) (hb:Binds X.K fd ps ds) (hd:Vals bj ds) (hx:Passes CX X E) (hg:Gl X x:=by rfl) (bI:(x == ("__debug__" : Str))=false:=by decide) :
  QE X (.Call (.Name x p) [] [] pos) (qT C sp bj E lh):=⟨OG M F hr hg hm hb hd hx bI⟩
theorem sO (hx:zk X R) (hex:X.ex=[]) (hc:X.calm=true) (hm:X.mg x=some (.ref C)) (Z:fY X.K C f fn) (cA:PySem.W.typeIn X.K (.ref C)=some (.type "type")) (F:aB X.prog X.w X.K X.mg X.base aL k f fd ps (ly C fn)) (hr:aZ (k+1) X.A) (hb:Binds X.K fd ps []) (ha:QA X (e::es) t)
  (hg:Gl X x:=by rfl) (hs:(e::es).all noStar=true:=by rfl) (bI:(x == ("__debug__" : Str))=false:=by decide):QS X (.Raise (some (.Call (.Name x p) (e::es) [] bw)) none pos) (Cq C fn R t):=⟨RP hx hex hc hm Z cA F hr hb ha.h hg hs bI⟩
theorem uD (hu:X.A.units+1 < cLine) (ho:QE X o td) (hi:QE X i ty) (hs:AX i:=by intro _ _; rfl):QE X (.Subscript o i pos) (AM td ty):=⟨YZ hu ho.h hi.h hs⟩
theorem AU (hu:X.A.units+1 < cLine) (hi:QE X i ty) (ho:QE X o td) (hm:behindInMarks .In o=false:=by rfl):QT X (.Compare i [.In] [o] pos) (lM (Bn ty td)):=⟨F9 (ZX hu hi.h ho.h) hm⟩
theorem Q9 (hu:X.A.units+1 < cLine) (hi:QE X i ty) (ho:QE X o td) (hm:behindInMarks .NotIn o=false:=by rfl):QT X (.Compare i [.NotIn] [o] pos) (lM (zy ty td)):=⟨F9 (Z9 hu hi.h ho.h) hm⟩
theorem tD (hu:X.A.units+1 < cLine) (ho:QE X o td) (hi:QE X i ty) (hv:QE X value tv) (hs:swapsWith value (some (.Subscript o i pos')) pos.line X.env=pure false:=by rfl):QS X (.Assign [.Subscript o i pos'] value pos) (BB td ty tv):=⟨Xp hu ho.h hi.h hv.h hs⟩
theorem Vf:QE X (.Dict [] [] pos) zi:=⟨S4⟩
theorem Q3 (hu:X.A.units+1 < cLine) (ho:QE X o td) (he:QE X e ty) (m1:M1 X o "get" apos e bw:=by exact ⟨rfl,rfl,rfl,rfl⟩):QE X (.Call (.Attribute o "get" apos) [e] [] bw) (zE td ty):=⟨Ob hu ho.h he.h m1⟩
theorem rF (hp:PassesOwn (model X.prog X.w) X.A X.env X.xe) (hc:QT X a tA) (hb:QB X body tB):QS X (.While a body [] pos) (Hl tA tB):=⟨SG hp hc.h hb.h⟩
theorem Il (hc:QT X o tA) (ha:QE X a ta) (hb:QE X b tb):QE X (.IfExp o a b pos) (Ce tA ta tb):=⟨Xw hc.h ha.h hb.h⟩
end
end Dv
theorem JI {P:Program} {w:World} {K:PySem.W.Frag} {mg:Str->Option Value} {base:Heap} {N:List Str} {qual:Str} {scope:Scope} {f:Addr} {cd:Value} {A:Around} {outer:List Env} {s₀:Shared} {H₀:Hp} {E:XK} {CX:dA} :
  PassesOwn (model P w) (cF CX P w K mg base N qual scope f cd A outer s₀ H₀ E).A (cF CX P w K mg base N qual scope f cd A outer s₀ H₀ E).env (cF CX P w K mg base N qual scope f cd A outer s₀ H₀ E).xe:=PassesOwn.leaving
theorem XG {K:PySem.W.Frag} {M:Model} {A:Around} {E:Value->Shared->Prop} {s:Shared} {e C Cc:Addr} {od:Option Addr} {Q:Bool->Shared->Prop} {b:Bool} (X:K.In s.heap) (hd:cS e (.ref C) od s.heap) (h1:PySem.W.instIn K (.ref Cc) (.type "tuple")=some false)
  (h2:PySem.W.mroIn K Cc (.type "BaseException")=some true) (h3:PySem.W.subIn K (.ref C) (.ref Cc)=some b) (hq:Q b s):wpAny M A (excMatches (.ref e) (.ref Cc)) Q E s:=by
 obtain ⟨o,he,hc,_⟩:=hd;have L1:=PySem.W.looks_instIn (M:=M) X h1;have L2:=PySem.W.looks_mroIn (M:=M) X h2;have L3:=PySem.W.looks_subIn (M:=M) X h3;have L4:PySem.W.Looks M s.heap (isType (.ref Cc)) true:=by
  obtain ⟨c',d',cd',sl',ho⟩:=AJ h2;intro A' Q' E' s' k q;unfold isType loadHead;exact wpAny_bind (wpAny_loadPart (k _ _ (X _ _ ho)) (wpAny_pure q))
 have L5:PySem.W.Looks M s.heap (typeOf (.ref e)) (.ref C):=hc ▸ (PySem.W.Looks.ld he).andThen .now;have L6:PySem.W.Looks M s.heap (isExcClass (.ref Cc)) true:=L4.andThen L2;obtain ⟨hh,g,d,t,os⟩:=s;unfold excMatches;refine wpAny_bind (L1.at ?_);simp only [Bool.false_eq_true,if_false,pure_bind];simp only [List.forIn_cons,List.forIn_nil,bind_assoc,pure_bind];refine wpAny_bind (L6.at ?_);simp only [Bool.not_true,Bool.false_eq_true,if_false,bind_assoc,pure_bind];refine wpAny_bind (L5.at (wpAny_bind (L3.at ?_)));cases b with
 | true =>
  simp only [if_true,pure_bind];exact wpAny_pure hq
 | false =>
  simp only [Bool.false_eq_true,if_false,pure_bind];exact wpAny_pure hq
structure zm (X:Cx) (pins:List (Addr×Obj)) (σ:St) (H:Hp) (ea C:Addr) (od:Option Addr) (s:Shared):Prop where
 fl:∃ B a0,Heap.FlyingW B (X.env::X.outer) ea (.ref C) a0 s.heap/\∀ h4:Heap,B.StaysIn h4->s.heap.UpToSlots h4->Inv X pins σ H { s with heap:=h4 }
 hd:cS ea (.ref C) od s.heap
 free:H ea=none
 n0:X.s₀.heap.get? ea=none
 nL:ea≠X.env.locals
 nC:∀ x c,X.env.cells.lookup x=some c->c≠ea
 nP:∀ p∈X.pn++pins,p.1≠ea
theorem zm.inv {X:Cx} {pins:List (Addr×Obj)} {σ:St} {H:Hp} {ea C:Addr} {od:Option Addr} {s:Shared} (L:zm X pins σ H ea C od s):Inv X pins σ H s:=by
 obtain ⟨B,a0,fl,k⟩:=L.fl;exact k s.heap fl.1 (Heap.UpToSlots.refl _)
abbrev jj:=Ends->St->Addr->Option Addr->Hp->Prop
def PH (X:Cx) (hs:List ExceptHandler) (t:jj):Prop:=∀ (pins:List (Addr×Obj)) (s:Shared) (σ:St) (H:Hp) (D:Ends) (ea C:Addr) (od:Option Addr),zm X pins σ H ea C od s->t D σ C od H->wpAny (model X.prog X.w) X.A (handleBy (.ref ea) X.env hs) (SP X pins D) X.xe s
def Gb (K:PySem.W.Frag) (Cc:Addr) (i:Nat) (th:TS) (tr:jj):jj:=fun D σ C od H=>∃ b,PySem.W.subIn K (.ref C) (.ref Cc)=some b/\if b=true then ∀ ea,H ea=none->th (D.za i) (σ.set i (some (.ref ea))) (upd H ea (kb ea C od)) else tr D σ C od H
def JX:jj:=fun _ _ _ _ _=>False
theorem aaa {X:Cx}:PH X [] JX:=fun _ _ _ _ _ _ _ _ _ h=>h.elim
section
variable {X:Cx} {K:PySem.W.Frag} {Cc:Addr} {n x:Str} {uq:List Stmt} {b₀:Stmt} {np hpos pos:Pos} {th:TS} {tr:jj} {rest:List ExceptHandler}
theorem OC (i:Nat) (hK:X.K=K) (hN:X.N.Nodup) (hm:X.mg x=some (.ref Cc)) (c1:PySem.W.instIn X.K (.ref Cc) (.type "tuple")=some false) (c2:PySem.W.mroIn X.K Cc (.type "BaseException")=some true) (hs:∀ v,cT (X.jN v) (b₀::uq) th) (hr:PH X rest tr)
  (hg:Gl X x:=by rfl) (hi:X.N[i]?=some n:=by rfl) (hn:X.env.scope.names.lookup n=some .local:=by rfl) (bI:(x == ("__debug__" : Str))=false:=by decide):PH X (.ExceptHandler (some (.Name x np)) (some n) (b₀::uq) hpos::rest) (Gb K Cc i th tr):=by
 subst hK;intro pins s σ H D ea C od L h;obtain ⟨b,hsub,h⟩:=h;have I:=L.inv;refine wpAny_handleBy_cons (codeAny_handlers_test (jR (I.jN (.ref ea)) hg hm (XG I.bT L.hd c1 c2 hsub ?_) bI)) (by intro q; cases q);cases b with
 | false=>exact hr pins s σ H D ea C od L h
 | true =>
  have aF:=h;rw [if_pos rfl] at aF;obtain ⟨B,a0,fl,step⟩:=L.fl;refine codeAny_handlers_suite_as (aD ((Kp.setFlight (.ref ea) none).any L.hd (lands_againW (Q:=fun _ s4=>∃ h4,s4={ s with heap:=h4 }/\Heap.FlyingW B (X.env::X.outer) ea (.ref C) a0 h4/\s.heap.UpToSlots h4) fl fun h4 x1 x2=>⟨h4,rfl,x1,x2⟩)) fun _ s4 ⟨⟨h4,e4,fl4,up4⟩,ju⟩=>?_);subst e4;have I5:Inv X pins σ (upd H ea (kb ea C od)) { s with heap:=h4 }:=(step h4 fl4.1 up4).wU L.free L.n0 L.nL L.nC L.nP (RV ju);refine BW (X:=X.jN (.ref ea)) (v:=.ref ea) (I5.jN (.ref ea)) hN hi (Or.inl hn) rfl (fun s6 I6=>?_) (Or.inr hn);refine wpAny_mono (hs (.ref ea) pins s6 _ _ (D.za i) I6 (aF ea L.free)) (fun f s7 z=>?_) fun _ _ z=>False.elim z;have DR:(X.env.scope.kind == .class || (X.env.scope.kind == .module && X.env.locals != X.env.globals))=false:=by rw [I.ok.kind]; rfl
  have fin:∀ {σ7:St} {H7:Hp} (I7:Inv (X.jN (.ref ea)) pins σ7 H7 s7) (Q:Unit->Shared->Prop),(∀ s8,Inv X pins (σ7.set i none) H7 s8->Q () s8)->∀ E:Value->Shared->Prop,wpAny (model X.prog X.w) X.A (do bindName X.env n .none; unbindBehindTheSuite X.env n hpos) Q E s7:=fun {σ7 H7} I7 Q k E=>by
   have J:=I7.RO I.ok;obtain ⟨m,hn7,hl7⟩:=id J.loc;exact wpAny_nameGoes_keeps hn hn7 DR fun h8 v Di sb8=>k _ (J.WB hN hi hl7 Di sb8)
  cases f with
  | next=>obtain ⟨σ7,H7,I7,q⟩:=z; exact fin I7 _ (fun s8 I8=>⟨_,H7,I8,q⟩) _
  | ret u=>obtain ⟨v,σ7,H7,I7,r,q⟩:=z; exact fin I7 _ (fun s8 I8=>⟨v,_,H7,I8,r,q⟩) _
  | brk=>obtain ⟨σ7,H7,I7,q⟩:=z; exact fin I7 _ (fun s8 I8=>⟨_,H7,I8,q⟩) _
  | cont=>obtain ⟨σ7,H7,I7,q⟩:=z; exact fin I7 _ (fun s8 I8=>⟨_,H7,I8,q⟩) _
def Lv (tb:(St->XK)->TS) (t:jj):TS:=fun D σ H=>∃ R:St->XK,tb R D σ H/\∀ σ' C od H',R σ' (.ref C) od H'->t D σ' C od H'
theorem SV {body:List Stmt} {h₀:ExceptHandler} {tb:(St->XK)->TS} {t:jj} (O:Own X) (hb:∀ pins R,cT (X.mX pins R) body (tb R)) (hh:PH X (h₀::rest) t):PS X (.Try body (h₀::rest) [] [] pos) (Lv tb t):=by
 intro pins s σ H D I h;obtain ⟨R,hb',hR⟩:=h;refine wpAny_Try_except (wpAny_mono (hb pins R [] s σ H D (I.mX R) hb') (fun f s1 z=>?_) fun e s1 z=>?_)
 ·cases f with
  | next=>obtain ⟨σ',H',I',q⟩:=z; exact wpAny_execs_nil ⟨σ',H',I'.r9,q⟩
  | ret u=>obtain ⟨v,σ',H',I',r,q⟩:=z; exact ⟨v,σ',H',I'.r9,r,q⟩
  | brk=>obtain ⟨σ',H',I',q⟩:=z; exact ⟨σ',H',I'.r9,q⟩
  | cont=>obtain ⟨σ',H',I',q⟩:=z; exact ⟨σ',H',I'.r9,q⟩
 ·obtain ⟨σ',H0,H',s0,ea,C,od,I0,rfl,F,Eb⟩:=z;obtain ⟨B,a0,fl,gp⟩:=F.He;have hA:X.A.frames=some (X.env::X.outer):=by rw [<- O.df]; exact I.ok.frames
  rw [O.df] at fl;refine aD ((Kp.noteFrame (.ref ea) X.env).any F.hd (wpAny_looks_onW (Q:=fun _ s2=>∃ h2,s2={ s1 with heap:=h2 }/\Heap.HeldW B (X.env::X.outer) ea (.ref C) a0 X.env.locals h2/\s1.heap.UpToSlots h2) hA O.frame fl fun h2 x1 x2=>⟨h2,rfl,x1,x2⟩)) fun _ s2 ⟨⟨h2,e2,held,up2⟩,hd2⟩=>?_;subst e2;refine aD ((Kp.setFlight (.ref ea) none).any (s:={ s1 with heap:=h2 }) hd2 (wpAny_landsW (s:={ s1 with heap:=h2 }) (Q:=fun _ s3=>∃ h3,s3={ s1 with heap:=h3 }/\Heap.FlyingW B (X.env::X.outer) ea (.ref C) a0 h3/\h2.UpToSlots h3) held fun h3 x1 x2=>⟨h3,rfl,x1,x2⟩)) fun _ s3 ⟨⟨h3,e3,fl3,up3⟩,hd3⟩=>?_;subst e3;have fv:∀ b,(∃ o,s0.heap.get? b=some o)->b≠ea:=fun b ⟨o,e⟩ z=>by rw [z,F.new] at e; cases e
  refine hh pins { s1 with heap:=h3 } σ' H' D ea C od ⟨⟨B,a0,fl3,fun h4 st up=>?_⟩,hd3,F.free,?_,?_,fun y c e=>?_,fun p hp=>?_⟩ (hR σ' C od H' Eb)
  ·obtain ⟨u,aA⟩:=J7 F.un F.aA I0.GU gp st ((up2.trans up3).trans up);exact I0.FY (s':={ s1 with heap:=h4 }) (ch:=[]) F.os u aA F.bare (fun b z=>absurd z (by simp))
  ·cases q:X.s₀.heap.get? ea with
   | none=>rfl
   | some u=>exact absurd rfl (fv ea (I0.base.there ea u q (by rw [O.ex]; simp)))
  ·obtain ⟨m,⟨o,_,_,ho,_⟩,_⟩:=I0.loc;exact Ne.symm (fv _ ⟨o,ho⟩)
  ·obtain ⟨w',o,ho,_⟩:=I0.cell y c e;exact fv _ ⟨o,ho⟩
  ·exact fv _ ⟨_,(I0.pin p hp).1⟩
end
structure QH (X:Cx) (hs:List ExceptHandler) (t:jj):Prop where
 h:PH X hs t
namespace Dv
section
variable {X:Cx} {K:PySem.W.Frag} {Cc:Addr} {n x:Str} {uq:List Stmt} {b₀:Stmt} {np hpos pos:Pos} {th:TS} {tr:jj} {rest:List ExceptHandler}
theorem R1:QH X [] JX:=⟨aaa⟩
theorem BH (i:Nat) (hK:X.K=K) (hN:X.N.Nodup) (hm:X.mg x=some (.ref Cc)) (c1:PySem.W.instIn X.K (.ref Cc) (.type "tuple")=some false) (c2:PySem.W.mroIn X.K Cc (.type "BaseException")=some true) (hs:∀ v,QB (X.jN v) (b₀::uq) th) (hr:QH X rest tr)
  (hg:Gl X x:=by rfl) (hi:X.N[i]?=some n:=by rfl) (hn:X.env.scope.names.lookup n=some .local:=by rfl) (bI:(x == ("__debug__" : Str))=false:=by decide):QH X (.ExceptHandler (some (.Name x np)) (some n) (b₀::uq) hpos::rest) (Gb K Cc i th tr) :=
 ⟨OC i hK hN hm c1 c2 (fun v=>(hs v).h) hr.h hg hi hn bI⟩
theorem VB {body:List Stmt} {h₀:ExceptHandler} {tb:(St->XK)->TS} {t:jj} (O:Own X) (hb:∀ pins R,QB (X.mX pins R) body (tb R)) (hh:QH X (h₀::rest) t):QS X (.Try body (h₀::rest) [] [] pos) (Lv tb t):=⟨SV O (fun pins R=>(hb pins R).h) hh.h⟩
end
end Dv
def ej (a b:Str):Bool:=!ltCps b.cps.toList a.cps.toList
def di (ts:List Str):List Str:=ts.mergeSort ej
theorem uU {a b:Str}:ej a b=true ↔ ¬ b.cps.toList < a.cps.toList:=by
 unfold ej; rw [ltCps_eq]; simp
theorem Lk (a b c:Str) (h1:ej a b=true) (h2:ej b c=true):ej a c=true:=by
 rw [uU] at *;exact List.not_lt.mpr (List.le_trans (List.not_lt.mp h1) (List.not_lt.mp h2))
theorem OY (a b:Str):(ej a b || ej b a)=true:=by
 cases h:ej a b with
 | true=>rfl
 | false =>
  have:¬ ej a b=true:=by rw [h]; simp
  rw [uU,Classical.not_not] at this;simp only [Bool.false_or,uU];exact List.not_lt.mpr (List.le_of_lt this)
theorem R4 {a b:Str} (h1:ej a b=true) (h2:ej b a=true):a=b:=by
 rw [uU] at *;have:=List.le_antisymm (List.not_lt.mp h1) (List.not_lt.mp h2);obtain ⟨x⟩:=a; obtain ⟨y⟩:=b;exact congrArg Str.mk (Array.ext' this)
theorem zS (ts:List Str):(di ts).Perm ts:=List.mergeSort_perm ts ej
theorem Tj (ts:List Str):(di ts).Pairwise (fun a b=>ej a b=true):=List.pairwise_mergeSort Lk OY ts
theorem JV (ts:List Str):(di ts).length=ts.length:=(zS ts).length_eq
theorem Fo:∀ (p:Str) (l:List Str),risingS p l=true->(p::l).Pairwise (fun a b=>ej a b=true)
 | p,[],_=>List.pairwise_singleton _ _
 | p,x::r,h=>by
  have h':ej p x=true/\risingS x r=true:=by simpa [risingS,ej] using h
  have ih:=Fo x r h'.2;refine List.pairwise_cons.mpr ⟨fun y hy=>?_,ih⟩;rcases List.mem_cons.mp hy with e | hy
  ·exact e ▸ h'.1
  ·exact Lk p x y h'.1 (List.rel_of_pairwise_cons ih hy)
theorem E2:∀ (l:List Str),sortedS l=true->l.Pairwise (fun a b=>ej a b=true)
 | [],_=>.nil
 | x::r,h=>Fo x r h
theorem KO {us ts:List Str} (hp:us.Perm ts) (hs:us.Pairwise (fun a b=>ej a b=true)):us=di ts :=
 List.Perm.eq_of_pairwise (fun a b _ _ h1 h2=>R4 h1 h2) hs (Tj ts) (hp.trans (zS ts).symm)
theorem Ff:∀ {ts:List Str} {us:List Value},Vals (ts.map V.str) us->StrsAre us ts
 | [],_,.nil=>.nil
 | x::r,_,.cons h t=>by obtain ⟨t',rfl⟩:=h; exact .cons x t' (Ff t)
theorem CQ:∀ {us:List Value} {ts:List Str},StrsAre us ts->Vals (ts.map V.str) us
 | _,_,.nil=>.nil
 | _,_,.cons y t h=>.cons ⟨t,rfl⟩ (CQ h)
section
variable {X:Cx}
def Gh (K:PySem.W.Frag):List V->Hp->VK->Prop:=fun xs H Q=>∃ p ts,xs=[.ref p]/\aC K H p (ts.map V.str)/\ts.length < 64/\∀ l,H l=none->Q (.ref l) (upd H l (.lst ((di ts).map V.str)))
theorem XQ:cy X (.builtin "sorted") (Gh X.K):=by
 intro pins s σ H xs us Q I r h;obtain ⟨p,ts,rfl,hq,Ex,q⟩:=h;obtain ⟨u,rfl,rx⟩:=vals1 r;cases rx;obtain ⟨aj,r',pl,hz⟩:=I.list hq;have hlen:=r'.length;refine sorted_strs pl.isList (Ff r') (by rw [<- hlen]; simpa using Ex) fun out ss' a1 a2 a3=>?_;obtain ⟨e,he⟩:=sortedAll_at s.heap aj out;have e1:ss'=di ts:=KO a2 (E2 _ a3);subst e1;refine ⟨.ref (s.heap.objs.size+1),_,I.laid (t':=s.toks) (fun _ _=>sortedAll_old) (Nat.le_succ _) (show bH X.prog X.w _ _ _ (.lst ((di ts).map V.str)) from ⟨?_,out.toList,e,CQ a1,?_⟩),rfl,q _ (I.aA.fresh (Nat.le_succ _))⟩
 ·rw [List.length_map,JV]; simpa using hz
 ·simpa [seqObj] using he
def J0:List V->Hp->VK->Prop:=fun xs H Q=>∃ p kvs,∃ ts:List Str,xs=[.ref p]/\H p=some (.dK kvs)/\kvs.map (·.1)=ts.map Sum.inr/\ts.length < 64/\∀ l,H l=none->Q (.ref l) (upd H l (.lst ((di ts).map V.str)))
theorem Oi {x:Str} {v:Value} (h:nK (.inr x) v=true):∃ t,v=Value.str x t:=Value.isStrOf_shape h
theorem TV (hc:X.calm=true):cy X (.builtin "sorted") J0:=by
 intro pins s σ H xs us Q I r h;obtain ⟨p,kvs,ts,rfl,hq,hk,Ex,q⟩:=h;obtain ⟨u,rfl,rx⟩:=vals1 r;cases rx;obtain ⟨hz,hS,vs,rv,m⟩:kvs.length<=sizeLine/\(p == sysModules)=false/\∃ vs,KV kvs vs/\s.heap.DictOf (en X.prog X.w) p vs:=I.aA p _ hq;obtain ⟨ep,ud⟩:=m.dictAt;have iy:kvs.length=ts.length:=by simpa using congrArg List.length hk
 have Nl:vs.length=ts.length:=by rw [<- iy]; simpa using (congrArg List.length rv.keys).symm
 refine Calls.call_function_entry kind_sorted plain_sorted entry_sorted (args_sorted1 _) ?_;unfold Builtin.«sorted»;refine wpAny_bind (m:=checkCount "sorted" 1 1 _) (wpAny_pure ?_);refine wpAny_bind (PySem.W.kdu_collect (A:=X.A.in1) (PySem.W.kdl_dict (knd:=en X.prog X.w) (kvs:=vs) (ep:=ep) hS) (I.ok.hd hc) ud (by rw [Nl,<- iy]; exact hz) fun h' tk acc hk' eY=>?_);have hl:acc.toList.length=ts.length:=by rw [Array.length_toList,<- Nl]; exact eY.1
 have hS':StrsAre acc.toList ts:=by
  have key:∀ (l:List Value) (us:List Str),l.length=us.length->(∀ (j:Nat) (v:Value) (x:Str),l[j]?=some v->us[j]?=some x->∃ t,v=Value.str x t)->StrsAre l us:=by
   intro l
   induction l with
   | nil=>intro us e _; cases us with | nil=>exact .nil | cons=>cases e
   | cons v l ih =>
    intro us e hh;cases us with
    | nil=>cases e
    | cons x us =>
     obtain ⟨t,rfl⟩:=hh 0 v x rfl rfl;exact .cons x t (ih us (by simpa using e) fun j v x h1 h2=>hh (j+1) v x h1 h2)
  refine key _ _ hl fun j v x h1 h2=>?_;obtain ⟨k,y,hx,hk1⟩:=eY.2 j v (by rw [<- Array.getElem?_toList]; exact h1);have e1:(vs.map (·.1))[j]?=some k:=by rw [List.getElem?_map,hx]; rfl
  rw [<- rv.keys,hk,List.getElem?_map,h2] at e1;cases e1;exact Oi hk1
 refine wpAny_bind (wpAny_newList ?_ (by rw [hl,<- iy]; exact hz));have gM:(h'.push (seqObj "list" acc.toList.toArray 0)).get? h'.objs.size=some (seqObj "list" acc.toList.toArray 0):=Heap.get?_push_size _ rfl;refine wpAny_bind (wpAny_holding (wpAny_call_entry slot_list_sort ⟨_,gM,rfl⟩ entry_list_sort (list_sort_treeK strKind_oneLt gM hS'.keysOf (fun v₁ v₂ rest e=>keyKind_strs (by rw [<- e]; exact hS')) (by rw [hl]; exact Ex) fun st' a1 a2=>⟨_,rfl,?_⟩) (args_list_sort _)));refine wpAny_pure ⟨_,rfl,?_⟩;obtain ⟨ss',b1,b2,b3⟩:=sorted_out_str hS' a1 a2;have e1:ss'=di ts:=KO b2 (E2 _ b3);subst e1;obtain ⟨e,he⟩:=sortedHeap_at (out:=(arrOf st').map (·.2)) gM;have I1:Inv X pins σ H { s with heap:=h',toks:=tk }:=I.kept (t':=tk) hk';refine ⟨.ref h'.objs.size,_,I1.laid (t':=tk) (fun b o z=>?_) (Nat.le_refl _) (show bH X.prog X.w _ _ _ (.lst ((di ts).map V.str)) from ⟨?_,_,e,CQ b1,?_⟩),rfl,q _ (I1.aA.fresh (Nat.le_refl _))⟩
 ·have hb:b < h'.objs.size:=Heap.lt_size z;rw [sortedHeap_old (Nat.ne_of_lt hb) (by have:=Heap.size_push h' (seqObj "list" acc.toList.toArray 0); rw [this]; exact Nat.lt_succ_of_lt hb)];exact Heap.get?_push_of_some _ z
 ·rw [List.length_map,JV,<- iy]; exact hz
 ·rw [Array.toArray_toList]; exact he
end
def lN (P:Program) (w:World) (K:PySem.W.Frag) (mg:Str->Option Value) (base:Heap) (N:List Str) (qual:Str) (scope:Scope) (f:Addr) (cd:Value) (cl:List (Str×Addr)) (A:Around) (outer:List Env) (s:Shared) (H:Hp) (E:XK):Cx where
 prog:=P
 w:=w
 K:=K
 mg:=mg
 base:=base
 A:=A.deeper (PySem.W.envX qual scope s.heap.objs.size f cd cl)
 N:=N
 s₀:=s
 H₀:=H
 env:=PySem.W.envX qual scope s.heap.objs.size f cd cl
 outer:=outer
 stack:=PySem.W.envX qual scope s.heap.objs.size f cd cl::outer
 ex:=[]
 calm:=true
 fn:=fun _=>false
 pn:=[]
 xe:=fun e s'=>wpAny (model P w) (A.deeper (PySem.W.envX qual scope s.heap.objs.size f cd cl)) (leaving (PySem.W.envX qual scope s.heap.objs.size f cd cl) e) (fun _ s''=>bJ P w outer H s E e s'') (fun e' s''=>bJ P w outer H s E e' s'') s'
def oz (c:Addr) (q:Str):HO:=.ext fun h=>h.CodeRec (.ref c) q
structure kE (N:List Str) (scope:Scope) (cl:List (Str×Addr)):Prop where
 kind:scope.kind=.function
 co:scope.isCoroutine=false
 gen:scope.isGenerator=false
 sv:∀ x∈scope.names,x.2≠.cell
 free:∀ x∈N,scope.names.lookup x=some .free
 has:∀ x,scope.names.lookup x=some .free->∃ c,cl.lookup x=some c
 inj:∀ x y c,cl.lookup x=some c->cl.lookup y=some c->x=y
def lC (P:Program) (w:World) (K:PySem.W.Frag) (mg:Str->Option Value) (base:Heap) (k:Nat) (s1:Shared) (B:Addr->Prop) (f:Addr) (cg:Hp->VK->XK->Prop):Prop :=
 ∀ (A:Around) (outer:List Env) (s:Shared) (H:Hp) (Q:VK) (E:XK),aZ k A->j7 P w K mg base A outer s H ->
  (∀ b o,B b->s1.heap.get? b=some o->s.heap.get? b=some o/\H b=none)->cg H Q E ->
  codeAny (model P w) A (.call (.ref f) ⟨[],[]⟩) (CR (bJ P w) outer P w H s Q E) s
theorem Pr {P:Program} {w:World} {K:PySem.W.Frag} {mg:Str->Option Value} {base:Heap} {k:Nat} {s1:Shared} {B:Addr->Prop} {f:Addr} {cg:Hp->VK->XK->Prop} {N:List Str} {vs:List V}
  {name qual:Str} {params:Arguments} {body:Expr} {scope:Scope} {cl:List (Str×Addr)} {pm ah ct:Value} {o:Obj} (S:kE N scope cl)
  (ho:s1.heap.get? f=some o) (xB:o.data=.func (PySem.W.kla_fn name qual params body scope cl pm ah ct)) (bM:∀ H Q E,cg H Q E->∃ c,ah=.ref c/\H c=some (oz c qual)) (fX:B f)
  (hB:∀ x c,cl.lookup x=some c->B c) (hlen:vs.length=N.length)
  (kR:∀ x c,cl.lookup x=some c->∃ v,s1.heap.IsCell c v)
  (hcells:∀ (i:Nat) (x:Str) (v:V),N[i]?=some x->vs[i]?=some v->∃ c u,cl.lookup x=some c/\RelV v u/\s1.heap.IsCell c (some u))
  (oh:bindArgs (PySem.W.kla_fn name qual params body scope cl pm ah ct) ⟨[],[]⟩=pure [])
  (iS:∀ (A:Around) (outer:List Env) (s:Shared) (H:Hp) (Q:VK) (E:XK),aZ k (A.deeper (PySem.W.envX qual scope s.heap.objs.size f ah cl))->cg H Q E ->
   ∃ t,PE (lN P w K mg base N qual scope f ah cl A outer s H E) body t/\t (vs.map some) H Q) :
  lC P w K mg base (k+1) s1 B f cg:=by
 intro A outer s H Q E hr e0 hk hw;obtain ⟨c,rfl,DO⟩:=bM H Q E hw;have xl:s.heap.CodeRec (.ref c) qual:=(e0.aA c _ DO).1;have lim:s.heap.NoLimit:=e0.mod.nolimit.keeps fun b o e=>(e0.bs b o e).1;refine PySem.W.kla_callFunE (fd:=PySem.W.kla_fn name qual params body scope cl pm (.ref c) ct) hr.depth (hk f o fX ho).1 xB S.co S.gen rfl xl ?_;rw [oh];refine wpAny_pure (wpAny_newFunctionEnv S.sv (fun _ z=>nomatch z) (fun h₁ eC l9=>⟨lim.fresh _ l9,?_⟩) S.kind);show codeAny _ _ (.expr body (PySem.W.envX qual scope s.heap.objs.size f (.ref c) cl)) _ _;have DS:∀ b o,s.heap.get? b=some o->h₁.get? b=some o:=fun b o e=>l9.extBut b o (Nat.ne_of_lt (Heap.lt_size e)) (Heap.get?_push_of_some _ e);obtain ⟨t,ht,hq2⟩:=iS A outer s H Q E (hr.deeper _) hw;have kO:∀ b:Addr,b ∉ (lN P w K mg base N qual scope f (.ref c) cl A outer s H E).ex:=fun b z=>absurd (show b∈([]:List Addr) from z) (by simp);have cellK:∀ x c',cl.lookup x=some c'->∀ v,s1.heap.IsCell c' v->h₁.IsCell c' v/\H c'=none:=fun x c' e v ⟨o',e1,e2⟩ =>
  ⟨⟨o',DS _ _ (hk c' o' (hB x c' e) e1).1,e2⟩,(hk c' o' (hB x c' e) e1).2⟩
 have I:Inv (lN P w K mg base N qual scope f (.ref c) cl A outer s H E) [] (vs.map some) H { s with heap:=h₁,toks:=s.toks+([]:List (Str×Value)).length }:=by
  refine ⟨⟨e0.mod,S.kind,rfl,rfl,Nat.le_refl _,S.inj,fun y hy=>?_,fun y c' hf=>absurd hf (by simp [lN]),fun _=>hr.hd,Around.frames_deeper e0.frames,.inr ⟨rfl,rfl⟩,fun b z=>absurd z (kO b),e0.bs,e0.gy,fun b _ _=>kO b,fun b z=>absurd z (kO b),e0.eU,e0.iL⟩,
   rfl,e0.bare,Un.kept DS,⟨_,eC,fun i y v h1 h2 h3=>?_⟩,fun y c' h=>?_,e0.aA.fresh (Nat.le_refl _),fun y c' h=>?_,fun p hp=>absurd (show p∈([]:List (Addr×Obj)) from hp) (by simp),e0.aA.kept DS,?_⟩
  ·have hy:scope.names.lookup y=some .cell\/scope.names.lookup y=some .free:=hy;rcases hy with hy | hy
   ·exact absurd rfl (S.sv _ (PySem.mem_of_lookup hy))
   ·exact S.has y hy
  ·have h1':N[i]?=some y:=h1;have ha:vs[i]?=some v:=by
    rw [List.getElem?_map] at h2;cases e:vs[i]? with
    | none=>rw [e] at h2; cases h2
    | some a=>rw [e] at h2; cases h2; rfl
   obtain ⟨c',u,e1,rv,e2⟩:=hcells i y v h1' ha;exact ⟨u,rv,.inr ⟨.inr (S.free y (List.mem_of_getElem? h1')),c',e1,(cellK y c' e1 _ e2).1⟩⟩
  ·obtain ⟨v,e⟩:=kR y c' h;exact ⟨v,(cellK y c' h v e).1⟩
  ·obtain ⟨v,e⟩:=kR y c' h;exact (cellK y c' h v e).2
  ·show (vs.map some).length=N.length;rw [List.length_map,hlen]
 refine PySem.W.kla_codeExpr (wpAny_mono (ht [] _ (vs.map some) H _ I hq2) (fun u s' hs=>?_) fun e s' hs=>hs);obtain ⟨v,H',J,rv,q⟩:=hs;exact ⟨v,H',J.os,J.bare,J.base,J.aA,rv,q⟩
theorem vc {P:Program} {w:World} {K:PySem.W.Frag} {mg:Str->Option Value} {base:Heap} {N:List Str} {qual:Str} {scope:Scope} {f:Addr} {cd:Value} {cl:List (Str×Addr)} {A:Around} {outer:List Env} {s₀:Shared} {H₀:Hp} {E:XK} :
  gz (lN P w K mg base N qual scope f cd cl A outer s₀ H₀ E) (fun _=>E) where
 pass:=fun pins σ H s e s' I hc=>by
  obtain ⟨ea,C,od,H',rfl,F,hE⟩:=hc;exact aD (I.Hc ⟨rfl,rfl,rfl⟩ I.ok.frames F) fun _ s'' z=>⟨ea,C,od,H',rfl,z,hE⟩
def uE (outer:List Env) (H:Hp) (s:Shared) (B:Addr->Prop):Prop:=∀ b,B b->(∃ o,s.heap.get? b=some o)/\H b=none/\b ∉ bF outer
def z7 (s:Shared) (f:Addr):Prop:=∃ cls dict fd sl,s.heap.get? f=some ⟨cls,dict,.func fd,sl⟩
def zY (i:Nat) (f:Addr) (cg:Hp->VK->XK->Prop) (R:St->XK):TE:=fun σ H Q=>σ[i]?=some (some (.ref f))/\cg H Q (R σ)
theorem NS {X:Cx} {i k:Nat} {x:Str} {p pos:Pos} {B:Addr->Prop} {f:Addr} {cg:Hp->VK->XK->Prop} {R:St->XK} (hN:X.N[i]?=some x) (hv:lE X.env.scope x)
  (D:lC X.prog X.w X.K X.mg X.base k X.s₀ B f cg) (hB:uE X.outer X.H₀ X.s₀ B) (hf:z7 X.s₀ f) (fX:B f) (hex:X.ex=[]) (hr:aZ k X.A) (hx:gz X R)
  (hd:(x == ("__debug__" : Str))=false:=by decide) (bM:(x == ("__classdict__" : Str))=false:=by decide):PE X (.Call (.Name x p) [] [] pos) (zY i f cg R):=by
 intro pins s σ H Q I h;obtain ⟨hσ,hw⟩:=h;refine wpAny_Call_Name_kw (aD (By hN hv hd bM pins s σ H (fun v H1=>v=.ref f/\cg H1 Q (R σ)) I ⟨_,hσ,rfl,hw⟩) fun u s1 ⟨v,H1,I1,r,e,xc⟩=>?_);subst e;cases (show u=Value.ref f from r);have kp:∀ b o,B b->X.s₀.heap.get? b=some o->s1.heap.get? b=some o/\H1 b=none:=fun b o hb e =>
  ⟨I1.base.keep b o e (hB b hb).2.1 (hB b hb).2.2 (by rw [hex]; simp),I1.base.free b o e (hB b hb).2.1 (by rw [hex]; simp)⟩
 obtain ⟨cls,dict,fd,sl,ue⟩:=hf;refine PySem.W.callWith_of (P:=fun h=>h.get? f=some ⟨cls,dict,.func fd,sl⟩) rfl (fun h e=>⟨.frame,.inl rfl,(PySem.W.Looks.ld (part:=none) e).andThen .now⟩) (PyProof.Rows.evalArgs_nil3 ⟨(kp f _ fX ue).1,?_⟩);refine wpAny_call (codeAny_mono (D X.A X.stack s1 H1 Q (R σ) hr I1.oB kp xc) fun r s' hq=>?_);cases r with
 | error e=>exact hx.pass pins σ H1 s1 e s' I1 hq
 | ok fl =>
  cases fl with
  | ret u=>exact I1.after hq
  | next=>exact False.elim hq
  | brk=>exact False.elim hq
  | cont=>exact False.elim hq
abbrev vO:=List Env->Shared->Sp
structure rC (P:Program) (w:World) (K:PySem.W.Frag) (mg:Str->Option Value) (base:Heap) (CX:dA) (k:Nat) (f:Addr) (fd:FuncData) (ps:List Str) (sp:vO):Prop where
 len:∀ outer s vs H Q E,sp outer s vs H Q E->vs.length=ps.length
 run:∀ (A:Around) (outer:List Env) (s:Shared) (H:Hp) (args:Args) (us:List Value) (vs:List V) (Q:VK) (E:XK),aZ k A->j7 P w K mg base A outer s H->BindsTo s fd args (ps.zip us)->Vals vs us->sp outer s vs H Q E ->
  codeAny (model P w) A (.call (.ref f) args) (CR CX outer P w H s Q E) s
theorem Po {CX:dA} {P:Program} {w:World} {K:PySem.W.Frag} {mg:Str->Option Value} {base:Heap} {k:Nat} {f:Addr} {name qual:Str} {params:Arguments} {body:List Stmt} {scope:Scope} {dV kV doc pm ah ct oc:Value} {an od:Option Addr}
  {cU:Array (Option Value)} {N ps:List Str} {sp:vO} (lk:K.lookup f=some ⟨oc,od,.func (PySem.W.fnOf name qual params body scope dV kV doc pm an ah ct),cU⟩) (bM:PySem.W.codeIn K ah qual=true) (S:aE N ps scope)
  (len:∀ outer s vs H Q E,sp outer s vs H Q E->vs.length=ps.length)
  (iS:∀ (A:Around) (outer:List Env) (s:Shared) (H:Hp) (vs:List V) (Q:VK) (E:XK),aZ k (A.deeper (envOfC qual scope s.heap.objs.size f ah))->sp outer s vs H Q E ->
   ∃ t,cT (cF CX P w K mg base N qual scope f ah A outer s H E) body t/\t { nx:=fun _ H'=>Q .au H',rt:=Q } (start N vs) H) :
  rC P w K mg base CX (k+1) f (PySem.W.fnOf name qual params body scope dV kV doc pm an ah ct) ps sp:=by
 refine ⟨len,fun A outer s H args us vs Q E hr e0 hb r cZ=>?_⟩;have hl:=len _ _ _ _ _ _ cZ;have KX:K.In s.heap:=e0.mod.hV.keeps fun b o e=>(e0.bs b o e).1;have lim:s.heap.NoLimit:=e0.mod.nolimit.keeps fun b o e=>(e0.bs b o e).1;have C9:∀ y∈ps.zip us,scope.names.lookup y.1=some .local\/(scope.names.lookup y.1=some .cell/\((cellsFrom (s.heap.objs.size+1) scope.names []).lookup y.1).isSome=true):=fun ⟨n,v⟩ hy=>by
  rcases S.par n (List.of_mem_zip hy).1 with q | q
  ·exact .inl q
  ·exact .inr ⟨q,PySem.W.cellsFrom_some _ _ _ (.inl q)⟩
 refine codeAny_call_function hr.depth (KX _ _ lk) rfl S.co S.gen rfl (PySem.W.codeRec_of KX bM) (hb _ _ _ _ ?_);refine wpAny_newFunctionEnv_cells S.kind C9 fun env he s1 x=>?_;subst he;refine ⟨lim.keeps x.toInCall.keep,codeAny_func ?_⟩;obtain ⟨t,ht,hq⟩:=iS A outer s H vs Q E (hr.deeper _) cZ;have I:Inv (cF CX P w K mg base N qual scope f ah A outer s H E) [] (start N vs) H s1:=Lh S hr.hd e0 hl r x;refine wpAny_mono (ht [] s1 (start N vs) H _ I hq) (fun fl s' hs=>?_) fun e s' hs=>hs;have fin:∀ {σ':St} {H':Hp} {v:V} {u:Value},Inv (cF CX P w K mg base N qual scope f ah A outer s H E) [] σ' H' s'->RelV v u->Q v H'->CE outer P w H s Q u s' :=
  fun {σ' H' v u} J rv q=>⟨v,H',J.os,J.bare,J.base,J.aA,rv,q⟩
 cases fl with
 | ret u =>
  obtain ⟨v,σ',H',J,rv,q⟩:=hs;exact fin J rv q
 | next =>
  obtain ⟨σ',H',J,q⟩:=hs;exact fin (v:=V.au) (u:=Value.none) J rfl q
 | brk =>
  obtain ⟨_,_,_,q⟩:=hs;exact False.elim q
 | cont =>
  obtain ⟨_,_,_,q⟩:=hs;exact False.elim q
abbrev Ent:=Int×Int×Addr
def ei:List Ent->List Value
 | []=>[]
 | e::r=>rawInt e.1::rawInt e.2.1::.ref e.2.2::ei r
theorem FP:∀ (a b:List Ent),ei (a++b)=ei a++ei b
 | [],b=>rfl
 | e::r,b=>by show _::_::_::ei (r++b)=_; rw [FP r b]; rfl
theorem yS:∀ es:List Ent,TriplesOk (ei es)
 | []=>trivial
 | e::r=>yS r
theorem JD (pos:Pos):∀ es:List Ent,codeAmong pos (ei es)=(es.find? fun e=>e.1 == (pos.line:Int) && e.2.1 == (pos.col:Int)).map fun e=>Value.ref e.2.2
 | []=>rfl
 | e::r=>by
  show (if e.1 == (pos.line:Int) && e.2.1 == (pos.col:Int) then some (Value.ref e.2.2) else codeAmong pos (ei r))=_;rw [List.find?_cons];cases h:(e.1 == (pos.line:Int) && e.2.1 == (pos.col:Int)) with
  | true=>rfl
  | false=>exact JD pos r
def f6 (P:Addr) (es:List Ent):HO:=.ext fun h=>h.get? P=some (PySem.W.tabObj (ei es).toArray)
structure eG (H:Hp) (P:Addr) (q:Str) (es:List Ent):Prop where
 tab:H P=some (f6 P es)
 code:∀ e∈es,H e.2.2=some (oz e.2.2 q)
structure mQ (X:Cx) (P:Addr) (params:Arguments) (scope:Scope) (cz:List (Str×Addr)) (q:Str):Prop where
 dflt:defaultsOf params X.env=([],[])
 hJ:closureFor scope X.env=pure cz
 code:∃ c,X.env.code=.ref c/\PySem.W.CodeHd X.base c P
 blt:X.base.BuiltinsAt X.mg P
 qual:X.env.qual ++ "<lambda>" = q
structure nA (P:Addr) (q:Str) (c:Addr) (H H1:Hp):Prop where
 rest:∀ b,b≠P->b≠c->H1 b=H b
 code:H1 c=some (oz c q)
 old:H c=none\/H1=H
 tab:∃ es,eG H1 P q es
theorem ph {a b n:Nat} (h:a < n) (h':n<=b):b≠a:=by omega
theorem Wl {X:Cx} {pins:List (Addr×Obj)} {σ:St} {H:Hp} {s:Shared} {P:Addr} {params:Arguments} {body:Expr} {scope:Scope} {cz:List (Str×Addr)} {q:Str} {eX:Pos} {es:List Ent} {Q:Value->Shared->Prop}
  (I:Inv X pins σ H s) (L:mQ X P params scope cz q) (T:eG H P q es)
  (h:∀ f c ct pm s1 H1,Inv X pins σ H1 s1->nA P q c H H1->H1 f=none->X.s₀.heap.objs.size<=f->f≠X.env.locals->s1.heap.get? f=some (PySem.W.kla_obj "<lambda>" q params body scope cz pm c ct) ->
   (∀ b o,H b=none->s.heap.get? b=some o->s1.heap.get? b=some o)->Q (.ref f) s1) :
  wpAny (model X.prog X.w) X.A (eval (.Lambda params body scope eX) X.env) Q X.xe s:=by
 obtain ⟨hdef,kR,⟨c,MO,C⟩,hb,hq⟩:=L;subst hq;refine PySem.W.kla_eval hdef ?_;have hP:s.heap.get? P=some (PySem.W.tabObj (ei es).toArray):=(I.aA P _ T.tab).1;have hgP:mainGlobals≠P:=fun e=>by
  obtain ⟨o,_,_,g,_⟩:=I.mod.glob;have:=(I.bs _ _ g).2;rw [e,T.tab] at this; cases this
 have MD:s.heap.BuiltinsAt X.mg P:=by
  obtain ⟨bm,o,b1,b2,b3,b4,b5,b6⟩:=hb;exact ⟨bm,o,b1,b2,b3,b4,I.bk _ _ b5,b6⟩
 have D7:=I.lt;have dF:∀ {b:Addr},H b=none->b≠P:=fun {b} n e=>by rw [e,T.tab] at n; cases n
 cases hf:codeAmong eX (ei es).toArray.toList with
 | none =>
  refine PySem.W.kla_makeFunction (mg:=X.mg) kR I.ok.glob (I.mod.glob.keeps I.bk) MO (C.keeps I.bk) hP (yS es) hf hgP MD fun c' ct h' tk hx gx bL xl kN=>?_;have htb':h'.get? P=some (PySem.W.tabObj (ei (es++[((eX.line:Int),(eX.col:Int),c')])).toArray):=by
   rw [kN,FP]; simp [ei]
  have hPs:P < s.heap.objs.size:=Heap.lt_size hP;have Nd:c'≠P:=ph hPs gx;have I1:Inv X pins σ (upd H P (f6 P (es++[((eX.line:Int),(eX.col:Int),c')]))) { s with heap:=h',toks:=tk } :=
   I.write (x:=P) (e:=P) (t':=tk) (by rw [T.tab]; trivial) (.inl rfl) (fun b u hb e=>hx b u hb e) ⟨_,htb'⟩ ⟨htb',⟨_,htb'⟩,fun h1 h2 z k=>k _ z⟩
  have iQ:H c'=none:=I.aA.fresh gx;have hcn1:(upd H P (f6 P (es++[((eX.line:Int),(eX.col:Int),c')]))) c'=none:=by rw [ag Nd]; exact iQ
  have I2:=I1.wU (a:=c') (o:=oz c' (X.env.qual ++ "<lambda>")) hcn1 (Heap.get?_none_of_le (Nat.le_trans I.sz gx)) (ph D7 gx) (fun x c₁ e z=>by
    obtain ⟨v,o,ho,_⟩:=I.cell x c₁ e;exact ph (Heap.lt_size ho) gx z.symm) (fun p hp z=>by
    exact ph (Heap.lt_size (I.pin p hp).1) gx z.symm) ⟨xl,(by obtain ⟨c₂,o,_,_,e,g,_⟩:=xl; cases e; exact ⟨o,g⟩),fun h1 h2 z k=>by
     obtain ⟨c₂,o,vs,t,e,g,r⟩:=z;cases e;exact ⟨c',o,vs,t,rfl,k o g,r⟩⟩
  have I3:=I2.kept (t':=tk) (h':=h'.push (PySem.W.kla_obj "<lambda>" (X.env.qual ++ "<lambda>") params body scope cz ((X.mg "__name__").getD .none) c' ct)) (fun b u e=>Heap.get?_push_of_some _ e);have nQ:(upd (upd H P (f6 P (es++[((eX.line:Int),(eX.col:Int),c')]))) c' (oz c' (X.env.qual ++ "<lambda>"))) h'.objs.size=none:=I2.aA.fresh (Nat.le_refl _);have hsz:s.heap.objs.size<=h'.objs.size:=Nat.le_trans gx (Nat.le_of_lt bL);refine h h'.objs.size c' ct _ _ _ I3 ⟨fun b n1 n2=>by rw [ag n2,ag n1],ax,.inl iQ,es++[((eX.line:Int),(eX.col:Int),c')],⟨by rw [ag (Ne.symm Nd),ax],fun e he=>?_⟩⟩ nQ (Nat.le_trans I.sz hsz) (ph D7 hsz) (Heap.get?_push_size _ rfl) fun b o n e=>Heap.get?_push_of_some _ (hx b o (dF n) e);rcases List.mem_append.mp he with he | he
  ·have:=T.code e he;by_cases hc:e.2.2=c'
   ·rw [hc,ax]
   ·have hp:e.2.2≠P:=fun z=>by
     have hr:s.heap.CodeRec (.ref P) (X.env.qual ++ "<lambda>"):=by
      have hh:=(I.aA _ _ this).1;rw [z] at hh; exact hh
     obtain ⟨c₂,o,vs,t,e1,g,d,r⟩:=hr;cases e1;rw [hP] at g; cases g;have d':(ei es).toArray=vs:=by injection d
     subst d';cases es with
     | nil=>cases he
     | cons e₁ r₁=>simp [ei,rawInt] at r
    rw [ag hc,ag hp]; exact this
  ·rw [List.mem_singleton.mp he]; exact ax
 | some cv =>
  have hf':=hf;rw [show (ei es).toArray.toList=ei es from rfl,JD] at hf';obtain ⟨e,he,hev⟩:=Option.map_eq_some_iff.mp hf';subst hev;refine PySem.W.kla_makeFunctionHit (mg:=X.mg) kR I.ok.glob (I.mod.glob.keeps I.bk) MO (C.keeps I.bk) hP (yS es) hf MD fun ct h' tk hk hsz=>?_;have I1:=I.kept (t':=tk) hk;have I2:=I1.kept (t':=tk) (h':=h'.push (PySem.W.kla_obj "<lambda>" (X.env.qual ++ "<lambda>") params body scope cz ((X.mg "__name__").getD .none) e.2.2 ct)) (fun b u e=>Heap.get?_push_of_some _ e);exact h h'.objs.size e.2.2 ct _ _ _ I2 ⟨fun _ _ _=>rfl,T.code e (List.mem_of_find?_eq_some he),.inr rfl,es,T⟩ (I1.aA.fresh (Nat.le_refl _)) (Nat.le_trans I.sz hsz) (ph D7 hsz) (Heap.get?_push_size _ rfl) fun b o n e=>Heap.get?_push_of_some _ (hk b o e)
abbrev eV:=Hp->VK->XK->Prop
def C1 (P:Program) (w:World) (K:PySem.W.Frag) (mg:Str->Option Value) (base:Heap) (k:Nat) (kW:eV->eV):vO:=fun outer s vs H Q E =>
 ∃ f B cg,vs=[.ref f]/\lC P w K mg base k s B f cg/\uE outer H s B/\z7 s f/\B f/\kW cg H Q E
def Kz (c:Addr) (q:Str) (W:eV):eV:=fun H Q E=>H c=some (oz c q)/\W H Q E
def ng (ix:List Nat) (σ:St) (vs:List V):Prop:=vs.length=ix.length/\∀ (i j:Nat) (v:V),ix[i]?=some j->vs[i]?=some v->σ[j]?=some (some v)
def Cr (P:Addr) (q:Str) (ix:List Nat) (W:List V->eV) (kW:eV->eV) (R:St->XK):TE:=fun σ H Q =>
 ∃ es vs,eG H P q es/\ng ix σ vs/\∀ c H1,nA P q c H H1->kW (Kz c q (W vs)) H1 Q (R σ)
structure lU (X:Cx) (N':List Str) (ix:List Nat) (cz:List (Str×Addr)):Prop where
 len:ix.length=N'.length
 at':∀ (i j:Nat),ix[i]?=some j->∃ x,N'[i]?=some x/\X.N[j]?=some x/\X.env.scope.names.lookup x=some .cell
 hJ:∀ x c,cz.lookup x=some c->X.env.cells.lookup x=some c
 Lu:∀ x∈N',cz.lookup x=X.env.cells.lookup x
 own:∀ x c,cz.lookup x=some c->X.fn x=true
theorem Xu {X:Cx} {P:Addr} {q:Str} {ix:List Nat} {W:List V->eV} {kW:eV->eV} {R:St->XK} {params:Arguments} {body:Expr} {scope:Scope} {cz:List (Str×Addr)} {N':List Str} {eX p pos:Pos} {x y:Str} {g:Addr} {fd:FuncData} {k k':Nat}
  (L:mQ X P params scope cz q) (S:kE N' scope cz) (C:lU X N' ix cz)
  (F:rC X.prog X.w X.K X.mg X.base (bJ X.prog X.w) k' g fd [y] (C1 X.prog X.w X.K X.mg X.base (k+1) kW)) (hr:aZ k' X.A) (hg:Gl X x) (hm:X.mg x=some (.ref g)) (hk:PySem.W.keepIn X.K (.ref g)=true) (hb:Binds X.K fd [y] []) (hx:gz X R)
  (oh:∀ pm cd ct,bindArgs (PySem.W.kla_fn "<lambda>" q params body scope cz pm cd ct) ⟨[],[]⟩=pure [])
  (iS:∀ (f:Addr) (ah:Value) (vs:List V) (A:Around) (outer:List Env) (s:Shared) (H:Hp) (Q:VK) (E:XK),aZ k (A.deeper (PySem.W.envX q scope s.heap.objs.size f ah cz))->W vs H Q E ->
   ∃ t,PE (lN X.prog X.w X.K X.mg X.base N' q scope f ah cz A outer s H E) body t/\t (vs.map some) H Q)
  (bI:(x == ("__debug__" : Str))=false:=by decide):PE X (.Call (.Name x p) [.Lambda params body scope eX] [] pos) (Cr P q ix W kW R):=by
 intro pins s σ H Q I h;obtain ⟨es,vs,T,hc,cZ⟩:=h;refine wpAny_Call_Name_kw (jR I hg hm ?_ bI);refine PySem.W.callWith_K (h₀:=X.base) I.ok.mod.hV hk ?_;show wpAny _ _ (spliced ((false,eval (.Lambda params body scope eX) X.env)::backTo pos (starEach [] X.env))) _ _ s;refine Calls.spliced_cons (Wl I L T fun f c ct pm s1 H1 I1 St nQ jC aW ue kp=>?_);refine Calls.spliced_nil ⟨I1.bT,?_⟩;have Ma:∀ b,X.s₀.heap.objs.size<=b->b≠X.env.locals->b ∉ bF X.stack:=fun b hb hl z=>by
  rcases List.mem_cons.mp (I1.rX b z) with e | z
  ·exact hl e
  ·obtain ⟨_,o,ho,_⟩:=I1.ok.eU.mem z;exact absurd (Nat.lt_of_lt_of_le (Heap.lt_size ho) hb) (Nat.lt_irrefl _)
 have D:lC X.prog X.w X.K X.mg X.base (k+1) s1 (fun b=>b=f\/∃ z,cz.lookup z=some b) f (Kz c q (W vs)):=by
  refine Pr (N:=N') (vs:=vs) S ue rfl (fun H Q E z=>⟨c,rfl,z.1⟩) (.inl rfl) (fun z c' e=>.inr ⟨z,e⟩) (by rw [hc.1,C.len]) (fun z c' e=>I1.cell z c' (C.hJ z c' e)) (fun i z v h1 h2=>?_) (oh _ _ _) (fun A outer s' H' Q' E' r z=>iS f (.ref c) vs A outer s' H' Q' E' r z.2);have hi:i < ix.length:=by
   have:=(List.getElem?_eq_some_iff.mp h1).1;rw [C.len]; exact this
  obtain ⟨z',e1,e2,e3⟩:=C.at' i _ (List.getElem?_eq_getElem hi);rw [h1] at e1; cases e1;have e4:=hc.2 i _ v (List.getElem?_eq_getElem hi) h2;obtain ⟨m,hn,hl⟩:=I1.loc;obtain ⟨u,r,l⟩:=hl _ z v e2 e4 (.inr (.inl e3));rcases l with ⟨hk',_⟩ | ⟨_,c',e5,e6⟩
  ·have:X.env.scope.names.lookup z=some .local:=hk';rw [e3] at this; cases this
  ·exact ⟨c',u,by rw [C.Lu z (List.mem_of_getElem? h1)]; exact e5,r,e6⟩
 have hH:uE X.stack H1 s1 (fun b=>b=f\/∃ z,cz.lookup z=some b):=fun b hb=>by
  rcases hb with rfl | ⟨z,e⟩
  ·exact ⟨⟨_,ue⟩,nQ,Ma _ jC aW⟩
  ·have e':=C.hJ z b e;obtain ⟨v,o,ho,_⟩:=I1.cell z b e';exact ⟨⟨o,ho⟩,I1.eT z b e',Ma b (I1.ok.km z b (C.own z b e) e') (I1.ja z b e')⟩
 have hl:([.ref f]:List Value).length=[y].length:=rfl;refine wpAny_call (codeAny_mono (F.run X.A X.stack s1 H1 ⟨[.ref f],[]⟩ [.ref f] [.ref f] Q (R σ) hr I1.oB (hb s1 [.ref f] I1.bT hl) (.cons rfl .nil) ⟨f,_,_,rfl,D,hH,⟨_,_,_,_,ue⟩,.inl rfl,cZ c H1 St⟩) fun r s' hq=>?_);cases r with
 | error e=>exact hx.pass pins σ H1 s1 e s' I1 hq
 | ok fl =>
  cases fl with
  | ret u=>exact I1.after hq
  | next=>exact False.elim hq
  | brk=>exact False.elim hq
  | cont=>exact False.elim hq
abbrev nF:=List (Addr×Addr)
def uY (tabs:nF) (H:Hp):Prop:=∀ q∈tabs,∃ es,H q.2=some (f6 q.2 es)
structure mP (tabs:nF) (H:Hp):Prop where
 all:∀ b,H b=none\/(∃ o xs,H b=some (.eA o (.lst xs)))\/∃ q∈tabs,b=q.2
 tab:∀ q∈tabs,H q.2=some (f6 q.2 [])
theorem mP.ok {tabs:nF} {H:Hp} (h:mP tabs H) {c P:Addr} (q:Str) (hm:(c,P)∈tabs):eG H P q []:=⟨h.tab _ hm,fun _ z=>nomatch z⟩
theorem XS {P:Program} {w:World} {K:PySem.W.Frag} {mg mb:Str->Option Value} {CX:dA} {k:Nat} {fa a:Addr} {fd:FuncData} {x:Str} {sp:Sp} {s₁:Shared} {vs:List Value} {ns:List Int} {tabs:nF}
  (KX:K.In s₁.heap) (eC:s₁.heap.Ns mainGlobals mg) (hb:s₁.heap.Ns builtinsNs mb) (hbb:∀ x:Str,x ≠ "__name__" -> mb x=bootBuiltins x) (hlim:s₁.heap.NoLimit) (hg:s₁.gens=#[])
  (hT:PySem.W.TabsAt tabs s₁.heap) (om:PySem.W.noTabs K=true) (hbm:∃ bm ob,mg "__builtins__" = some (.ref bm)/\bm≠builtinsNs/\s₁.heap.get? bm=some ob/\ob.cls=.type "module" /\ ob.dict=some builtinsNs/\ob.data=.plain)
  (ha:s₁.heap.get? a=some { cls:=.type "list",data:=.seq vs.toArray }) (hi:IntsAre vs ns) (hl:ns.length<=sizeLine) (hr:aZ k callerA)
  (F:∀ base:Heap,K.In base->base.Ns mainGlobals mg->(∀ q∈tabs,PySem.W.CodeHd base q.1 q.2/\base.BuiltinsAt mg q.2)->aB P w K mg base CX k fa fd [x] sp) (oh:∀ (s:Shared) (u:Value),BindsTo s fd ⟨[u],[]⟩ [(x,u)])
  (cZ:∀ H:Hp,mP tabs H->aC K H a (ns.map V.int)->sp [.ref a] H (fun v H'=>v=.bl true/\uY tabs H') fun _ _ _=>False)
  (DK:∀ H e s',CX [] H s₁ (fun _ _ _=>False) e s'->False) :
  codeAny (model P w) callerA (.call (.ref fa) ⟨[.ref a],[]⟩) (fun r s'=>r=.ok (.ret (.bool true))/\OldK s₁.heap s'.heap/\s'.os=s₁.os/\AllBare s'.gens) s₁:=by
 have rv:=Fg hi;have lenV:=hi.length;have tabAt:∀ b,(∃ q∈tabs,b=q.2)->s₁.heap.get? b=some (PySem.W.tabObj #[]):=fun b ⟨q,hq,e⟩=>e ▸ (hT q hq).2;have MM:¬ ∃ q∈tabs,a=q.2:=fun z=>by
  have:=tabAt a z;rw [ha] at this; cases this
 have core:∀ H:Hp,mP tabs H->aC K H a (ns.map V.int)->bZ P w H s₁.heap->(∀ b,H b≠none->b=a\/∃ q∈tabs,b=q.2)->(H a≠none->K.lookup a=none) ->
   codeAny (model P w) callerA (.call (.ref fa) ⟨[.ref a],[]⟩) (fun r s'=>r=.ok (.ret (.bool true))/\OldK s₁.heap s'.heap/\s'.os=s₁.os/\AllBare s'.gens) s₁:=by
  intro H hO hS aA hA hK;have w8:∀ {b:Addr} {o:Obj},s₁.heap.get? b=some o->H b=none->(iK s₁.heap H).get? b=some o:=fun e n=>P7 e n;have DX:∀ {b:Addr} {o:Obj},s₁.heap.get? b=some o->b≠a->(∀ ps,o.data≠.fields ps\/o.cls≠.none)->H b=none:=fun {b o} e na d=>by
   cases q:H b with
   | none=>rfl
   | some u =>
    rcases hA b (by rw [q]; simp) with e' | e'
    ·exact absurd e' na
    ·have e2:=tabAt b e';rw [e] at e2; cases e2;rcases d #[] with d | d
     ·exact absurd rfl d
     ·exact absurd rfl d
  have kO:∀ {b:Addr} {o:Obj} {es:Array DictEntry} {ep:Nat},s₁.heap.get? b=some o->o.data=.dict es ep->H b=none:=fun {b o es ep} e d=>by
   refine DX e (fun z=>?_) fun ps=>.inl (by rw [d]; simp);subst z;rw [ha] at e; cases e;have d':Data.seq vs.toArray _=Data.dict es ep:=d;cases d'
  have xQ:∀ {b:Addr} {m:Str->Option Value},s₁.heap.Ns b m->(iK s₁.heap H).Ns b m:=fun {b m} ⟨o,es,ep,e,d,r⟩=>⟨o,es,ep,w8 e (kO e d),d,r⟩;have MR:K.In (iK s₁.heap H):=fun b o e=>w8 (KX b o e) (by
   cases q:H b with
   | none=>rfl
   | some u =>
    rcases hA b (by rw [q]; simp) with e' | e'
    ·subst e';rw [hK (by rw [q]; simp)] at e; cases e
    ·have e2:=tabAt b e';rw [KX b o e] at e2; cases e2;have h2:=List.all_eq_true.mp om (b,_) (PySem.W.mem_of_lookupK e);exact absurd (show false=true from h2) Bool.false_ne_true)
  have hM:Mod K mg (iK s₁.heap H):=⟨MR,xQ eC,⟨mb,xQ hb,hbb⟩,let ⟨mc,h1,h2⟩:=hlim; ⟨mc,xQ h1,h2⟩⟩;have e0:j7 P w K mg (iK s₁.heap H) callerA [] s₁ H:=⟨rfl,hM,fun b o e=>Xi e,Nat.le_of_eq (Yi _ _),trivial,fun b hb=>absurd (show b∈([]:List Addr) from hb) (by simp),aA,.of_eq hg⟩;have hcodes:∀ q∈tabs,PySem.W.CodeHd (iK s₁.heap H) q.1 q.2/\(iK s₁.heap H).BuiltinsAt mg q.2:=fun q hq=>by
   obtain ⟨o,vs',file,tf,flags,tg,inF,text,tt,e1,r1,r⟩:=(hT q hq).1;obtain ⟨bm,ob,b1,b2,b3,b4,b5,b6⟩:=hbm;refine ⟨⟨o,vs',file,tf,flags,tg,inF,text,tt,w8 e1 (DX e1 (fun z=>?_) fun ps=>.inr (by rw [r1]; simp)),r1,r⟩,bm,ob,b1,b2,fun z=>?_,fun z=>?_,w8 b3 (DX b3 (fun z=>?_) fun ps=>.inr (by rw [b4]; simp)),b4,b5,b6⟩
   ·subst z; rw [ha] at e1; cases e1; simp at r1
   ·obtain ⟨o',es,ep,e,d,_⟩:=eC;rw [z,e] at b3; cases b3; rw [d] at b6; cases b6
   ·rw [z,(hT q hq).2] at b3; cases b3; cases b6
   ·subst z; rw [ha] at b3; cases b3; cases b6
  refine codeAny_mono ((F _ MR (xQ eC) hcodes).run callerA [] s₁ H ⟨[.ref a],[]⟩ [.ref a] [.ref a] _ _ hr e0 (oh s₁ (.ref a)) (.cons rfl .nil) (cZ H hO hS)) fun r s' h=>?_;cases r with
  | error e=>exact (DK H e s' h).elim
  | ok fl =>
   cases fl with
   | next=>exact False.elim h
   | brk=>exact False.elim h
   | cont=>exact False.elim h
   | ret u =>
    obtain ⟨v,H',os,bare,un,hok',r',q',qt⟩:=h;subst q';obtain rfl:u=Value.bool true:=r';refine ⟨rfl,⟨fun b o e=>?_,fun b o e=>un.there b o e (by simp)⟩,os,bare⟩;cases q:H b with
    | none=>exact .inl (un.keep b o e q (by intro z; exact absurd (show b∈([]:List Addr) from z) (by simp)) (by simp))
    | some u =>
     rcases hO.all b with z | ⟨ob,xs,z⟩ | ⟨qq,xH,z⟩
     ·rw [q] at z; cases z
     ·have z2:=un.fg b ob _ z;obtain ⟨e1,_⟩:=aA b _ z;obtain ⟨e2,_⟩:=hok' b _ z2;rw [e] at e1; cases e1;exact .inl e2
     ·subst z;obtain ⟨es,he⟩:=qt qq xH;have e3:s'.heap.get? qq.2=some (PySem.W.tabObj (ei es).toArray):=(hok' _ _ he).1;have e4:=(hT qq xH).2;rw [e] at e4; cases e4;exact .inr (.inl ⟨((hT qq xH).1.tab (hT qq xH).2).isCodeTable,rfl,#[],(ei es).toArray,rfl,by rw [e3]; simp⟩)
 have NI:∀ b,(∃ q∈tabs,b=q.2)->∀ H:Hp,bH P w H s₁.heap b (f6 b []):=fun b z H=>⟨tabAt b z,⟨_,tabAt b z⟩,fun h1 h2 y k=>k _ y⟩
 classical
 cases hk:K.lookup a with
 | some o =>
  have e:=KX a o hk;rw [ha] at e;cases e;refine core (fun b=>if (∃ q∈tabs,b=q.2) then some (f6 b []) else none) ⟨fun b=>?_,fun q hq=>if_pos ⟨q,hq,rfl⟩⟩ (.inr ⟨_,vs.toArray,_,hk,rfl,rfl,rfl,by rw [List.size_toArray,lenV]; exact hl,by simpa using rv⟩) (fun b u z=>?_) (fun b z=>?_) fun z=>absurd (if_neg MM) z
  ·by_cases h:∃ q∈tabs,b=q.2
   ·exact .inr (.inr h)
   ·exact .inl (if_neg h)
  ·by_cases h:∃ q∈tabs,b=q.2
   ·have z':=(if_pos h).symm.trans z;cases z';exact NI b h _
   ·have z':=(if_neg h).symm.trans z;cases z'
  ·by_cases h:∃ q∈tabs,b=q.2
   ·exact .inr h
   ·exact absurd (if_neg h) z
 | none =>
  refine core (fun b=>if b=a then some (.eA { cls:=.type "list",data:=.seq vs.toArray } (.lst (ns.map V.int))) else if (∃ q∈tabs,b=q.2) then some (f6 b []) else none) ⟨fun b=>?_,fun q hq=>?_⟩ (.inl (.inr ⟨{ cls:=.type "list",data:=.seq vs.toArray },if_pos rfl⟩)) (fun b u z=>?_) (fun b z=>?_) fun _=>hk
  ·by_cases hb:b=a
   ·exact .inr (.inl ⟨_,_,if_pos hb⟩)
   ·by_cases h:∃ q∈tabs,b=q.2
    ·exact .inr (.inr h)
    ·exact .inl ((if_neg hb).trans (if_neg h))
  ·have dF:q.2≠a:=fun z=>MM ⟨q,hq,z.symm⟩;exact (if_neg dF).trans (if_pos ⟨q,hq,rfl⟩)
  ·by_cases hb:b=a
   ·have z':=(if_pos hb).symm.trans z;cases z';subst hb;exact ⟨ha,by rw [List.length_map]; exact hl,vs,_,rv,ha⟩
   ·have z':=(if_neg hb).symm.trans z;by_cases h:∃ q∈tabs,b=q.2
    ·have z2:=(if_pos h).symm.trans z';cases z2;exact NI b h _
    ·have z2:=(if_neg h).symm.trans z';cases z2
  ·by_cases hb:b=a
   ·exact .inl hb
   ·by_cases h:∃ q∈tabs,b=q.2
    ·exact .inr h
    ·exact absurd ((if_neg hb).trans (if_neg h)) z
theorem UA {l:PySem.W.OpenLaw} {n k:Nat} {q:Program} {loose:List Str} {XP:(Str->Option Value)->Heap->Prop} {YP:World->Heap->Prop} {d:DefRec} {K:Params->PySem.W.Frag} {CX:World->dA} {sp:World->Sp} {x:Str} {tabs:nF}
  (hn:l.most=some n) (iu:n<=sizeLine) (uv:d.params.defaults=[]) (hr:aZ k callerA)
  (hY:∀ (w:World) (h:Heap),YP w h->(K w.params).In h)
  (om:∀ w:World,PySem.W.noTabs (K w.params)=true) (kN:∀ (w:World),∀ t∈tabs,∃ y e,(recsOf q).find? (fun e=>e.name == y)=some e/\PySem.W.tabIn (K w.params) y=some t)
  (F:∀ (w:World) (mg:Str->Option Value) (fa:Addr) (h:Heap),(K w.params).In h->h.Ns mainGlobals mg->mg d.name=some (.ref fa) ->
   ∃ fd:FuncData,(∀ (s:Shared) (u:Value),BindsTo s fd ⟨[u],[]⟩ [(x,u)]) /\
    ∀ base:Heap,(K w.params).In base->base.Ns mainGlobals mg->(∀ t∈tabs,PySem.W.CodeHd base t.1 t.2/\base.BuiltinsAt mg t.2)->aB l.prog w (K w.params) mg base (CX w) k fa fd [x] (sp w))
  (cZ:∀ (w:World) (H:Hp) (a:Addr) (ns:List Int),ns.length<=n->mP tabs H->aC (K w.params) H a (ns.map V.int)->sp w [.ref a] H (fun v H'=>v=.bl true/\uY tabs H') fun _ _ _=>False)
  (DK:∀ (w:World) (H:Hp) (s:Shared) (e:Value) (s':Shared),CX w [] H s (fun _ _ _=>False) e s'->False) :
  PySem.W.WalkO q loose XP YP l.row.toRowW d [] (fun f vs=>PySem.call f vs):=by
 refine Att.UM hn uv fun w s₀ s₁ mg mb fa o pm cd doc a vs ns G Y ho hd bM hmg uc hints hlen hg=>?_;have KX:=hY w _ Y;obtain ⟨fd,hb,hF⟩:=F w mg fa _ KX G.T.g hmg;exact XS KX G.T.g G.T.b G.T.builtins G.T.nolimit hg (fun t ht=>by
  obtain ⟨y,e,h1,h2⟩:=kN w t ht;exact PySem.W.tab_of G.T KX h1 h2) (om w) G.T.bmain uc hints (Nat.le_trans hlen iu) hr hF hb (fun H hO hS=>cZ w H a ns hlen hO hS) fun H e s'=>DK w H s₁ e s'
section
variable {prog:Program} {w:World} {A:Around} {R:Result->Shared->Prop} {I:Addr} {fp wr:List Addr} {P:Nat->Value->Prop} {St:Nat->Heap->Prop}
theorem Z2 (a d:Value):argsOk "min" ⟨[a],[("default",d)]⟩:=by unfold argsOk; kernel_rfl
theorem S8 (W:Walks prog w A.in1 I fp wr 0 P St) {S:Addr} {s:Shared} {c:Nat} {d:Value} (aR:St 0 s.heap)
  (hS:s.heap.get? S=some { cls:=.type "list",dict:=none,data:=.seq #[] c,slots:=#[] })
  (hR:∀ h' tk,(∀ b o,b ∉ wr->s.heap.get? b=some o->h'.get? b=some o)->R (.ok (.ret d)) { s with heap:=h',toks:=tk }) :
  codeAny (model prog w) A (.builtin "min.loop" ⟨[.ref I,.none,.ref S],[("default",d)]⟩) R s:=by
 refine codeAny_builtin F.entry_min_loop ?_;rw [Around.under_plainId F.plain_min_loop _];show wpAny _ A.in1 (seqItems? (.ref S) >>= _) _ _ s;refine wpAny_bind (wpAny_seqItems hS rfl ?_);show wpAny _ A.in1 (tryCatch (pyNext (.ref I)) _ >>= _) _ _ s;refine wpAny_bind (wpAny_tryCatch (W.done s _ _ aR fun h' tk hk'=>?_));exact wpAny_bind (wpAny_rule (wpAny_pure (hR h' tk hk')))
theorem PR (W:Walks prog w A.in1 I fp wr 1 P St) {S:Addr} {s:Shared} {c:Nat} {d:Value} (qg:S ∉ fp) (aR:St 0 s.heap)
  (hS:s.heap.get? S=some { cls:=.type "list",dict:=none,data:=.seq #[] c,slots:=#[] })
  (hR:∀ v h' tk,P 0 v->(∀ b o,b ∉ wr->b≠S->s.heap.get? b=some o->h'.get? b=some o)->R (.ok (.ret v)) { s with heap:=h',toks:=tk }) :
  codeAny (model prog w) A (.builtin "min.loop" ⟨[.ref I,.none,.ref S],[("default",d)]⟩) R s:=by
 have NB:S ∉ wr:=fun h=>qg (W.sub _ h);have Eo:(toString "min" ++ toString ".loop" : String) = "min.loop" := by decide
 refine codeAny_builtin F.entry_min_loop ?_;rw [Around.under_plainId F.plain_min_loop _];show wpAny _ A.in1 (seqItems? (.ref S) >>= _) _ _ s;refine wpAny_bind (wpAny_seqItems hS rfl ?_);show wpAny _ A.in1 (tryCatch (pyNext (.ref I)) _ >>= _) _ _ s;refine wpAny_bind (wpAny_tryCatch (W.item 0 s _ _ (by decide) aR fun v h' tk hP hst' hk'=>?_));have hS':=hk' S _ NB hS;show wpAny _ A.in1 (updateSeq S (fun _=>#[v,v]) >>= _) _ _ _;refine wpAny_bind ?_;refine wpAny_updateSeq hS' rfl ?_;rw [Eo];refine wpAny_pure ⟨plainId_quiet F.plain_min_loop _,?_⟩;have key:∀ (s2:Shared) (c2:Nat),St 1 s2.heap->s2.heap.get? S=some { cls:=.type "list",dict:=none,data:=.seq #[v,v] c2,slots:=#[] }->(∀ h'' tk'',(∀ b o,b ∉ wr->b≠S->s2.heap.get? b=some o->h''.get? b=some o)->R (.ok (.ret v)) { s2 with heap:=h'',toks:=tk'' }) ->
   codeAny (model prog w) A (.builtin "min.loop" ⟨[.ref I,.none,.ref S],[("default",d)]⟩) R s2:=fun s2 c2 jy hS2 hR2=>by
  refine codeAny_builtin F.entry_min_loop ?_;rw [Around.under_plainId F.plain_min_loop _];show wpAny _ A.in1 (seqItems? (.ref S) >>= _) _ _ s2;refine wpAny_bind (wpAny_seqItems hS2 rfl ?_);show wpAny _ A.in1 (tryCatch (pyNext (.ref I)) _ >>= _) _ _ s2;refine wpAny_bind (wpAny_tryCatch (W.done s2 _ _ jy fun h3 tk3 MB=>?_));have hS3:=MB S _ NB hS2;show wpAny _ A.in1 (updateSeq S (fun _=>#[]) >>= _) _ _ _;refine wpAny_bind ?_;refine wpAny_updateSeq hS3 rfl (wpAny_bind (wpAny_letGo (wpAny_pure ?_)));exact hR2 _ tk3 fun b o hbw hbS e=>(Heap.get?_update_other _ _ (Ne.symm hbS)).trans (MB b o hbw e)
 refine key _ _ (W.frame _ _ _ hst' fun b fX o e=>(Heap.get?_update_other _ _ (fun h:S=b=>qg (by rw [h]; exact fX))).trans e) (Heap.get?_update_self _ hS' rfl) fun h'' tk'' hk''=>?_;exact hR v h'' tk'' hP fun b o hbw hbS e=>hk'' b o hbw hbS ((Heap.get?_update_other _ _ (Ne.symm hbS)).trans (hk' b o hbw e))
theorem OE {E:Value->Shared->Prop} {s:Shared} {x d:Value} {Q:Value->Shared->Prop}
  (h:wpAny (model prog w) A.in1 (pyIter x) (fun it s₂=>∃ I fp wr n P St,it=.ref I/\Walks prog w A.in1 I fp wr n P St/\St 0 s₂.heap/\(∀ b∈fp,b < s₂.heap.objs.size)/\n<=1 /\
   ∀ v h' tk,(n=0/\v=d\/n=1/\P 0 v)->(∀ b o,b ∉ wr->s₂.heap.get? b=some o->h'.get? b=some o)->Q v { s₂ with heap:=h',toks:=tk }) E s) :
  wpAny (model prog w) A (call (.builtin "min") [x] [("default",d)]) Q E s:=by
 have Eo:(toString "min" ++ toString ".loop" : String) = "min.loop" := by decide
 refine wpAny_call (codeAny_call_builtin F.plain_min F.entry_min ?_);have Nu:wpAny (model prog w) A.in1 (Builtin.«min» ⟨[x],[("default",d)]⟩) (fun fin s'=>match fin with
   | .done f=>(match (Except.ok f:Result) with | .ok (.ret v)=>Q v s' | .ok _=>False | .error e=>E e s')
   | .again c'=>c'.quiet=true/\codeAny (model prog w) A c' (fun r s'=>match r with | .ok (.ret v)=>Q v s' | .ok _=>False | .error e=>E e s') s') E s:=by
  show wpAny _ A.in1 (Builtin.Builtins.bindParams "min" ["key","default"] 0 ⟨[],[("default",d)]⟩ >>= _) _ _ s;refine wpAny_bind (wpAny_of_eq (show Builtin.Builtins.bindParams "min" ["key","default"] 0 ⟨[],[("default",d)]⟩=pure [none,some d] from rfl) ?_);refine wpAny_bind (wpAny_pure ?_);refine wpAny_bind (wpAny_mono h (fun it s₂ h₂=>?_) fun _ _ e=>e);obtain ⟨I,fp,wr,n,P,St,rfl,W,aR,D3,hn,hQ⟩:=h₂;refine wpAny_bind (wpAny_newObj_type ?_);have qg:s₂.heap.objs.size ∉ fp:=fun hm=>Nat.lt_irrefl _ (D3 _ hm);rw [Eo];refine wpAny_pure ⟨plainId_quiet F.plain_min_loop _,?_⟩;have jy:=W.frame _ _ _ aR (fun b _ o e=>Heap.get?_push_of_some { cls:=.type "list",data:=.seq ([]:List Value).toArray } e)
  match n,hn,W,hQ with
  | 0,_,W,hQ =>
   refine S8 W jy (Heap.get?_push_size _ rfl) fun h' tk hk=>?_;exact hQ d h' tk (.inl ⟨rfl,rfl⟩) fun b o hbw e=>hk b o hbw (Heap.get?_push_of_some _ e)
  | 1,_,W,hQ =>
   refine PR W qg jy (Heap.get?_push_size _ rfl) fun v h' tk hP hk=>?_;exact hQ v h' tk (.inr ⟨rfl,hP⟩) fun b o hbw e=>hk b o hbw (Nat.ne_of_lt (Heap.lt_size e)) (Heap.get?_push_of_some _ e)
 have ha:=Z2 x d;simp only [checkBuiltinCall,F.kind_min];cases hsig:Manifest.signature? "min" with
 | none=>exact wpAny_pure Nu
 | some sig =>
  have ha':Bind.checkArgs "min" sig ⟨[x],[("default",d)]⟩=pure ():=by simpa only [argsOk,hsig] using ha
  simp only [ha'];exact wpAny_pure Nu
end
def g7 (h:Heap) (d:Addr) (es:Array DictEntry) (ep:Nat):Prop:=∃ o,h.get? d=some o/\o.ExactDict/\o.data=.dict es ep
theorem g7.at' {h h':Heap} {d:Addr} {es:Array DictEntry} {ep:Nat} (x:g7 h d es ep) (k:∀ o,h.get? d=some o->h'.get? d=some o):g7 h' d es ep:=let ⟨o,e,r⟩:=x; ⟨o,k o e,r⟩
section
variable {prog:Program} {w:World} {A:Around} {E:Value->Shared->Prop} {s:Shared} {es:Array DictEntry}
theorem g7.typeIs {d:Addr} {ep:Nat} (x:g7 s.heap d es ep):s.TypeIs (.ref d) "dict" := let ⟨o,e,c,_⟩:=x; ⟨o,e,c.1⟩
theorem zL {d:Addr} {ep:Nat} {Q:Value->Shared->Prop} (hd:(d == sysModules)=false) (hm:g7 s.heap d es ep)
  (hQ:Q (.ref s.heap.objs.size) { s with heap:=s.heap.push { cls:=.type "dict_keyiterator",data:=.fields #[.ref d,.int 0 0,.int es.size 0,.int ep 0] } }) :
  wpAny (model prog w) A (pyIter (.ref d)) Q E s:=by
 obtain ⟨o,ho,hc,eW⟩:=id hm;have hT:=hm.typeIs;refine wpAny_pyIter_slot hT F.slot_dict_iter (wpAny_call_entry F.slot_dict_iter hT F.entry_dict_iter ?_ (F.args_dict_iter_1 _));unfold Builtin.«dict.__iter__» Builtin.Dict.dictSlotNone;refine wpAny_bind (wpAny_bind (wpAny_notOrdered_dict hT ?_));show wpAny _ _ (pure (Value.ref d)) _ _ s;refine wpAny_pure ?_;show wpAny _ _ (Builtin.Dict.showsAll d >>= _) _ _ s;unfold Builtin.Dict.showsAll;rw [if_neg (by rw [hd]; exact Bool.false_ne_true)];refine wpAny_bind (wpAny_pure (wpAny_bind (wpAny_dictEntries ho eW (wpAny_bind (wpAny_dictEpoch ho eW ?_)))));refine wpAny_bind (wpAny_newObj_type (wpAny_pure ⟨_,rfl,"dict_keyiterator",_,⟨_,Heap.get?_push_size _ rfl,rfl⟩,F.slot_dict_keyiterator_next.lookup,?_⟩))
 simpa [rawInt] using hQ
theorem Ho {it d:Addr} {i ep:Nat} {Q:Option Value->Shared->Prop} (hit:s.heap.IsKeyIter it d i es.size ep) (hm:g7 s.heap d es ep)
  (h1:∀ bL:i < es.size,∀ h',h'.IsKeyIter it d (i+1) es.size ep->Heap.SameBut it s.heap h'->Q (some es[i].key) { s with heap:=h' })
  (h2:es.size<=i->A.handled=none/\∀ h',Heap.ExtBut it s.heap h'->Q none { s with heap:=h' }) :
  wpAny (model prog w) A (pyNext (.ref it)) Q E s:=by
 obtain ⟨o,ho,hc,hd⟩:=id hit;obtain ⟨od,xB,bM,xR⟩:=id hm;unfold pyNext;refine wpAny_bind (wpAny_attempt (wpAny_callSpecial?_slot (name:=Str.ofString "__next__") hit.typeIs F.slot_dict_keyiterator_next
  (wpAny_call_entry F.slot_dict_keyiterator_next hit.typeIs F.entry_dict_keyiterator_next ?_ (F.args_dict_keyiterator_next_1 _))))
 refine wpAny_bind (wpAny_pure (wpAny_bind (wpAny_bind ?_)));refine wpAny_bind (wpAny_typeNameOfWhole_keyiter hit.typeIs (wpAny_pure ?_));refine wpAny_bind (wpAny_fieldsOf ho hd ?_);simp only [show Builtin.Dict_items.ownsTuple "dict_keyiterator" = false by decide,Bool.false_eq_true,if_false];show wpAny _ _ (if (Value.ref d == Value.none)=true then _ else _) _ _ s;rw [if_neg (show ¬ ((Value.ref d == Value.none)=true) from Bool.false_ne_true)];refine wpAny_bind (wpAny_pure (wpAny_bind (wpAny_dictEntries xB xR ?_)));rw [if_neg (by simp)];refine wpAny_bind (wpAny_pure (wpAny_bind (wpAny_dictEpoch xB xR ?_)));rw [if_neg (by simp)];refine wpAny_pure ?_;rcases Nat.lt_or_ge i es.size with bL | gx
 ·simp only [show ¬ ((i:Int) < 0) from by omega,if_false,Int.toNat_natCast,Array.getElem?_eq_getElem bL];refine wpAny_bind (wpAny_bind (wpAny_typeNameOfWhole_keyiter hit.typeIs (wpAny_pure ?_)));refine wpAny_bind (wpAny_isOneOf_keyiter hit.typeIs ?_);show wpAny _ _ (setField (.ref it) 1 (rawInt ((i:Int)+1)) >>= _) _ _ s;refine wpAny_bind (wpAny_setField ho hd (by simp) ?_);have hit':(s.heap.update it (Obj.mapFields (·.setIfInBounds 1 (rawInt ((i:Int)+1))))).IsKeyIter it d (i+1) es.size ep :=
   ⟨_,Heap.get?_update_self _ ho (Obj.isFreed_of_fields (Obj.data_mapFields hd _)),(Obj.cls_mapFields ..).trans hc,by rw [Obj.data_mapFields hd]; simp [rawInt]⟩
  refine wpAny_bind (wpAny_holding (wpAny_bind (wpAny_isOneOf_keyiter (s:={ s with heap:=s.heap.update it (Obj.mapFields (·.setIfInBounds 1 (rawInt ((i:Int)+1)))) }) hit'.typeIs ?_)));show wpAny _ _ (pure es[i].key) _ _ _;exact wpAny_pure (wpAny_pure ⟨_,rfl,wpAny_pure (h1 bL _ hit' (Heap.SameBut.update ..))⟩)
 ·obtain ⟨hh,hQ⟩:=h2 gx;simp only [show ¬ ((i:Int) < 0) from by omega,if_false,Int.toNat_natCast,Array.getElem?_eq_none gx];refine wpAny_bind (wpAny_bind (wpAny_typeNameOfWhole_keyiter hit.typeIs (wpAny_pure ?_)));show wpAny _ _ (setField (.ref it) 0 .none >>= _) _ _ s;refine wpAny_bind (wpAny_setField ho hd (by simp) ?_);show wpAny _ _ (newExc (.type "StopIteration") [] >>= _) _ _ _;refine wpAny_bind ?_;simp only [newExc,newTuple];refine wpAny_bind (wpAny_newObj_type ?_ (by size_fits));refine wpAny_bind (m:=firstArgMember _ _) (wpAny_of_eq (a:=Value.none) (by first | rfl | (simp only [firstArgMember]; rfl)) ?_);refine wpAny_newObj_type ?_ (by size_fits);simp only [raiseNew];refine wpAny_bind (wpAny_handled ?_);rw [show A.in1.handled=none from hh];refine wpAny_bind (wpAny_pure (wpAny_throw ?_));refine wpAny_bind (wpAny_isInstance (T := "StopIteration") (b:=true) ⟨_,Heap.get?_push_size _ rfl,rfl⟩ isSubtype_stop ?_);exact wpAny_pure (hQ _ (((Heap.SameBut.update ..).extBut.push _).push _))
theorem yD (hh:A.handled=none) (I d:Addr) (dF:d≠I) (es:Array DictEntry) (ep:Nat) :
  Walks prog w A I [I,d] [I] es.size (fun i v=>∃ e,es[i]?=some e/\v=e.key) (fun i h=>h.IsKeyIter I d i es.size ep/\g7 h d es ep) where
 sub:=fun b hb=>by simp at hb; simp [hb]
 frame:=fun _ _ _ st hk=>⟨st.1.at fun o e=>hk I (by simp) o e,st.2.at' fun o e=>hk d (by simp) o e⟩
 item:=fun i s Q E hi st hQ=>Ho st.1 st.2 (fun bL h' hit' hs'=>hQ _ h' s.toks ⟨es[i],by simp [bL],rfl⟩ ⟨hit',st.2.at' fun o e=>hs'.extBut d o dF e⟩ fun b o hb e=>hs'.extBut b o (fun h=>hb (by simp [h])) e) fun gx=>absurd hi (Nat.not_lt.mpr gx)
 done:=fun s Q E st hQ=>Ho st.1 st.2 (fun bL=>absurd bL (Nat.lt_irrefl _)) fun _=>⟨hh,fun h' he'=>hQ h' s.toks fun b o hb e=>he' b o (fun h=>hb (by simp [h])) e⟩
 self:=fun _ _ _ _ st hQ=>wpAny_pyIter_keyiter st.1 hQ
end
section
variable {X:Cx}
def y8 (te:TE):TE:=fun σ H Q=>te σ H fun x H1=>∃ a kvs,x=.ref a/\H1 a=some (.dT kvs)/\((kvs=[]/\Q .au H1)\/∃ k v,kvs=[(k,v)]/\∀ p,H1 p=some (.tup (k.map kV))->Q (.ref p) H1)
theorem Uy {e:Expr} {te:TE} {p p2 p3 pos:Pos} {j:Nat} (hc:X.calm=true) (hg:Gl X "min") (hm:X.mg "min" = none) (he:PE X e te) (hs:starEach [e] X.env=[(false,eval e X.env)]:=by rfl) :
  PE X (.Call (.Name "min" p) [e] [⟨some "default",.Constant .none j p2,p3⟩] pos) (y8 te):=by
 intro pins s σ H Q I h;refine wpAny_Call_Name_kw (mD (u:=.builtin "min") I hg hm (by kernel_rfl) ?_);refine callWith_kw ?_ (by rw [hs]; rfl) (by rw [hs]; rfl);rw [hs];show wpAny _ _ (spliced ((false,eval e X.env)::backTo pos [])) _ _ s;refine Calls.spliced_cons (aD (he pins s σ H _ I h) fun u s1 ⟨x,H1,I1,rx,a,kvs,ex,hd,q⟩=>Calls.spliced_nil ?_);subst ex;cases (show u=Value.ref a from rx);refine kws_cons (Constant_none (kws_nil ?_));show wpAny _ _ (call (.builtin "min") [.ref a] [("default",.none)]) _ _ s1;obtain ⟨hz,hS,xs,hp,o,es,ep,ho,hex,eW,jB,iq⟩:=id (I1.aA a _ hd);refine OE (zL hS ⟨o,ho,hex,eW⟩ ?_);have bL:a < s1.heap.objs.size:=Heap.lt_size ho;have hW:=yD (prog:=X.prog) (w:=X.w) (A:=X.A.in1) (I1.ok.hd hc) s1.heap.objs.size a (Nat.ne_of_lt bL) es ep;have xh:(s1.heap.push { cls:=.type "dict_keyiterator",data:=.fields #[.ref a,.int 0 0,.int es.size 0,.int ep 0] }).IsKeyIter s1.heap.objs.size a 0 es.size ep/\g7 (s1.heap.push { cls:=.type "dict_keyiterator",data:=.fields #[.ref a,.int 0 0,.int es.size 0,.int ep 0] }) a es ep :=
  ⟨⟨_,Heap.get?_push_size _ rfl,rfl,rfl⟩,⟨o,Heap.get?_push_of_some _ ho,hex,eW⟩⟩
 have D3:∀ b∈[s1.heap.objs.size,a],b < (s1.heap.push { cls:=.type "dict_keyiterator",data:=.fields #[.ref a,.int 0 0,.int es.size 0,.int ep 0] }).objs.size:=fun b hb=>by
  rw [Heap.size_push];rcases List.mem_cons.mp hb with e | hb
  ·rw [e]; exact Nat.lt_succ_self _
  ·rw [List.mem_singleton.mp hb]; exact Nat.lt_succ_of_lt bL
 have kp:∀ h':Heap,(∀ b o,b ∉ [s1.heap.objs.size]->(s1.heap.push { cls:=.type "dict_keyiterator",data:=.fields #[.ref a,.int 0 0,.int es.size 0,.int ep 0] }).get? b=some o->h'.get? b=some o)->∀ b o,s1.heap.get? b=some o->h'.get? b=some o:=fun h' k b o e =>
  k b o (fun z=>by have z':=List.mem_singleton.mp z; have:=Heap.lt_size e; rw [z'] at this; exact Nat.lt_irrefl _ this) (Heap.get?_push_of_some _ e)
 have hsz:es.size=xs.length:=by rw [<- Array.length_toList,jB,List.length_map]
 refine ⟨_,_,_,_,_,_,rfl,hW,xh,D3,?_,fun v h' tk hv hk=>?_⟩
 ·rcases q with ⟨rfl,_⟩ | ⟨k,v,rfl,_⟩
  ·cases hp; rw [hsz]; exact Nat.zero_le _
  ·cases hp with | cons _ t=>cases t; rw [hsz]; exact Nat.le_refl _
 ·have I2:Inv X pins σ H1 { s1 with heap:=h',toks:=tk }:=I1.kept (t':=tk) (kp h' hk);rcases q with ⟨rfl,q⟩ | ⟨k,v',rfl,q⟩
  ·cases hp;rcases hv with ⟨_,rfl⟩ | ⟨h1,_⟩
   ·exact ⟨.au,H1,I2,rfl,q⟩
   ·rw [hsz] at h1; cases h1
  ·cases hp with
   | @cons _ y _ _ hh t =>
    cases t;rcases hv with ⟨h1,_⟩ | ⟨_,e,he,rfl⟩
    ·rw [hsz] at h1; cases h1
    ·rw [<- Array.getElem?_toList,jB] at he;cases he;exact ⟨.ref y.2.1,H1,I2,rfl,q _ hh.2.1⟩
end
theorem bU {f:Str} {v:V} {fs:List (Str×V)} {m:Nat} (h:fs.length<=m):(ay f v fs).length<=m+1:=Nat.le_trans (Ar f v fs) (Nat.succ_le_succ h)
def cW (fs gs:List (Str×V)):Prop:=∀ f,fs.lookup f=gs.lookup f
theorem cW.refl (fs:List (Str×V)):cW fs fs:=fun _=>rfl
theorem cW.put {fs gs:List (Str×V)} (h:cW fs gs) (f:Str) (v:V):cW (ay f v fs) (ay f v gs):=fun g=>by rw [dS,dS,h g]
section
variable {X:Cx}
theorem Jn {pins:List (Addr×Obj)} {σ:St} {H:Hp} {s:Shared} {Q:VK} {p:Addr} (hc:X.calm=true) (I:Inv X pins σ H s) (hd:H p=some (.dT [])) (q:∀ l,H l=none->Q (.ref l) (upd H l (.lst []))) :
  wpAny (model X.prog X.w) X.A (call (.builtin "sorted") [.ref p]) (EP X pins σ Q) X.xe s:=by
 obtain ⟨hz,hS,xs,hp,o,es,ep,ho,hex,eW,jB,iq⟩:=id (I.aA p _ hd);cases hp;have he:es=#[]:=by
  have:es.toList=[]:=jB;exact Array.toList_eq_nil_iff.mp this
 subst he;have ud:s.heap.DictAt (en X.prog X.w) p [] ep:=⟨o,#[],ho,hex,eW,fun e z=>absurd z (by simp),.nil,.nil⟩;refine Calls.call_function_entry kind_sorted plain_sorted entry_sorted (args_sorted1 _) ?_;unfold Builtin.«sorted»;refine wpAny_bind (m:=checkCount "sorted" 1 1 _) (wpAny_pure ?_);refine wpAny_bind (PySem.W.kdu_collect (A:=X.A.in1) (PySem.W.kdl_dict (knd:=en X.prog X.w) (kvs:=[]) (ep:=ep) hS) (I.ok.hd hc) ud (Nat.zero_le _) fun h' tk acc hk' eY=>?_);have ha:acc=#[]:=Array.eq_empty_of_size_eq_zero eY.1;subst ha;refine wpAny_bind (wpAny_newList ?_ (Nat.zero_le _));have gM:(h'.push (seqObj "list" ([]:List Value).toArray 0)).get? h'.objs.size=some (seqObj "list" ([]:List Value).toArray 0):=Heap.get?_push_size _ rfl;refine wpAny_bind (wpAny_holding (wpAny_call_entry slot_list_sort ⟨_,gM,rfl⟩ entry_list_sort (list_sort_treeK strKind_oneLt (vs:=[]) gM (StrsAre.nil).keysOf (fun v₁ v₂ rest e=>nomatch e) (by decide) fun st' a1 a2=>⟨_,rfl,?_⟩) (args_list_sort _)));refine wpAny_pure ⟨_,rfl,?_⟩;obtain ⟨e,he⟩:=sortedHeap_at (out:=(arrOf st').map (·.2)) gM;have aR:arrOf st'=#[]:=Array.eq_empty_of_size_eq_zero (a1.size_eq.trans (pairsOf_size []));rw [aR,Array.map_empty] at he;have I1:Inv X pins σ H { s with heap:=h',toks:=tk }:=I.kept (t':=tk) hk';rw [aR,Array.map_empty];refine ⟨.ref h'.objs.size,_,I1.laid (t':=tk) (fun b o z=>?_) (Nat.le_refl _) (show bH X.prog X.w _ _ _ (.lst []) from ⟨Nat.zero_le _,[],e,.nil,he⟩),rfl,q _ (I1.aA.fresh (Nat.le_refl _))⟩;have hb:b < h'.objs.size:=Heap.lt_size z;rw [sortedHeap_old (Nat.ne_of_lt hb) (by have:=Heap.size_push h' (seqObj "list" ([]:List Value).toArray 0); rw [this]; exact Nat.lt_succ_of_lt hb)];exact Heap.get?_push_of_some _ z
def V2 (K:PySem.W.Frag):List V->Hp->VK->Prop:=fun xs H Q=>Gh K xs H Q\/J0 xs H Q\/∃ p,xs=[.ref p]/\H p=some (.dT [])/\∀ l,H l=none->Q (.ref l) (upd H l (.lst []))
theorem IL {K:PySem.W.Frag} (h:X.K=K) (hc:X.calm=true):cy X (.builtin "sorted") (V2 K):=by
 subst h;intro pins s σ H xs us Q I r h;rcases h with h | h | ⟨p,rfl,hd,q⟩
 ·exact XQ pins s σ H xs us Q I r h
 ·exact TV hc pins s σ H xs us Q I r h
 ·obtain ⟨u,rfl,rx⟩:=vals1 r;cases rx;exact Jn hc I hd q
theorem BO:bootBuiltins "sorted" = some (.builtin "sorted"):=by kernel_rfl
theorem Dv.minD {e:Expr} {te:TE} {p p2 p3 pos:Pos} {j:Nat} (hc:X.calm=true) (hm:X.mg "min" = none) (he:QE X e te) (hg:Gl X "min" := by rfl) (hs:starEach [e] X.env=[(false,eval e X.env)]:=by rfl) :
  QE X (.Call (.Name "min" p) [e] [⟨some "default",.Constant .none j p2,p3⟩] pos) (y8 te):=⟨Uy hc hg hm he.h hs⟩
end
structure jY (K:PySem.W.Frag) (x qual:Str) (st:Stmt) (f:Addr) (fd:FuncData) (ds:List Value):Prop where
 ex:∃ (oc:Value) (od:Option Addr) (dt:Addr) (kV doc pm:Value) (an:Option Addr) (ah ct:Value) (cU:Array (Option Value)) (o:Obj) (n:Nat),
  fd=PySem.W.fnOf x qual (eK st) (aS st) (az st) (.ref dt) kV doc pm an ah ct/\K.lookup f=some ⟨oc,od,.func fd,cU⟩/\PySem.W.codeIn K ah qual=true/\K.lookup dt=some o/\o.data=.seq ds.toArray n
 kp:PySem.W.keepIn K (.ref f)=true
section
variable {P:Program} {w:World} {K:PySem.W.Frag} {mg:Str->Option Value} {base:Heap} {CX:dA} {x qual:Str} {st:Stmt} {f:Addr} {fd:FuncData} {N ps:List Str} {k:Nat} {ds:List Value}
theorem jY.eN {sp:Sp} (F:jY K x qual st f fd ds) (S:aE N ps (az st)) (len:∀ vs H Q E,sp vs H Q E->vs.length=ps.length)
  (hb:∀ (ah:Value) (A:Around) (outer:List Env) (s:Shared) (H:Hp) (vs:List V) (Q:VK) (E:XK),aZ k (A.deeper (envOfC qual (az st) s.heap.objs.size f ah))->sp vs H Q E ->
   ∃ t,cT (cF CX P w K mg base N qual (az st) f ah A outer s H E) (aS st) t/\t { nx:=fun _ H'=>Q .au H',rt:=Q } (start N vs) H):aB P w K mg base CX (k+1) f fd ps sp:=by
 obtain ⟨oc,od,dt,kV,doc,pm,an,ah,ct,cU,o,n,rfl,lk,bM,_⟩:=F.ex;exact uP lk bM S len fun A outer s H vs Q E hr cZ=>hb ah A outer s H vs Q E hr cZ
theorem jY.ok {sp:Sp} (F:jY K x qual st f fd ds) (S:aE N ps (az st)) (len:∀ vs H Q E,sp vs H Q E->vs.length=ps.length)
  (hb:∀ (ah:Value) (A:Around) (outer:List Env) (s:Shared) (H:Hp) (vs:List V) (Q:VK) (E:XK),aZ k (A.deeper (envOfC qual (az st) s.heap.objs.size f ah))->sp vs H Q E ->
   ∃ t,cT (cF aL P w K mg base N qual (az st) f ah A outer s H E).pd (aS st) t/\t { nx:=fun _ H'=>Q .au H',rt:=Q } (start N vs) H):aB P w K mg base aL (k+1) f fd ps sp :=
 F.eN S len fun ah A outer s H vs Q E hr cZ=>by
  obtain ⟨t,h,q⟩:=hb ah A outer s H vs Q E hr cZ;exact ⟨t,h.pd,q⟩
theorem O6 {oc:Value} {od an:Option Addr} {cU:Array (Option Value)} {kV doc pm ah ct:Value} {dt:Addr} {o:Obj} {n:Nat} (l:K.lookup f=some ⟨oc,od,.func (PySem.W.fnOf x qual (eK st) (aS st) (az st) (.ref dt) kV doc pm an ah ct),cU⟩)
  (c:PySem.W.codeIn K ah qual=true) (k:PySem.W.keepIn K (.ref f)=true) (ld:K.lookup dt=some o) (hd:o.data=.seq ds.toArray n):jY K x qual st f (PySem.W.fnOf x qual (eK st) (aS st) (az st) (.ref dt) kV doc pm an ah ct) ds :=
 ⟨⟨oc,od,dt,kV,doc,pm,an,ah,ct,cU,o,n,rfl,l,c,ld,hd⟩,k⟩
theorem e8.Xd {sp:vO} (F:e8 K x qual st f fd) (S:aE N ps (az st)) (len:∀ outer s vs H Q E,sp outer s vs H Q E->vs.length=ps.length)
  (hb:∀ (ah:Value) (A:Around) (outer:List Env) (s:Shared) (H:Hp) (vs:List V) (Q:VK) (E:XK),aZ k (A.deeper (envOfC qual (az st) s.heap.objs.size f ah))->sp outer s vs H Q E ->
   ∃ t,cT (cF CX P w K mg base N qual (az st) f ah A outer s H E) (aS st) t/\t { nx:=fun _ H'=>Q .au H',rt:=Q } (start N vs) H):rC P w K mg base CX (k+1) f fd ps sp:=by
 obtain ⟨oc,od,kV,doc,pm,an,ah,ct,cU,rfl,lk,bM⟩:=F.ex;exact Po lk bM S len fun A outer s H vs Q E hr cZ=>hb ah A outer s H vs Q E hr cZ
end
section
variable {X:Cx}
theorem Dv.eM (i:Nat) {k:Nat} {x:Str} {p pos:Pos} {B:Addr->Prop} {f:Addr} {cg:Hp->VK->XK->Prop} {R:St->XK} (D:lC X.prog X.w X.K X.mg X.base k X.s₀ B f cg) (hB:uE X.outer X.H₀ X.s₀ B) (hf:z7 X.s₀ f) (fX:B f) (hr:aZ k X.A) (hx:gz X R)
  (hex:X.ex=[]:=by rfl) (hN:X.N[i]?=some x:=by rfl) (hv:lE X.env.scope x:=by first | exact Or.inl rfl | exact Or.inr (Or.inl rfl) | exact Or.inr (Or.inr rfl))
  (hd:(x == ("__debug__" : Str))=false:=by decide) (bM:(x == ("__classdict__" : Str))=false:=by decide):QE X (.Call (.Name x p) [] [] pos) (zY i f cg R):=⟨NS hN hv D hB hf fX hex hr hx hd bM⟩
end
theorem dE {X:Cx}:gz X (fun _=>E0) where
 pass:=fun pins σ H s e s' I hc=>by
  obtain ⟨ea,C,od,H',rfl,F,hE⟩:=hc;exact hE.elim
section
variable {X:Cx}
theorem Dv.wo {P:Addr} {q:Str} {ix:List Nat} {W:List V->eV} {kW:eV->eV} {R:St->XK} {params:Arguments} {body:Expr} {scope:Scope} {cz:List (Str×Addr)} {N':List Str} {eX p pos:Pos} {x y:Str} {g:Addr} {fd:FuncData} {k k':Nat}
  (F:rC X.prog X.w X.K X.mg X.base (bJ X.prog X.w) k' g fd [y] (C1 X.prog X.w X.K X.mg X.base (k+1) kW)) (hr:aZ k' X.A) (hm:X.mg x=some (.ref g)) (hk:PySem.W.keepIn X.K (.ref g)=true) (hb:Binds X.K fd [y] []) (hx:gz X R)
  (iS:∀ (f:Addr) (ah:Value) (vs:List V) (A:Around) (outer:List Env) (s:Shared) (H:Hp) (Q:VK) (E:XK),aZ k (A.deeper (PySem.W.envX q scope s.heap.objs.size f ah cz))->W vs H Q E ->
   ∃ t,PE (lN X.prog X.w X.K X.mg X.base N' q scope f ah cz A outer s H E) body t/\t (vs.map some) H Q)
  (L:mQ X P params scope cz q) (S:kE N' scope cz) (C:lU X N' ix cz)
  (oh:∀ pm cd ct,bindArgs (PySem.W.kla_fn "<lambda>" q params body scope cz pm cd ct) ⟨[],[]⟩=pure []:=by exact fun _ _ _=>rfl) (hg:Gl X x:=by rfl)
  (bI:(x == ("__debug__" : Str))=false:=by decide):QE X (.Call (.Name x p) [.Lambda params body scope eX] [] pos) (Cr P q ix W kW R):=⟨Xu L S C F hr hg hm hk hb hx oh iS bI⟩
end
def eE {α:Type} (p:α->Prop):List α->Prop
 | []=>True
 | a::r=>p a/\eE p r
theorem eE.mem {α:Type} {p:α->Prop}:∀ {l:List α},eE p l->∀ a∈l,p a
 | _::_,h,a,ha=>by
  rcases List.mem_cons.mp ha with rfl | ha
  ·exact h.1
  ·exact eE.mem h.2 a ha
theorem ZJ:∀ {cl:List (Str×Addr)},(cl.map (·.2)).Nodup->∀ x y c,cl.lookup x=some c->cl.lookup y=some c->x=y:=by
 intro cl nd x y c h1 h2;have m1:=PySem.mem_of_lookup h1;have m2:=PySem.mem_of_lookup h2
 induction cl with
 | nil=>cases m1
 | cons e r ih =>
  have nd':=List.nodup_cons.mp (show (e.2::r.map (·.2)).Nodup from nd);rcases List.mem_cons.mp m1 with e1 | e1 <;> rcases List.mem_cons.mp m2 with e2 | e2
  ·rw [<- e1] at e2; exact (congrArg Prod.fst e2).symm
  ·exact absurd (List.mem_map.mpr ⟨_,e2,by rw [<- e1]⟩) nd'.1
  ·exact absurd (List.mem_map.mpr ⟨_,e1,by rw [<- e2]⟩) nd'.1
  ·have go:∀ {l:List (Str×Addr)},(l.map (·.2)).Nodup->(x,c)∈l->(y,c)∈l->x=y:=by
    intro l
    induction l with
    | nil=>intro _ a; cases a
    | cons e r ih =>
     intro nd a b;have nd':=List.nodup_cons.mp (show (e.2::r.map (·.2)).Nodup from nd);rcases List.mem_cons.mp a with e1 | e1 <;> rcases List.mem_cons.mp b with e2 | e2
     ·rw [<- e1] at e2; exact (congrArg Prod.fst e2).symm
     ·exact absurd (List.mem_map.mpr ⟨_,e2,by rw [<- e1]⟩) nd'.1
     ·exact absurd (List.mem_map.mpr ⟨_,e1,by rw [<- e2]⟩) nd'.1
     ·exact ih nd'.2 e1 e2
   exact go nd'.2 e1 e2
theorem kE.of {N:List Str} {scope:Scope} {cl:List (Str×Addr)} (kind:scope.kind=.function) (co:scope.isCoroutine=false) (gen:scope.isGenerator=false) (sv:scope.names.all (fun x=>x.2 != .cell)=true)
  (free:N.all (fun x=>scope.names.lookup x == some .free)=true) (has:eE (fun e:Str×NameKind=>e.2=.free->∃ c,cl.lookup e.1=some c) scope.names) (nd:(cl.map (·.2)).Nodup):kE N scope cl where
 kind:=kind
 co:=co
 gen:=gen
 sv:=fun x hx=>by simpa using List.all_eq_true.mp sv x hx
 free:=fun x hx=>by simpa using List.all_eq_true.mp free x hx
 has:=fun x hx=>eE.mem has _ (PySem.mem_of_lookup hx) rfl
 inj:=ZJ nd
theorem lU.of {X:Cx} {N':List Str} {ix:List Nat} {cz:List (Str×Addr)} (len:ix.length=N'.length) (own:X.fn=fun _=>true)
  (at':eE (fun e:Nat×Str=>X.N[e.1]?=some e.2/\X.env.scope.names.lookup e.2=some .cell/\cz.lookup e.2=X.env.cells.lookup e.2) (ix.zip N'))
  (hJ:eE (fun e:Str×Addr=>X.env.cells.lookup e.1=some e.2) cz):lU X N' ix cz where
 len:=len
 at':=fun i j h=>by
  have hi:=(List.getElem?_eq_some_iff.mp h).1;have hi':i < N'.length:=len ▸ hi;have hm:(j,N'[i])∈ix.zip N':=by
   refine List.mem_iff_getElem?.mpr ⟨i,?_⟩;rw [List.getElem?_zip_eq_some];exact ⟨h,List.getElem?_eq_getElem hi'⟩
  have z:=eE.mem at' _ hm;exact ⟨N'[i],List.getElem?_eq_getElem hi',z.1,z.2.1⟩
 hJ:=fun x c h=>eE.mem hJ _ (PySem.mem_of_lookup h)
 Lu:=fun x hx=>by
  obtain ⟨i,hi,rfl⟩:=List.getElem_of_mem hx;have hi':i < ix.length:=len ▸ hi;have hm:(ix[i],N'[i])∈ix.zip N':=by
   refine List.mem_iff_getElem?.mpr ⟨i,?_⟩;rw [List.getElem?_zip_eq_some];exact ⟨List.getElem?_eq_getElem hi',List.getElem?_eq_getElem hi⟩
  exact (eE.mem at' _ hm).2.2
 own:=fun _ _ _=>by rw [own]
theorem e8.yu {P:Program} {w:World} {K:PySem.W.Frag} {mg:Str->Option Value} {base:Heap} {CX:dA} {x qual:Str} {st:Stmt} {f:Addr} {fd:FuncData} {N ps:List Str} {k:Nat} {sp:Sp} (F:e8 K x qual st f fd) (S:aE N ps (az st)) (len:∀ vs H Q E,sp vs H Q E->vs.length=ps.length)
  (hb:∀ (ah:Value) (A:Around) (outer:List Env) (s:Shared) (H:Hp) (vs:List V) (Q:VK) (E:XK),fd.code=ah->aZ k (A.deeper (envOfC qual (az st) s.heap.objs.size f ah))->sp vs H Q E ->
   ∃ t,cT (cF CX P w K mg base N qual (az st) f ah A outer s H E) (aS st) t/\t { nx:=fun _ H'=>Q .au H',rt:=Q } (start N vs) H):aB P w K mg base CX (k+1) f fd ps sp:=by
 obtain ⟨oc,od,kV,doc,pm,an,ah,ct,cU,rfl,lk,bM⟩:=F.ex;exact uP lk bM S len fun A outer s H vs Q E hr cZ=>hb ah A outer s H vs Q E rfl hr cZ
section
variable {X:Cx}
theorem ve {pins:List (Addr×Obj)} {σ:St} {H:Hp} {s:Shared} {A:Around} {a b:Addr} {xs ys:List V} (I:Inv X pins σ H s) (ha:aC X.K H a xs) (hb:aC X.K H b ys) (h0:xs=[]\/ys=[]) (hu:A.units < cLine) :
  SeqAt.RcAt A s (.ref a) (.ref b) (decide (xs=ys))/\SeqAt.RcNeAt A s (.ref a) (.ref b) (!decide (xs=ys)):=by
 obtain ⟨i1,r1,p1,_⟩:=I.list ha;obtain ⟨i2,r2,p2,_⟩:=I.list hb;have n1:i1.toArray.size=xs.length:=by rw [List.size_toArray,<- r1.length]
 have n2:i2.toArray.size=ys.length:=by rw [List.size_toArray,<- r2.length]
 by_cases h:xs.length=ys.length
 ·have e1:xs=[]:=by
   rcases h0 with e | e
   ·exact e
   ·rw [e] at h; exact List.length_eq_zero_iff.mp h
  have e2:ys=[]:=by rw [e1] at h; exact List.length_eq_zero_iff.mp h.symm
  subst e1 e2;have hsz:i1.toArray.size=i2.toArray.size:=by rw [n1,n2]
  have hz:i1.toArray.size=0:=n1;have k1:=SeqAt.RcAt.lists (A:=A) (s:=s) (e:=fun _=>true) p1.isList p2.isList hsz hu (fun j g1 g2=>absurd g1 (by rw [hz]; exact Nat.not_lt_zero _));have k2:=SeqAt.RcNeAt.lists (A:=A) (s:=s) (e:=fun _=>true) p1.isList p2.isList hsz hu (fun j g1 g2=>absurd g1 (by rw [hz]; exact Nat.not_lt_zero _));rw [hz] at k1 k2;exact ⟨k1,k2⟩
 ·have hsz:(i1.toArray.size != i2.toArray.size)=true:=by rw [n1,n2]; simpa using h
  have e:decide (xs=ys)=false:=decide_eq_false fun z=>h (by rw [z]);rw [e];exact ⟨SeqAt.RcAt.lists_lengths p1.isList p2.isList hsz hu,SeqAt.RcNeAt.lists_lengths p1.isList p2.isList hsz hu⟩
def pk (K:PySem.W.Frag) (neg:Bool):R2:=fun x y H Q=>match x,y with
 | .ref a,.ref b=>∃ xs ys:List V,aC K H a xs/\aC K H b ys/\((ys=[]/\Q (.bl (neg ^^ xs.isEmpty)) H)\/(xs=[]/\Q (.bl (neg ^^ ys.isEmpty)) H))
 | _,_=>False
theorem Jf {xs ys:List V} (h:ys=[]):decide (xs=ys)=xs.isEmpty:=by subst h; cases xs <;> simp
theorem Fm {xs ys:List V} (h:xs=[]):decide (xs=ys)=ys.isEmpty:=by subst h; cases ys <;> simp
theorem Rm {K:PySem.W.Frag} (hK:X.K=K) (hu:X.A.units < cLine):aX X (compareOp .Eq) (pk K false):=by
 subst hK;intro pins s σ H x y v u Q I rx ry h;unfold pk at h;split at h
 ·obtain ⟨xs,ys,ha,hb,q⟩:=h;cases rx; cases ry;simp only [Bool.false_bne] at q;rcases q with ⟨e,q⟩ | ⟨e,q⟩
  ·exact (ve I ha hb (.inr e) hu).1 _ _ _ _ ⟨.bl _,H,I,rfl,by rw [Jf e]; exact q⟩
  ·exact (ve I ha hb (.inl e) hu).1 _ _ _ _ ⟨.bl _,H,I,rfl,by rw [Fm e]; exact q⟩
 ·exact h.elim
theorem Vq {K:PySem.W.Frag} (hK:X.K=K) (hu:X.A.units < cLine):aX X (compareOp .NotEq) (pk K true):=by
 subst hK;intro pins s σ H x y v u Q I rx ry h;unfold pk at h;split at h
 ·obtain ⟨xs,ys,ha,hb,q⟩:=h;cases rx; cases ry;simp only [Bool.true_bne] at q;rcases q with ⟨e,q⟩ | ⟨e,q⟩
  ·exact (ve I ha hb (.inr e) hu).2 _ _ _ _ ⟨.bl _,H,I,rfl,by rw [Jf e]; exact q⟩
  ·exact (ve I ha hb (.inl e) hu).2 _ _ _ _ ⟨.bl _,H,I,rfl,by rw [Fm e]; exact q⟩
 ·exact h.elim
def y4:V->List V->Hp->VK->Prop:=fun x vs H Q=>match x,vs with
 | .ref l,[]=>∃ xs y,H l=some (.lst (xs++[y]))/\Q y (upd H l (.lst xs))
 | _,_=>False
theorem Fe:dD X "list.pop" y4:=dD.imp (r:=HS) Ub fun x vs H Q h=>by
 unfold y4 at h;split at h
 ·obtain ⟨xs,y,hl,q⟩:=h;refine ⟨_,xs++[y],y,rfl,rfl,hl,?_,?_⟩
  ·simp
  ·rw [List.dropLast_concat]; exact q
 ·exact h.elim
def WH:List V->Hp->VK->Prop:=fun xs H Q=>∃ p kvs,xs=[.ref p]/\H p=some (.dT kvs)/\∀ l (ks:List Addr),ks.length=kvs.length->(∀ (i:Nat) (a:Addr) (k:List Key) (v:V),ks[i]?=some a->kvs[i]?=some (k,v)->H a=some (.tup (k.map kV)))->H l=none ->
 Q (.ref l) (upd H l (.lst (ks.map V.ref)))
end
theorem Qk {prog:Program} {w:World} {d:Addr} {es:Array DictEntry} {ep:Nat} (lo:(d == sysModules)=false):PySem.W.KdlSrc prog w "dict" d d es.size (fun i v=>∃ e,es[i]?=some e/\v=e.key) (fun h=>g7 h d es ep) where
 type:=fun _ hm=>hm.typeIs
 there:=fun _ hm=>let ⟨_,e,_⟩:=hm; ⟨Heap.lt_size e,Heap.lt_size e⟩
 keep:=fun _ _ hm hk=>hm.at' fun o e=>hk d (.inl rfl) o e
 notList:=by decide
 notTuple:=by decide
 hint:=fun _ _ _ _ hm hq=>PySem.W.kdl_hint_dict hm.typeIs hq
 iter:=fun _ _ hh hm=>⟨_,_,(fun _ _ hq=>zL lo hm hq),yD hh _ d (let ⟨_,e,_⟩:=hm; Nat.ne_of_lt (Heap.lt_size e)) es ep,⟨⟨_,Heap.get?_push_size _ rfl,rfl,rfl⟩,hm.at' fun o e=>Heap.get?_push_of_some _ e⟩⟩
theorem Hh {α β:Type} {F:α->β->Prop}:∀ {l₁:List α} {l₂:List β},Paired F l₁ l₂->∀ {i:Nat} {a:α} {b:β},l₁[i]?=some a->l₂[i]?=some b->F a b
 | _,_,.cons h _,0,_,_,e1,e2=>by cases e1; cases e2; exact h
 | _,_,.cons _ t,i+1,_,_,e1,e2=>Hh t e1 e2
section
variable {X:Cx}
theorem CI:∀ {vs:List V} {us:List Value},vs.length=us.length->(∀ (i:Nat) (v:V) (u:Value),vs[i]?=some v->us[i]?=some u->RelV v u)->Vals vs us
 | [],[],_,_=>.nil
 | v::vs,u::us,e,h=>.cons (h 0 v u rfl rfl) (CI (by simpa using e) fun i v u h1 h2=>h (i+1) v u h1 h2)
theorem Vp (hc:X.calm=true):cy X (.type "list") WH:=by
 intro pins s σ H xs us Q I r h;obtain ⟨p,kvs,rfl,hd,q⟩:=h;obtain ⟨u,rfl,rx⟩:=vals1 r;cases rx;obtain ⟨hz,hS,ys,hp,o,es,ep,ho,hex,eW,jB,iq⟩:=id (I.aA p _ hd);have hsz:es.size=ys.length:=by rw [<- Array.length_toList,jB,List.length_map]
 have kU:kvs.length=ys.length:=hp.length;refine PySem.W.kdl_call (Qk (prog:=X.prog) (w:=X.w) (ep:=ep) (es:=es) hS) (I.ok.hd hc) ⟨o,ho,hex,eW⟩ (by rw [hsz,<- kU]; exact hz) fun h' tk acc c hk hD eY=>?_;have Dw:acc.toList.length=ys.length:=by rw [Array.length_toList,eY.1,hsz]
 have hv:Vals ((ys.map (·.2.1)).map V.ref) acc.toList:=by
  refine CI (by simp [Dw]) fun i v u h1 h2=>?_;obtain ⟨e,he,rfl⟩:=eY.2 i u (by rw [<- Array.getElem?_toList]; exact h2);rw [<- Array.getElem?_toList,jB,List.getElem?_map] at he;rw [List.map_map,List.getElem?_map] at h1;cases hy:ys[i]? with
  | none=>rw [hy] at h1; cases h1
  | some y =>
   rw [hy] at h1 he;cases h1; cases he;exact rfl
 refine ⟨.ref s.heap.objs.size,_,I.laid (t':=tk) hk (Nat.le_refl _) (show bH X.prog X.w _ _ _ (.lst ((ys.map (·.2.1)).map V.ref)) from ⟨?_,_,c,hv,?_⟩),rfl,q _ (ys.map (·.2.1)) ?_ (fun i a k v h1 h2=>?_) (I.aA.fresh (Nat.le_refl _))⟩
 ·simp only [List.length_map]; rw [<- kU]; exact hz
 ·rw [Array.toArray_toList]; exact hD
 ·rw [List.length_map,kU]
 ·rw [List.getElem?_map] at h1;cases hy:ys[i]? with
  | none=>rw [hy] at h1; cases h1
  | some y =>
   rw [hy] at h1;cases h1;have z:=Hh hp h2 hy;exact z.2.1
end
theorem RS:typeLookup (.type "list_reverseiterator") "__len__" = pure none:=by rw [typeLookup_type,builtinLookup_eq_fast]; kernel_rfl
theorem VQ:typeLookup (.type "list_reverseiterator") "__length_hint__" = pure (some (.builtin "list_reverseiterator.__length_hint__")):=by rw [typeLookup_type,builtinLookup_eq_fast]; kernel_rfl
section
variable {prog:Program} {w:World} {A:Around} {E:Value->Shared->Prop} {s:Shared} {I:Addr}
theorem Wj {Q:Bool->Shared->Prop} (hT:s.TypeIs (.ref I) "list_reverseiterator") (h:Q false s):wpAny (model prog w) A (Builtin.List.listLengthHint (.ref I)) Q E s:=by
 unfold Builtin.List.listLengthHint;refine wpAny_bind (wpAny_specialOf hT RS ?_);show wpAny _ A (specialOf (Value.ref I) (Str.ofString "__length_hint__") >>= _) _ _ _;refine wpAny_bind (wpAny_specialOf hT VQ ?_);generalize hid:("list_reverseiterator.__length_hint__" : String)=id0
 wp_delta
 rw [show splitId id0=some ("list_reverseiterator","__length_hint__") from by subst hid; decide +kernel];subst hid;refine wpAny_bind (wpAny_isInstance (T := "list_reverseiterator") (b:=true) hT (by rw [isSubtype_type]; kernel_rfl) ?_);refine wpAny_ite_split (fun dG=>absurd dG (by decide)) (fun _=>?_);refine wpAny_ite_split (fun _=>?_) (fun dG=>absurd (by decide +kernel) dG);refine wpAny_ite_split (fun dG=>absurd dG (by decide +kernel)) (fun _=>?_);exact wpAny_pure h
theorem YF {R:Result->Shared->Prop} {l S:Addr} {items:Array Value} {res:Value} {c₀:Nat} (hh:A.handled=none) (hit:s.heap.IsRevIter I l ((items.size:Int) - 1)) (hl:s.heap.IsList l items) (dF:l≠I) (LG:S≠I) (hSl:S≠l) (hn:items.size<=sizeLine)
  (hS:s.heap.get? S=some { cls:=.type "list",data:=.seq #[] c₀ })
  (hR:∀ h' tk acc' c',(∀ b o,b≠S->b≠I->s.heap.get? b=some o->h'.get? b=some o)->h'.get? S=some { cls:=.type "list",dict:=none,data:=.seq acc' c',slots:=#[] }->ItemsOf (fun i v=>items[items.size - 1 - i]?=some v) acc' items.size->R (.ok (.ret res)) { s with heap:=h',toks:=tk }) :
  wpAny (model prog w) A.in1 (Builtin.List.listExtendWith (.ref S) (.ref I) res)
   (fun fin s'=>match fin with | .done f=>R (.ok f) s' | .again c'=>c'.quiet=true/\codeAny (model prog w) A c' R s') (fun e s'=>R (.error e) s') s:=by
 have W:=Walks.listRev (prog:=prog) (w:=w) (A:=A.in1) hh I l dF items;have qg:S ∉ [I,l]:=by simp only [List.mem_cons,List.not_mem_nil,or_false,not_or]; exact ⟨LG,hSl⟩
 have xh:0<=items.size/\s.heap.IsRevIter I l ((items.size:Int) - 1 - ((0:Nat):Int))/\s.heap.IsList l items:=⟨Nat.zero_le _,by simpa using hit,hl⟩;unfold Builtin.List.listExtendWith;refine wpAny_bind (wpAny_typeOf hit.typeIs ?_);have h1:Builtin.List.listSameRef (.ref S) (.ref I)=false:=by simp [Builtin.List.listSameRef,LG]
 simp only [h1,show (Value.type "list_reverseiterator" == Value.type "list")=false by decide,show (Value.type "list_reverseiterator" == Value.type "tuple")=false by decide,Bool.or_false,Bool.false_eq_true,if_false];refine wpAny_bind (W.self 0 _ _ _ xh ?_);refine wpAny_bind (wpAny_holding (Wj hit.typeIs ?_));refine wpAny_ite_split (fun h=>absurd h (by decide)) (fun _=>wpAny_pure ⟨plainId_quiet PySem.F.plain_extend_loop _,?_⟩);refine codeAny_extend_loopS W.toS hn S qg res items.size 0 _ #[] c₀ rfl (Nat.zero_le _) xh hS (ItemsOf.nil _) fun s' acc' c' hm hS' eY=>?_;rw [Moved.eq_with hm];refine hR s'.heap s'.toks acc' c' (fun b o hb hb' e=>hm.heap b o (fun hmem=>?_) e) hS' eY;rcases List.mem_cons.mp hmem with e' | hmem
 ·exact hb e'
 ·exact hb' (List.mem_singleton.mp hmem)
theorem OR {Q:Value->Shared->Prop} {l:Addr} {items:Array Value} (hh:A.handled=none) (hit:s.heap.IsRevIter I l ((items.size:Int) - 1)) (hl:s.heap.IsList l items) (dF:l≠I) (hn:items.size<=sizeLine)
  (hQ:∀ h' tk acc' c',(∀ b o,b≠I->s.heap.get? b=some o->h'.get? b=some o)->h'.get? s.heap.objs.size=some { cls:=.type "list",dict:=none,data:=.seq acc' c',slots:=#[] }->ItemsOf (fun i v=>items[items.size - 1 - i]?=some v) acc' items.size ->
   Q (.ref s.heap.objs.size) { s with heap:=h',toks:=tk }):wpAny (model prog w) A (call (.type "list") [.ref I]) Q E s:=by
 have hIlt:I < s.heap.objs.size:=let ⟨_,e,_⟩:=hit; Heap.lt_size e
 have hllt:l < s.heap.objs.size:=let ⟨_,e,_⟩:=hl; Heap.lt_size e
 refine callType_codes (Q₁:=fun obj s₁=>obj=.ref s.heap.objs.size/\s₁={ s with heap:=s.heap.push { cls:=.type "list",data:=.seq #[] } }) PySem.F.called_list (PySem.F.typeCall_list_1 _) PySem.F.entry_list_init
  (code_list_new _ ⟨rfl,rfl⟩) fun obj s₁ h₁=>?_
 obtain ⟨rfl,rfl⟩:=h₁;have hS:(s.heap.push { cls:=.type "list",data:=.seq #[] }).get? s.heap.objs.size=some { cls:=.type "list",data:=.seq #[] }:=Heap.get?_push_size _ rfl;refine ⟨⟨_,hS,rfl⟩,PySem.F.args_list_init_2 _ _,?_⟩;show wpAny _ _ (do let old <- Builtin.List.listItems (.ref s.heap.objs.size); Builtin.List.listUpdate (.ref s.heap.objs.size) (fun _=>#[]); letGo old.toList.reverse; Builtin.List.listExtendWith (.ref s.heap.objs.size) (.ref I) .none) _ _ _;refine wpAny_bind ?_;unfold Builtin.List.listItems;refine wpAny_bind (wpAny_seqItems hS rfl (wpAny_pure ?_));show wpAny _ _ (updateSeq s.heap.objs.size (fun _=>#[]) >>= fun _=>letGo (#[]:Array Value).toList.reverse >>= fun _=>Builtin.List.listExtendWith (.ref s.heap.objs.size) (.ref I) .none) _ _ _;refine wpAny_bind (wpAny_updateSeq hS rfl ?_);have hS₂:=Heap.get?_update_self (Obj.mapSeq (fun _=>(#[]:Array Value))) hS rfl;have C5:∀ b o,s.heap.get? b=some o->((s.heap.push { cls:=.type "list",data:=.seq #[] }).update s.heap.objs.size (Obj.mapSeq (fun _=>(#[]:Array Value)))).get? b=some o :=
  fun b o e=>(Heap.get?_update_other _ _ (Nat.ne_of_gt (Heap.lt_size e))).trans (Heap.get?_push_of_some _ e)
 refine wpAny_bind (wpAny_letGo ?_);refine YF (A:=A.in1) hh (hit.at fun o e=>C5 _ o e) (hl.at fun o e=>C5 _ o e) dF (Nat.ne_of_gt hIlt) (Nat.ne_of_gt hllt) hn hS₂ fun h' tk acc' c' hk hS' eY=>?_;exact ⟨rfl,hQ h' tk acc' c' (fun b o hb e=>hk b o (Nat.ne_of_lt (Heap.lt_size e)) hb (C5 b o e)) hS' eY⟩
end
section
variable {X:Cx}
def BR (K:PySem.W.Frag) (te:TE):TE:=fun σ H Q=>te σ H fun x H1=>∃ p ys,x=.ref p/\aC K H1 p ys/\∀ l,H1 l=none->Q (.ref l) (upd H1 l (.lst ys.reverse))
theorem VY {e:Expr} {te:TE} {p q pos qos:Pos} (hc:X.calm=true) (hg:Gl X "list") (hm:X.mg "list" = none) (Dg:Gl X "reversed") (qf:X.mg "reversed" = none) (he:PE X e te) (hs:starEach [e] X.env=[(false,eval e X.env)]:=by rfl) :
  PE X (.Call (.Name "list" p) [.Call (.Name "reversed" q) [e] [] qos] [] pos) (BR X.K te):=by
 intro pins s σ H Q I h;refine wpAny_Call_Name_kw (mD (u:=.type "list") I hg hm (by kernel_rfl) ?_);refine PyProof.Rows.callWith_type1 ?_;show wpAny _ _ (spliced ((false,eval (.Call (.Name "reversed" q) [e] [] qos) X.env)::backTo pos (starEach [] X.env))) _ _ s;refine Calls.spliced_cons ?_;refine wpAny_Call_Name_kw (mD (u:=.type "reversed") I Dg qf (by kernel_rfl) ?_);refine PyProof.Rows.callWith_type1 ?_ (by rw [hs]; rfl) (by rfl);rw [hs];show wpAny _ _ (spliced ((false,eval e X.env)::backTo qos [])) _ _ s;refine Calls.spliced_cons (aD (he pins s σ H _ I h) fun u s1 ⟨x,H1,I1,rx,a,ys,ex,hl,q⟩=>Calls.spliced_nil ?_);subst ex;cases (show u=Value.ref a from rx);obtain ⟨aj,r',pl,hz⟩:=I1.list hl;have hlen:=r'.length;obtain ⟨oa,hoa,_⟩:=pl.isList;have halt:a < s1.heap.objs.size:=Heap.lt_size hoa;refine call_reversed_list pl.isList ?_;refine Calls.spliced_nil ?_;refine OR (I1.ok.hd hc) (l:=a) (items:=aj.toArray) ⟨_,Heap.get?_push_size _ rfl,rfl,rfl⟩ (pl.isList.at fun o e=>Heap.get?_push_of_some _ e) (Nat.ne_of_lt halt) (by rw [List.size_toArray,<- hlen]; exact hz) fun h' tk acc c hk hD eY=>?_;have kp:∀ b o,s1.heap.get? b=some o->h'.get? b=some o:=fun b o e=>hk b o (Nat.ne_of_lt (Heap.lt_size e)) (Heap.get?_push_of_some _ e);have hsz:s1.heap.objs.size<=(s1.heap.push (revObj a ((aj.toArray.size:Int) - 1))).objs.size:=by rw [Heap.size_push]; exact Nat.le_succ _
 have hv:Vals ys.reverse acc.toList:=by
  have ha:acc.size=aj.length:=by rw [eY.1,List.size_toArray]
  refine CI (by rw [List.length_reverse,hlen,<- ha]; exact Array.length_toList.symm) fun i v u h1 h2=>?_;have hu:=eY.2 i u (by rw [<- Array.getElem?_toList]; exact h2);have hi:i < ys.length:=by have:=(List.getElem?_eq_some_iff.mp h1).1; rwa [List.length_reverse] at this
  rw [List.getElem?_reverse hi] at h1;obtain ⟨w,hw,rw'⟩:=r'.get h1;rw [List.getElem?_toArray,List.size_toArray,<- hlen,hw] at hu;cases hu;exact rw'
 refine ⟨.ref _,_,I1.laid (t':=tk) kp hsz (show bH X.prog X.w _ _ _ (.lst ys.reverse) from ⟨by rw [List.length_reverse]; exact hz,_,c,hv,by rw [Array.toArray_toList]; exact hD⟩),rfl,q _ (I1.aA.fresh hsz)⟩
theorem Dv.listRev {e:Expr} {te:TE} {p q pos qos:Pos} {K:PySem.W.Frag} (hK:X.K=K) (hc:X.calm=true) (hm:X.mg "list" = none) (qf:X.mg "reversed" = none) (he:QE X e te) (hg:Gl X "list" := by rfl) (Dg:Gl X "reversed" := by rfl) (hs:starEach [e] X.env=[(false,eval e X.env)]:=by rfl) :
  QE X (.Call (.Name "list" p) [.Call (.Name "reversed" q) [e] [] qos] [] pos) (BR K te):=hK ▸ ⟨VY hc hg hm Dg qf he.h hs⟩
end
theorem Kj {K:PySem.W.Frag} {x:Str} {f c P:Addr} {oc occ:Value} {od odc:Option Addr} {fd:FuncData} {sl slc:Array (Option Value)} {vs:Array Value} (n:PySem.W.nsIn K mainGlobals x=some (some (.ref f))) (l:K.lookup f=some ⟨oc,od,.func fd,sl⟩) (hc:fd.code=.ref c)
  (lc:K.lookup c=some ⟨occ,odc,.fields vs,slc⟩) (hv:vs[11]?=some (.ref P)):PySem.W.tabIn K x=some (c,P):=by
 unfold PySem.W.tabIn;simp only [n,l,hc,lc,hv]
def cq (X:Cx) (scope:Scope) (cl:List (Str×Addr)) (N:List Str) (s:Shared) (H:Hp) (ex:List Addr) (C:Addr):Cx :=
 { X with N:=N,s₀:=s,H₀:=H,env:=compEnvC scope cl C X.env,outer:=X.stack,stack:=X.stack,ex:=ex,fn:=fun _=>false,pn:=[],xe:=fun _ _=>False }
structure iY (X:Cx) (scope:Scope) (cl:List (Str×Addr)) (caps:List Str) (ix:List Nat):Prop where
 hJ:closureFor scope X.env=pure cl
 sub:∀ x c,cl.lookup x=some c->X.env.cells.lookup x=some c
 has:∀ y,((relabel scope X.env).names.lookup y=some .cell\/(relabel scope X.env).names.lookup y=some .free)->∃ c,cl.lookup y=some c
 len:ix.length=caps.length
 at':∀ (i j:Nat),ix[i]?=some j->∃ x,caps[i]?=some x/\X.N[j]?=some x/\X.env.scope.names.lookup x=some .cell/\(relabel scope X.env).names.lookup x=some .cell/\cl.lookup x=X.env.cells.lookup x
theorem iY.of {X:Cx} {scope:Scope} {cl:List (Str×Addr)} {caps:List Str} {ix:List Nat} (hJ:closureFor scope X.env=pure cl) (sub:eE (fun e:Str×Addr=>X.env.cells.lookup e.1=some e.2) cl)
  (has:eE (fun e:Str×NameKind=>(e.2=.cell\/e.2=.free)->∃ c,cl.lookup e.1=some c) (relabel scope X.env).names) (len:ix.length=caps.length)
  (at':eE (fun e:Nat×Str=>X.N[e.1]?=some e.2/\X.env.scope.names.lookup e.2=some .cell/\(relabel scope X.env).names.lookup e.2=some .cell/\cl.lookup e.2=X.env.cells.lookup e.2) (ix.zip caps)):iY X scope cl caps ix where
 hJ:=hJ
 sub:=fun x c h=>eE.mem sub _ (PySem.mem_of_lookup h)
 has:=fun y hy=>by
  rcases hy with h | h
  ·exact eE.mem has _ (PySem.mem_of_lookup h) (.inl rfl)
  ·exact eE.mem has _ (PySem.mem_of_lookup h) (.inr rfl)
 len:=len
 at':=fun i j h=>by
  have hi:=(List.getElem?_eq_some_iff.mp h).1;have hi':i < caps.length:=len ▸ hi;have hm:(j,caps[i])∈ix.zip caps:=by
   refine List.mem_iff_getElem?.mpr ⟨i,?_⟩;rw [List.getElem?_zip_eq_some];exact ⟨h,List.getElem?_eq_getElem hi'⟩
  have z:=eE.mem at' _ hm;exact ⟨caps[i],List.getElem?_eq_getElem hi',z⟩
def mG (n:Nat) (ix:List Nat) (wi:TI) (g:TG) (tt:TT) (te:TE):TE:=fun σ H Q=>∃ vs,ng ix σ vs/\wi σ H fun J H1=>∃ W:Nat->List V->Nat->Hp->Prop,(∃ m,W 0 [] m H1)/\∀ i ys m H,W i ys m H ->
 ys.length<=sizeLine/\((J.stop i H/\∀ l,H l=none->Q (.ref l) (upd H l (.lst ys))) \/
  (J.go i H/\ys.length < sizeLine/\∀ y H',J.ky i H y H'->∀ σ0:St,σ0.length=n->g y (σ0++vs.map some) H' fun σ1 H1=>(∃ σ2:St,σ1=σ2++vs.map some/\σ2.length=n) /\
   tt σ1 H1 fun c H2=>if c=true then te σ1 H2 fun z H3=>∃ m',m' < m/\W (i+1) (ys++[z]) m' H3 else ∃ m',m' < m/\W (i+1) ys m' H2))
section
variable {X:Cx}
theorem Ur {pins:List (Addr×Obj)} {σ:St} {H:Hp} {s s4:Shared} {scope:Scope} {cl:List (Str×Addr)} {TN caps:List Str} {ix:List Nat} {vs:List V} {fp:List Addr} {C:Addr} {m:Str->Option Value} (I:Inv X pins σ H s) (CC:iY X scope cl caps ix) (hv:ng ix σ vs) (hf:∀ b∈fp,jJ X pins H b) (bL:∀ b∈fp,b < s.heap.objs.size)
  (hk:scope.kind=.function) (hC:s.heap.objs.size<=C)
  (hos:s4.os=s.os) (hgen:s4.gens=s.gens) (old:∀ b o,s.heap.get? b=some o->s4.heap.get? b=some o) (eC:s4.heap.Ns C m):Inv (cq X scope cl (TN++caps) s H fp C) [] ((TN.map fun _=>none)++vs.map some) H s4:=by
 refine ⟨⟨I.ok.mod,hk,I.ok.glob,I.ok.blt,hC,fun x y c e1 e2=>I.ok.inj x y c (CC.sub x c e1) (CC.sub y c e2),fun y hy=>CC.has y hy,fun _ _ e=>(by cases e),I.ok.hd,I.ok.frames,.inl rfl,fun b hb=>⟨Nat.ne_of_lt (Nat.lt_of_lt_of_le (bL b hb) hC),fun x c e=>(hf b hb).2.2.2.2.1 x c (CC.sub x c e)⟩,
  fun b o e=>I.bs b o e,Nat.le_trans I.ok.gy I.sz,fun b o e hb=>?_,fun b hb hm=>?_,I.stack,I.uG⟩,
  hos,by rw [hgen]; exact I.bare,Un.kept old,⟨m,eC,fun i y v e1 e2 _=>?_⟩,fun x c e=>?_,I.aA.fresh hC,fun x c e=>I.eT x c (CC.sub x c e),fun p hp=>absurd (show p∈([]:List (Addr×Obj)) from hp) (by simp),I.aA.kept old,?_⟩
 ·rcases (hf b hb).2.2.2.1 with z | z
  ·exact I.ok.lV b o e z
  ·exact absurd (Nat.lt_of_lt_of_le (Nat.lt_of_lt_of_le (Heap.lt_size e) I.ok.gy) z) (Nat.lt_irrefl _)
 ·rcases List.mem_cons.mp (I.rX b hm) with z | z
  ·exact (hf b hb).2.1 z
  ·exact (hf b hb).2.2.1 z
 ·have e1':(TN++caps)[i]?=some y:=e1;have e2':((TN.map fun _=>(none:Option V))++vs.map some)[i]?=some (some v):=e2;by_cases hi:i < TN.length
  ·rw [List.getElem?_append_left (by simpa using hi),List.getElem?_map] at e2';cases h:TN[i]? <;> rw [h] at e2' <;> simp at e2'
  ·rw [List.getElem?_append_right (by omega)] at e1';rw [List.getElem?_append_right (by simpa using Nat.not_lt.mp hi),List.length_map,List.getElem?_map] at e2';have ev:vs[i - TN.length]?=some v:=by
    cases h:vs[i - TN.length]? with
    | none=>rw [h] at e2'; cases e2'
    | some a=>rw [h] at e2'; cases e2'; rfl
   have hlt':i - TN.length < ix.length:=by
    rw [<- hv.1]; exact (List.getElem?_eq_some_iff.mp ev).1
   obtain ⟨x,c1,c2,c3,c4,c5⟩:=CC.at' _ _ (List.getElem?_eq_getElem hlt');rw [e1'] at c1; cases c1;have hσ:=hv.2 _ _ v (List.getElem?_eq_getElem hlt') ev;obtain ⟨m0,_,hl⟩:=I.loc;obtain ⟨u,ru,lk⟩:=hl _ y v c2 hσ (.inr (.inl c3));rcases lk with ⟨k1,_⟩ | ⟨_,c,k2,o,k3,k4⟩
   ·have:X.env.scope.names.lookup y=some .local:=k1;rw [c3] at this; cases this
   ·exact ⟨u,ru,.inr ⟨.inl c4,c,by show cl.lookup y=some c; rw [c5]; exact k2,o,old _ _ k3,k4⟩⟩
 ·obtain ⟨v,o,e1,e2⟩:=I.cell x c (CC.sub x c e);exact ⟨v,o,old _ _ e1,e2⟩
 ·show ((TN.map fun _=>(none:Option V))++vs.map some).length=(TN++caps).length;rw [List.length_append,List.length_append,List.length_map,List.length_map,hv.1,CC.len]
theorem J9 {elt iter:Expr} {ifs:List Expr} {tg:Expr} {g:TG} {TN caps:List Str} {ix:List Nat} {cl:List (Str×Addr)} {pos:Pos} {scope:Scope} {wi:TI} {tt:TT} {te:TE} (hc:X.calm=true) (hi:PI X tg iter wi)
  (ht:∀ s H ex C,oX (cq X scope cl (TN++caps) s H ex C) ifs tt) (gO:∀ s H ex C,PG (cq X scope cl (TN++caps) s H ex C) tg g) (he:∀ s H ex C,PE (cq X scope cl (TN++caps) s H ex C) elt te) (CC:iY X scope cl caps ix)
  (hk:scope.kind=.function) (eZ:∀ y∈scope.names,y.2≠.cell)
  {pins:List (Addr×Obj)} {s:Shared} {σ:St} {H:Hp} {Q:VK} {RR:Value->Addr->Result->Shared->Prop} (I:Inv X pins σ H s) (h:mG TN.length ix wi g tt te σ H Q)
  (Eb:∀ (a C:Addr) (s6:Shared) (H6:Hp),Inv X pins σ H6 s6->(∃ m,s6.heap.Ns C m)->BJ X pins H6 C->Q (.ref a) H6->RR (.ref a) C (.ok .next) s6) :
  wpAny (model X.prog X.w) X.A (eval iter X.env) (fun v s1=>wpAny (model X.prog X.w) X.A (pyIter v) (fun it s2=>wpAny (model X.prog X.w) X.A (newList []) (fun acc s3 =>
   wpAny (model X.prog X.w) X.A (newFunctionEnv scope X.env.globals cl [] X.env.qual none .none (some X.env)) (fun NH s4 =>
    codeAny (model X.prog X.w) X.A (.compStart (.ListComp elt [⟨tg,iter,ifs,0⟩] scope pos) 0 it acc { NH with scope:=relabel scope X.env }) (RR acc NH.locals) s4) X.xe s3) X.xe s2) X.xe s1) X.xe s:=by
 obtain ⟨vs,hvs,h⟩:=h;refine aD (hi pins s σ H _ I h) fun v s1 h1=>aD h1 fun Eu s2 h2=>?_;obtain ⟨it,fp,tn,J,H2,rfl,I2,T,jy,f2,W,⟨m0,w0⟩,turn⟩:=h2;have bL:∀ b∈fp,b < s2.heap.objs.size:=fun b hb=>let ⟨o,e,_⟩:=T.obj _ _ jy b hb; Heap.lt_size e
 refine wpAny_newObj_type (wpAny_newFunctionEnv eZ (by intro y hy; simp at hy) (fun h1 hns1 hsb1=>?_) hk);dsimp only at hns1 hsb1 ⊢;generalize Dt:s2.heap.push { cls:=.type "list",dict:=none,data:=.seq ([]:List Value).toArray }=G at hns1 hsb1 ⊢;have hG:G.objs.size=s2.heap.objs.size+1:=by rw [<- Dt,Heap.size_push]
 have xS:s2.heap.objs.size≠G.objs.size:=by rw [hG]; exact Nat.ne_of_lt (Nat.lt_succ_self _)
 have nS:s2.heap.objs.size<=G.objs.size:=by rw [hG]; exact Nat.le_succ _
 have old:∀ b o,s2.heap.get? b=some o->h1.get? b=some o:=fun b o e=>by
  exact hsb1.extBut b o (Nat.ne_of_lt (Nat.lt_of_lt_of_le (Heap.lt_size e) nS)) (Heap.get?_push_of_some _ (Dt ▸ Heap.get?_push_of_some _ e))
 have accO:h1.get? s2.heap.objs.size=some { cls:=.type "list",dict:=none,data:=.seq ([]:List Value).toArray } :=
  hsb1.extBut _ _ xS (Heap.get?_push_of_some _ (Dt ▸ Heap.get?_push_size _ rfl))
 -- jt state at jt block's entry
 have main:∀ s4:Shared,s4={ s2 with heap:=h1,toks:=s2.toks+([]:List (Str×Value)).length } ->
   codeAny (model X.prog X.w) X.A (.compLoop (.ListComp elt [⟨tg,iter,ifs,0⟩] scope pos) 0 (.ref it) (.ref s2.heap.objs.size) (compEnvC scope cl G.objs.size X.env))
    (RR (.ref s2.heap.objs.size) G.objs.size) s4:=by
  rintro s4 rfl;have I4:Inv (cq X scope cl (TN++caps) s2 H2 fp G.objs.size) [] ((TN.map fun _=>none)++vs.map some) H2 { s2 with heap:=h1,toks:=s2.toks+([]:List (Str×Value)).length } :=
   Ur I2 CC hvs f2 bL hk nS rfl rfl old hns1
  have Dk:∀ {H':Hp} {pl:List (Addr×Obj)},(∀ b∈fp,H' b=none)->(∀ p∈pl,p.1 ∉ fp)->∀ b∈fp,jJ (cq X scope cl (TN++caps) s2 H2 fp G.objs.size) pl H' b:=fun hn hp b hb =>
   ⟨hn b hb,Nat.ne_of_lt (Nat.lt_of_lt_of_le (bL b hb) nS),I4.ok.lZ b hb,.inl hb,fun x c e=>(f2 b hb).2.2.2.2.1 x c (CC.sub x c e),fun p hp' e=>hp p (by simpa [cq] using hp') (e ▸ hb)⟩
  have L7:s2.heap.objs.size ∉ fp:=fun z=>Nat.lt_irrefl _ (bL _ z);refine OV (fun n s'=>∃ (i:Nat) (ys:List V) (aj:List Value) (k:Nat) (σ':St) (H':Hp),(∃ σ0:St,σ'=σ0++vs.map some/\σ0.length=TN.length)/\Inv (cq X scope cl (TN++caps) s2 H2 fp G.objs.size) [] σ' H' s'/\tn i s'.heap/\(∀ b∈fp,H' b=none)/\H' s2.heap.objs.size=none/\Vals ys aj /\
   s'.heap.get? s2.heap.objs.size=some { cls:=.type "list",dict:=none,data:=.seq aj.toArray k }/\W i ys n H') (fun _ _ _=>trivial) ?_ m0
   ⟨0,[],[],0,_,H2,⟨_,rfl,by simp⟩,I4,T.keep _ _ _ jy (fun b _ o e=>old b o e),fun b hb=>(f2 b hb).1,I2.aA.fresh (Nat.le_refl _),.nil,accO,w0⟩
  rintro n s5 ⟨i,ys,aj,k,σ5,H5,⟨σ0,hq5,hσ⟩,I5,qo,xk,xi,rv,ea,w5⟩;subst hq5;have Ip:Inv (cq X scope cl (TN++caps) s2 H2 fp G.objs.size) [(s2.heap.objs.size,{ cls:=.type "list",dict:=none,data:=.seq aj.toArray k })] (σ0++vs.map some) H5 s5:=I5.sC fun p hp=>by
   have e:p=(s2.heap.objs.size,{ cls:=.type "list",dict:=none,data:=.seq aj.toArray k }):=by simpa using hp
   subst e;refine ⟨ea,xi,xS,fun z=>?_,fun v z=>by cases z⟩;exact I2.GI (Nat.le_refl _) (by
    have hz:s2.heap.objs.size∈bF X.stack:=z;rcases List.mem_cons.mp (I2.rX _ hz) with q | q
    ·exact absurd I2.lt (by rw [<- q]; exact Nat.lt_irrefl _)
    ·exact q)
  have Dq:∀ p∈[((s2.heap.objs.size,{ cls:=.type "list",dict:=none,data:=.seq aj.toArray k }):Addr×Obj)],p.1 ∉ fp:=fun p hp=>by
   have e:p=(s2.heap.objs.size,{ cls:=.type "list",dict:=none,data:=.seq aj.toArray k }):=by simpa using hp
   subst e; exact L7
  obtain ⟨hyl,alt⟩:=turn i ys n H5 w5;rcases alt with ⟨stop,qn⟩ | ⟨go,hys,step⟩
  ·refine aD (T.done (cq X scope cl (TN++caps) s2 H2 fp G.objs.size) rfl rfl rfl hc i _ s5 (σ0++vs.map some) H5 (fun _ _=>False) Ip (Dk xk Dq) qo stop) fun r s6 ⟨hr,I6⟩=>?_;subst hr;have ea6:=(I6.pin (s2.heap.objs.size,{ cls:=.type "list",dict:=none,data:=.seq aj.toArray k }) (List.mem_append_right _ (List.mem_singleton.mpr rfl))).1;obtain ⟨m,MW,_⟩:=I6.loc;have hC6:H5 G.objs.size=none:=I6.free;have lt2:∀ b o,s2.heap.get? b=some o->b≠s2.heap.objs.size:=fun b o e=>Nat.ne_of_lt (Heap.lt_size e);have Iout:Inv X pins σ (upd H5 s2.heap.objs.size (.lst ys)) s6:=by
    refine I2.FY (s':=s6) (ch:=fp) I6.os ⟨fun b o e n hb hx=>?_,fun b o e n hb hx=>?_,fun b o e n hx=>?_,fun b o e hx=>?_,fun b xs e=>?_,fun b o u e=>?_,fun b ps e=>?_⟩ ?_ I6.bare fun b hb=>?_
    ·exact I6.base.keep b o e n hb hx
    ·exact I6.base.slot b o e n hb hx
    ·rw [ag (lt2 b o e)]; exact I6.base.free b o e n hx
    ·exact I6.base.there b o e hx
    ·rw [ag (fU e (I2.aA.fresh (Nat.le_refl _)))]; exact I6.base.fS b xs e
    ·rw [ag (fU e (I2.aA.fresh (Nat.le_refl _)))]; exact I6.base.fg b o u e
    ·obtain ⟨more,e1⟩:=I6.base.fH b ps e;exact ⟨more,by rw [ag (fU e (I2.aA.fresh (Nat.le_refl _)))]; exact e1⟩
    ·intro b u e;by_cases hb:b=s2.heap.objs.size
     ·subst hb;rw [ax] at e;cases e;exact ⟨hyl,aj,k,rv,ea6⟩
     ·rw [ag hb] at e;exact (I6.aA b u e).gg (fun c v _ q=>q) (fun c q=>by rw [ag (fU q xi)]; exact q) fun c xs q=>by rw [ag (fU q xi)]; exact q
    ·obtain ⟨g1,g2,g3,g4,g5,g6⟩:=f2 b hb;exact ⟨g4,g2,g5,g6⟩
   refine Eb _ _ s6 _ Iout ⟨m,MW⟩ ⟨by rw [ag (Ne.symm xS)]; exact hC6,?_,?_,fun y c e z=>?_,fun p hp z=>?_⟩ (qn _ xi)
   ·exact Nat.ne_of_gt (Nat.lt_of_lt_of_le I2.lt nS)
   ·exact Nat.le_trans I2.sz nS
   ·obtain ⟨v',q⟩:=I2.cell y c e;exact absurd (Nat.lt_of_lt_of_le q.lt nS) (by rw [z]; exact Nat.lt_irrefl _)
   ·exact absurd (Nat.lt_of_lt_of_le (Heap.lt_size (I2.pin p hp).1) nS) (by rw [z]; exact Nat.lt_irrefl _)
  ·refine aD (T.item (cq X scope cl (TN++caps) s2 H2 fp G.objs.size) rfl rfl rfl hc i _ s5 (σ0++vs.map some) H5 (fun _ _=>False) Ip (Dk xk Dq) qo go) fun r s6 ⟨u,hr,h6⟩=>?_;subst hr;refine aD h6 fun _ s7 ⟨y,H7,I7,ry,y7,C8,fr7⟩=>?_;have I7':=I7.pinned (Dk fr7 Dq) (T.obj _ _ C8);refine aD (gO _ _ _ _ _ s7 (σ0++vs.map some) H7 y u _ I7' ry (step y H7 y7 σ0 hσ)) fun _ s8 ⟨σ8,H8,I8,Mo,q8⟩=>?_;refine aD (ht _ _ _ _ _ s8 σ8 H8 _ I8 q8) fun ok s9 ⟨H9,I9,q9⟩=>?_
   -- what is pinned stays
   have Mp:∀ {s':Shared} {H':Hp},Inv (cq X scope cl (TN++caps) s2 H2 fp G.objs.size) ([(s2.heap.objs.size,{ cls:=.type "list",dict:=none,data:=.seq aj.toArray k })]++tI fp s7.heap) σ8 H' s' ->
     tn (i+1) s'.heap/\(∀ b∈fp,H' b=none)/\H' s2.heap.objs.size=none/\s'.heap.get? s2.heap.objs.size=some { cls:=.type "list",dict:=none,data:=.seq aj.toArray k }:=fun {s' H'} J'=>by
    refine ⟨T.keep _ _ _ C8 fun b hb o e=>(J'.pin (b,o) (List.mem_append_right _ (List.mem_append_right _ (vn hb e)))).1,fun b hb=>?_,(J'.pin (s2.heap.objs.size,{ cls:=.type "list",dict:=none,data:=.seq aj.toArray k }) (List.mem_append_right _ (List.mem_append_left _ (List.mem_singleton.mpr rfl)))).2.1,(J'.pin (s2.heap.objs.size,{ cls:=.type "list",dict:=none,data:=.seq aj.toArray k }) (List.mem_append_right _ (List.mem_append_left _ (List.mem_singleton.mpr rfl)))).1⟩;obtain ⟨o,e,_⟩:=T.obj _ _ C8 b hb;exact (J'.pin (b,o) (List.mem_append_right _ (List.mem_append_right _ (vn hb e)))).2.1
   cases ok with
   | false =>
    obtain ⟨m',hm,w'⟩:=q9;obtain ⟨k1,k2,k3,k4⟩:=Mp I9;exact ⟨m',hm,i+1,ys,aj,k,σ8,H9,Mo,I9.sC (pins':=[]) (fun _ hp=>nomatch hp),k1,k2,k3,rv,k4,w'⟩
   | true =>
    refine aD (he _ _ _ _ _ s9 σ8 H9 _ I9 q9) fun zv s10 ⟨z,l7,LS,rz,o1⟩=>?_;obtain ⟨m',hm,w'⟩:=o1;obtain ⟨k1,k2,k3,k4⟩:=Mp LS;have hl:=rv.length;refine call_meets F.slot_list_append ⟨_,k4,rfl⟩ F.entry_list_append (F.args_list_append_2 _ _) (PySem.list_append s2.heap.objs.size aj.toArray k zv (by rw [List.size_toArray]; omega)) ⟨k4,?_⟩;have q:=PySem.IsL.update k4 (·.push zv);have ip:aj.toArray.push zv=(aj++[zv]).toArray:=by simp
    rw [ip] at q;have I11:Inv (cq X scope cl (TN++caps) s2 H2 fp G.objs.size) [] σ8 l7 s10:=LS.sC (pins':=[]) (fun _ hp=>nomatch hp);refine ⟨m',hm,i+1,ys++[z],aj++[zv],_,σ8,l7,Mo,I11.turned (t':=s10.toks) (it:=s2.heap.objs.size) (fun b o hb e=>(Heap.get?_update_other s10.heap _ (Ne.symm hb)).trans e) k3 xS (.inr (Nat.le_refl _)) (fun x c e z=>by obtain ⟨v',q⟩:=I2.cell x c (CC.sub x c e); exact absurd q.lt (by rw [z]; exact Nat.lt_irrefl _)) (fun p hp=>absurd (show p∈([]:List (Addr×Obj)) from hp) (by simp)),
     T.keep _ _ _ k1 fun b hb o e=>(Heap.get?_update_other s10.heap _ (fun z=>L7 (by rw [z]; exact hb))).trans e,k2,k3,rv.append (.cons rz .nil),q,w'⟩
 exact codeAny_compStart_list (main _ rfl) (T.self _ 0 _ _ _ (T.keep _ _ _ jy fun b _ o e=>old b o e) (main _ rfl))
theorem N3 {elt iter:Expr} {ifs:List Expr} {tg:Expr} {g:TG} {TN caps:List Str} {ix:List Nat} {cl:List (Str×Addr)} {pos:Pos} {scope:Scope} {wi:TI} {tt:TT} {te:TE} (hc:X.calm=true) (hi:PI X tg iter wi)
  (ht:∀ s H ex C,oX (cq X scope cl (TN++caps) s H ex C) ifs tt) (gO:∀ s H ex C,PG (cq X scope cl (TN++caps) s H ex C) tg g) (he:∀ s H ex C,PE (cq X scope cl (TN++caps) s H ex C) elt te) (CC:iY X scope cl caps ix)
  (hk:scope.kind=.function:=by rfl) (cf:∀ y∈scope.names,y.2=.local->scope.names.lookup y.1=some .local:=by decide +kernel) (eZ:∀ y∈scope.names,y.2≠.cell:=by decide +kernel)
  (hs:∀ x,foldedSetIterable iter X.env x=pure x:=by intro _; rfl):PE X (.ListComp elt [⟨tg,iter,ifs,0⟩] scope pos) (mG TN.length ix wi g tt te):=by
 intro pins s σ H Q I h;rw [eval_ListComp];refine wpAny_comprehension_free (use:=none) (cl:=cl) rfl hs CC.hJ hk cf ?_;refine J9 (RR:=fun acc C=>compPost (model X.prog X.w) X.A X.xe none (EP X pins σ Q) acc C) hc hi ht gO he CC hk eZ I h ?_;intro a C s6 H6 I6 hm o q;obtain ⟨m,hn⟩:=hm;exact ⟨m,hn,fun h' l9=>⟨.ref a,H6,o.go I6 l9,rfl,q⟩⟩
theorem Y7 {elt iter:Expr} {ifs:List Expr} {tg:Expr} {g:TG} {TN caps:List Str} {ix:List Nat} {cl:List (Str×Addr)} {y:Str} {i:Nat} {py pos spos:Pos} {scope:Scope} {wi:TI} {tt:TT} {te:TE} (hc:X.calm=true) (hN:X.N.Nodup) (ui:X.N[i]?=some y) (qe:X.env.scope.names.lookup y=some .local) (hi:PI X tg iter wi)
  (ht:∀ s H ex C,oX (cq X scope cl (TN++caps) s H ex C) ifs tt) (gO:∀ s H ex C,PG (cq X scope cl (TN++caps) s H ex C) tg g) (he:∀ s H ex C,PE (cq X scope cl (TN++caps) s H ex C) elt te) (CC:iY X scope cl caps ix)
  (uu:swapsWith (.ListComp elt [⟨tg,iter,ifs,0⟩] scope pos) (some (.Name y py)) spos.line X.env=pure true:=by rfl)
  (hk:scope.kind=.function:=by rfl) (cf:∀ y∈scope.names,y.2=.local->scope.names.lookup y.1=some .local:=by decide +kernel) (eZ:∀ y∈scope.names,y.2≠.cell:=by decide +kernel)
  (hs:∀ x,foldedSetIterable iter X.env x=pure x:=by intro _; rfl):PS X (.Assign [.Name y py] (.ListComp elt [⟨tg,iter,ifs,0⟩] scope pos) spos) (lI (mG TN.length ix wi g tt te) (fJ i)):=by
 intro pins s σ H D I h;rw [exec_Assign_Name_used _ _ _ _ uu];refine wpAny_bind (wpAny_standAt (wpAny_bind ?_));refine wpAny_bind (wpAny_mono (wpAny_comprehension_free (e:=.ListComp elt [⟨tg,iter,ifs,0⟩] scope pos) (use:=some (assign (.Name y py) X.env)) (cl:=cl) (Q:=fun _ s'=>SP X pins D .next s') rfl hs CC.hJ hk cf
  (J9 (RR:=fun acc C=>compPost (model X.prog X.w) X.A X.xe (some (assign (.Name y py) X.env)) (fun _ s'=>SP X pins D .next s') acc C) hc hi ht gO he CC hk eZ I h ?_)) (fun _ s' hq=>wpAny_pure (wpAny_pure hq)) fun _ _ e=>e)
 intro a C s6 H6 I6 hm o q;obtain ⟨m,hn⟩:=hm;refine (show wpAny (model X.prog X.w) X.A (assign (.Name y py) X.env (.ref a)) _ X.xe s6 from ?_);refine wpAny_assign_Name (Ib I6 hN ui (.inl qe) (v:=.ref a) rfl (fun s' I' l9=>?_) (.inr qe));obtain ⟨b,l9,hb⟩:=l9;have nb:C≠b:=by
  rcases hb with z | z
  ·rw [z]; exact o.nl
  ·exact fun e=>o.nc y b z e.symm
 exact ⟨m,hn.sameBut l9 nb,fun h' hs'=>⟨_,H6,o.go I' hs',q⟩⟩
end
namespace Dv
section
variable {X:Cx}
theorem W3 {elt iter tg:Expr} {g:TG} {ifs:List Expr} {TN caps:List Str} {ix:List Nat} {cl:List (Str×Addr)} {pos:Pos} {scope:Scope} {wi:TI} {tt:TT} {te:TE} (hc:X.calm=true) (hi:QI X tg iter wi)
  (ht:∀ s H ex C,pO (cq X scope cl (TN++caps) s H ex C) ifs tt) (gO:∀ s H ex C,QG (cq X scope cl (TN++caps) s H ex C) tg g) (he:∀ s H ex C,QE (cq X scope cl (TN++caps) s H ex C) elt te) (CC:iY X scope cl caps ix)
  (hk:scope.kind=.function:=by rfl) (cf:∀ y∈scope.names,y.2=.local->scope.names.lookup y.1=some .local:=by decide +kernel) (eZ:∀ y∈scope.names,y.2≠.cell:=by decide +kernel)
  (hs:∀ x,foldedSetIterable iter X.env x=pure x:=by intro _; rfl):QE X (.ListComp elt [⟨tg,iter,ifs,0⟩] scope pos) (mG TN.length ix wi g tt te):=⟨N3 hc hi.h (fun s H ex C=>(ht s H ex C).h) (fun s H ex C=>(gO s H ex C).h) (fun s H ex C=>(he s H ex C).h) CC hk cf eZ hs⟩
theorem AH (i:Nat) {elt iter tg:Expr} {g:TG} {ifs:List Expr} {TN caps:List Str} {ix:List Nat} {cl:List (Str×Addr)} {y:Str} {py pos spos:Pos} {scope:Scope} {wi:TI} {tt:TT} {te:TE} (hc:X.calm=true) (hN:X.N.Nodup) (hi:QI X tg iter wi)
  (ht:∀ s H ex C,pO (cq X scope cl (TN++caps) s H ex C) ifs tt) (gO:∀ s H ex C,QG (cq X scope cl (TN++caps) s H ex C) tg g) (he:∀ s H ex C,QE (cq X scope cl (TN++caps) s H ex C) elt te) (CC:iY X scope cl caps ix) (ui:X.N[i]?=some y:=by rfl) (qe:X.env.scope.names.lookup y=some .local:=by rfl)
  (uu:swapsWith (.ListComp elt [⟨tg,iter,ifs,0⟩] scope pos) (some (.Name y py)) spos.line X.env=pure true:=by rfl)
  (hk:scope.kind=.function:=by rfl) (cf:∀ y∈scope.names,y.2=.local->scope.names.lookup y.1=some .local:=by decide +kernel) (eZ:∀ y∈scope.names,y.2≠.cell:=by decide +kernel)
  (hs:∀ x,foldedSetIterable iter X.env x=pure x:=by intro _; rfl):QS X (.Assign [.Name y py] (.ListComp elt [⟨tg,iter,ifs,0⟩] scope pos) spos) (lI (mG TN.length ix wi g tt te) (fJ i)):=⟨Y7 hc hN ui qe hi.h (fun s H ex C=>(ht s H ex C).h) (fun s H ex C=>(gO s H ex C).h) (fun s H ex C=>(he s H ex C).h) CC uu hk cf eZ hs⟩
end
end Dv
section
variable {X:Cx}
end
theorem AK {σ:St} (h:σ.length=1):∃ a,σ=[a]:=by
 match σ,h with
 | [a],_=>exact ⟨a,rfl⟩
theorem f9 {f:Str} {v u:V}:∀ {fs:List (Str×V)},fs.lookup f=some u->(ay f v fs).length=fs.length
 | (g,x)::r,h=>by
  rw [show ay f v ((g,x)::r)=(if g=f then (g,v)::r else (g,x)::ay f v r) from rfl];by_cases e:g=f
  ·rw [if_pos e]; rfl
  ·rw [if_neg e];have hb:(f == g)=false:=beq_eq_false_iff_ne.mpr (Ne.symm e);have h':r.lookup f=some u:=by simpa [List.lookup,hb] using h
   rw [List.length_cons,f9 h']; rfl
def yW (r:V->List V->Hp->VK->Prop) (to:TE):TE:=fun σ H Q=>to σ H fun x H1=>match x with
 | .ref l=>(match H1 l with
  | some (.lst _)=>r (.ref l) [] H1 Q
  | _=>False)
 | _=>False
section
variable {X:Cx} {name:Str} {id:String} {r:V->List V->Hp->VK->Prop} {o:Expr} {to:TE} {apos bw:Pos}
theorem UX (slot:Slot "list" name id) (cA:typeOf (.builtin id)=pure (.type "method_descriptor")) (hm:dD X id r) (ho:PE X o to)
  (iO:attributeBase o name X.env (eval o X.env)=eval o X.env:=by rfl) (iM:(apos.endLine == bw.line)=true:=by rfl):PE X (.Call (.Attribute o name apos) [] [] bw) (yW r to):=by
 intro pins s σ H Q I h;refine wpAny_Call_method0_late iO iM (aD (ho pins s σ H _ I h) fun v s1 ⟨x,H1,I1,r1,q1⟩=>?_);dsimp only at q1;split at q1
 ·rename_i l;split at q1
  ·rename_i zs el;obtain ⟨h1,h2⟩:=yE (T := "list") I1 r1 (.inl ⟨rfl,zs,aC.of el⟩);exact ⟨"list",id,PySem.F.plainAttrs_list,slot,cA,h1,h2,Calls.callWith_builtin rfl (PySem.evalArgs_none (hm pins s1 σ H1 (.ref l) [] v [] Q I1 r1 .nil q1))⟩
  ·exact q1.elim
 ·exact q1.elim
theorem Dv.Gj (slot:Slot "list" name id) (cA:typeOf (.builtin id)=pure (.type "method_descriptor")) (hm:dD X id r) (ho:QE X o to)
  (iO:attributeBase o name X.env (eval o X.env)=eval o X.env:=by rfl) (iM:(apos.endLine == bw.line)=true:=by rfl):QE X (.Call (.Attribute o name apos) [] [] bw) (yW r to):=⟨UX slot cA hm ho.h iO iM⟩
end
theorem ao.fM {H H1:Hp} {l:Addr} {o:HO} (s:ao H H1) (hl:H l=none):ao H (L2.upd H1 l o):=fun b u e=>by
 rw [ag (fun z=>by rw [z,hl] at e; cases e)]; exact s b u e
theorem lC.m {P:Program} {w:World} {K:PySem.W.Frag} {mg:Str->Option Value} {base:Heap} {k:Nat} {s1:Shared} {B:Addr->Prop} {f:Addr} {cg:eV} (D:lC P w K mg base k s1 B f cg) :
  lC P w K mg base k s1 B f (fun H Q E=>∃ (Q0:VK) (E0:XK),cg H Q0 E0/\(∀ v H',Q0 v H'->Q v H')/\∀ C od H',E0 C od H'->E C od H') :=
 fun A outer s H Q E hr e0 hk ⟨Q0,E0,hw,hq,he⟩=>codeAny_mono (D A outer s H Q0 E0 hr e0 hk hw) fun r s' z=>by
  cases r with
  | error e =>
   obtain ⟨ea,C,od,H',e1,F,z⟩:=z;exact ⟨ea,C,od,H',e1,F,he _ _ _ z⟩
  | ok fl =>
   cases fl with
   | ret u =>
    obtain ⟨v,H',z1,z2,z3,z4,z5,z6⟩:=z;exact ⟨v,H',z1,z2,z3,z4,z5,hq _ _ z6⟩
   | next=>exact z
   | brk=>exact z
   | cont=>exact z
theorem nA.Gr {P:Addr} {q:Str} {c:Addr} {H H1:Hp} (L:nA P q c H H1):∀ b o,b≠P->H b=some o->H1 b=some o:=fun b o hb e=>by
 by_cases hc:b=c
 ·rcases L.old with h | h
  ·rw [hc,h] at e; cases e
  ·rw [h]; exact e
 ·rw [L.rest b hb hc]; exact e
section
variable {X:Cx}
def AF:List V->Hp->VK->Prop:=fun xs H Q=>match xs with
 | [.bl b]=>Q (.int (if b then 1 else 0)) H
 | _=>False
theorem ZG:cy X (.type "int") AF:=by
 intro pins s σ H xs us Q I r h;unfold AF at h;split at h
 ·rename_i b;obtain ⟨u,rfl,rx⟩:=vals1 r;cases rx;exact call_int_bool ⟨.int (if b then 1 else 0),H,I.tok _,⟨_,rfl⟩,h⟩
 ·exact h.elim
theorem Ua:aX X (binaryOp .Pow) (pq KY fun i j=>i ^ j.toNat):=OQ.imp fun _ _ _ _ h=>zd h
end
def Cv (K:PySem.W.Frag):R2:=fun x y H Q=>match y with
 | .ref p=>∃ xs,(aC K H p xs\/bC K H p xs)/\cx x=true/\xs.all cx=true/\Q (.bl (!gE x xs)) H
 | _=>False
theorem yL {X:Cx} {K:PySem.W.Frag} (h:X.K=K):aX X (compareOp .NotIn) (Cv K):=h ▸ Te.imp fun x y H Q z=>by
 unfold Cv at z;split at z
 ·obtain ⟨xs,z1,z2,z3,z4⟩:=z;exact ⟨_,xs,rfl,z1,z2,z3,z4⟩
 ·exact z.elim
structure FT (K:PySem.W.Frag) (mg:Str->Option Value) (x y:Str) (st:Stmt) (ps:List Str) where
 f:Addr
 d:FuncData
 F:e8 K x y st f d
 m:mg x=some (.ref f)
 b:Binds K d ps []
structure MT (K:PySem.W.Frag) (C:Addr) (x y:Str) (st:Stmt) (ps:List Str) where
 f:Addr
 d:FuncData
 F:e8 K x y st f d
 h:Meth K C x f
 b:Binds K d ps []
def FA (K:PySem.W.Frag) (x y:Str) (st:Stmt):Prop:=∃ (f:Addr) (oc:Value) (od:Option Addr) (kV dc pm:Value) (an:Option Addr) (cd ct:Value) (sl:Array (Option Value)),
 PySem.W.nsIn K mainGlobals x=some (some (.ref f))/\K.lookup f=some ⟨oc,od,.func (PySem.W.fnOf x y (eK st) (aS st) (az st) .none kV dc pm an cd ct),sl⟩/\PySem.W.codeIn K cd y=true/\PySem.W.keepIn K (.ref f)=true
def MA (K:PySem.W.Frag) (C:Addr) (x y:Str) (st:Stmt):Prop:=∃ (f:Addr) (oc:Value) (od:Option Addr) (kV dc pm:Value) (an:Option Addr) (cd ct:Value) (sl:Array (Option Value)),
 PySem.W.findIn K (.ref C) x=some (some (.ref f))/\K.lookup f=some ⟨oc,od,.func (PySem.W.fnOf x y (eK st) (aS st) (az st) .none kV dc pm an cd ct),sl⟩/\PySem.W.codeIn K cd y=true/\PySem.W.keepIn K (.ref f)=true/\PySem.W.isFn K (.ref f)=true
section
variable {K:PySem.W.Frag} {mg:Str->Option Value} {h:Heap} {C:Addr} {x y:Str} {st:Stmt} {ps:List Str}
theorem FA.ft (X:K.In h) (G:h.Ns mainGlobals mg) (ps:List Str) (hb:∀ (kV dc pm:Value) (an:Option Addr) (cd ct:Value) (us:List Value),us.length=ps.length->bindArgs (PySem.W.fnOf x y (eK st) (aS st) (az st) .none kV dc pm an cd ct) ⟨us,[]⟩=pure (ps.zip us)) (a:FA K x y st):Nonempty (FT K mg x y st ps):=by
 obtain ⟨f,oc,od,kV,dc,pm,an,cd,ct,sl,n,l,c,k⟩:=a;have F:=BX (st:=st) l c k;exact ⟨⟨f,_,F,PySem.W.mg_of X G n,F.binds hb⟩⟩
theorem MA.ft (ps:List Str) (hb:∀ (kV dc pm:Value) (an:Option Addr) (cd ct:Value) (us:List Value),us.length=ps.length->bindArgs (PySem.W.fnOf x y (eK st) (aS st) (az st) .none kV dc pm an cd ct) ⟨us,[]⟩=pure (ps.zip us)) (a:MA K C x y st):Nonempty (MT K C x y st ps):=by
 obtain ⟨f,oc,od,kV,dc,pm,an,cd,ct,sl,n,l,c,k,t⟩:=a;have F:=BX (st:=st) l c k;exact ⟨⟨f,_,F,⟨n,t,k⟩,F.binds hb⟩⟩
end
section
variable {K:PySem.W.Frag} {mg:Str->Option Value} {h:Heap} {C:Addr} {x y:Str} {st:Stmt} {ps:List Str}
theorem FA.mk {f:Addr} {oc:Value} {od:Option Addr} {kV dc pm:Value} {an:Option Addr} {cd ct:Value} {sl:Array (Option Value)} (n:PySem.W.nsIn K mainGlobals x=some (some (.ref f))) (l:K.lookup f=some ⟨oc,od,.func (PySem.W.fnOf x y (eK st) (aS st) (az st) .none kV dc pm an cd ct),sl⟩) (c:PySem.W.codeIn K cd y=true) (k:PySem.W.keepIn K (.ref f)=true):FA K x y st:=⟨_,_,_,_,_,_,_,_,_,_,n,l,c,k⟩
theorem MA.mk {f:Addr} {oc:Value} {od:Option Addr} {kV dc pm:Value} {an:Option Addr} {cd ct:Value} {sl:Array (Option Value)} (n:PySem.W.findIn K (.ref C) x=some (some (.ref f))) (l:K.lookup f=some ⟨oc,od,.func (PySem.W.fnOf x y (eK st) (aS st) (az st) .none kV dc pm an cd ct),sl⟩) (c:PySem.W.codeIn K cd y=true) (k:PySem.W.keepIn K (.ref f)=true) (t:PySem.W.isFn K (.ref f)=true):MA K C x y st:=⟨_,_,_,_,_,_,_,_,_,_,n,l,c,k,t⟩
theorem FA.gt (X:K.In h) (G:h.Ns mainGlobals mg) (hb:∀ (kV dc pm:Value) (an:Option Addr) (cd ct:Value) (us:List Value),us.length=ps.length->bindArgs (PySem.W.fnOf x y (eK st) (aS st) (az st) .none kV dc pm an cd ct) ⟨us,[]⟩=pure (ps.zip us)) (a:FA K x y st):Nonempty (FT K mg x y st ps):=FA.ft X G ps hb a
theorem MA.gt (hb:∀ (kV dc pm:Value) (an:Option Addr) (cd ct:Value) (us:List Value),us.length=ps.length->bindArgs (PySem.W.fnOf x y (eK st) (aS st) (az st) .none kV dc pm an cd ct) ⟨us,[]⟩=pure (ps.zip us)) (a:MA K C x y st):Nonempty (MT K C x y st ps):=MA.ft ps hb a
theorem To {M:MT K C "__init__" y st ps} (a:PySem.W.makesIn K C=true) (b:PySem.W.keepIn K (.ref C)=true):Mk K C M.f:=⟨a,M.h.at_,M.h.fn,b⟩
theorem jk {dt:Addr} {kV doc pm ah ct:Value} {an:Option Addr} {o:Obj} {n:Nat} {ds:List Value} (j:Nat) (ld:K.lookup dt=some o) (hd:o.data=.seq ds.toArray n)
  (h:∀ (dt:Addr) (kV doc pm:Value) (an:Option Addr) (ah ct:Value) (us:List Value),(us++ds.drop j).length=ps.length ->
   ∃ k,bindArgs (PySem.W.fnOf x y (eK st) (aS st) (az st) (.ref dt) kV doc pm an ah ct) ⟨us,[]⟩=seqItems? (.ref dt) >>= k/\k (some ds.toArray)=pure (ps.zip (us++ds.drop j))) :
  Binds K (PySem.W.fnOf x y (eK st) (aS st) (az st) (.ref dt) kV doc pm an ah ct) ps (ds.drop j):=by
 intro s us X hl;obtain ⟨k,h1,h2⟩:=h dt kV doc pm an ah ct us hl;exact BindsTo.of_defaults rfl (X _ _ ld) hd h1 h2
end
section
variable {X:Cx} {tg:Expr}
end
section
variable {X:Cx}
def Tu:List V->Hp->VK->Prop:=fun xs H Q=>match xs with
 | [.int a]=>a.natAbs.log2 < 1920/\Q (.str (Str.ofString (toString a))) H
 | _=>False
end
section
variable {X:Cx}
def N0:V->List V->Hp->VK->Prop:=fun x vs H Q=>match x,vs with
 | .ref l,[.int 0]=>∃ y xs,H l=some (.lst (y::xs))/\Q y (upd H l (.lst xs))
 | _,_=>False
end
section
variable {X:Cx}
theorem all_true (n:Nat):(List.range n).all (fun _=>true)=true:=by rw [List.all_eq_true]; exact fun _ _=>rfl
def TR (K:PySem.W.Frag) (neg:Bool):R2:=fun x y H Q=>match x,y with
 | .ref a,.ref b=>∃ xs ys:List V,(aC K H a xs/\aC K H b ys\/bC K H a xs/\bC K H b ys)/\xs.length=ys.length/\xs.all cx=true/\ys.all cx=true/\(∀ i (h1:i < xs.length) (h2:i < ys.length),ff xs[i] ys[i]=true)/\Q (.bl (!neg)) H
 | _,_=>False
theorem HD {v:V} (h:cx v=true):ff v v=true:=by
 cases v <;> first | rfl | (cases h; done) | simp [ff]
end
def PD {α:Type} (us ws:List α):List α:=if ws.length=1 then us++ws else []
section
variable {K:PySem.W.Frag} {x qual nm:Str} {st:Stmt} {f:Addr} {fd:FuncData} {ps:List Str} {ds:List Value}
theorem Vl {α:Type} {a b c d:α}:PD [a,b,c] [d]=[a,b,c,d]:=rfl
end
section
variable {X:Cx}
end
def sG (J:It) (n:Nat) (vs:List V) (g:TG) (tt:TT) (te:TE) (Q:VK) (H1:Hp):Prop:=∃ W:Nat->List V->Nat->Hp->Prop,(∃ m,W 0 [] m H1)/\∀ i ys m H,W i ys m H ->
 ys.length<=sizeLine/\((J.stop i H/\∀ l,H l=none->Q (.ref l) (upd H l (.lst ys))) \/
  (J.go i H/\ys.length < sizeLine/\∀ y H',J.ky i H y H'->∀ σ0:St,σ0.length=n->g y (σ0++vs.map some) H' fun σ1 H1=>(∃ σ2:St,σ1=σ2++vs.map some/\σ2.length=n) /\
   tt σ1 H1 fun c H2=>if c=true then te σ1 H2 fun z H3=>∃ m',m' < m/\W (i+1) (ys++[z]) m' H3 else ∃ m',m' < m/\W (i+1) ys m' H2))
theorem KQ {n:Nat} {ix:List Nat} {wi:TI} {g:TG} {tt:TT} {te:TE} {σ:St} {H:Hp} {Q:VK}:mG n ix wi g tt te σ H Q=∃ vs,ng ix σ vs/\wi σ H fun J H1=>sG J n vs g tt te Q H1:=rfl
theorem NT {K:PySem.W.Frag} {C:Addr} {y:Str} {st:Stmt} {ps:List Str} {fld:Str} {M:MT K C "__init__" y st ps} (q:uF K C=true) (sa:PySem.W.findIn K (.ref C) "__setattr__" = some (some (.builtin "object.__setattr__"))) (na:PySem.W.findIn K (.ref C) fld=some none) (ob:PySem.W.mroIn K C (.type "object")=some true)
  (be:PySem.W.mroIn K C (.type "BaseException")=some true) (self:PySem.W.mroIn K C (.ref C)=some true) (kp:PySem.W.keepIn K (.ref C)=true):fY K C M.f fld:=⟨q,M.h.at_,eq_of_beq M.h.fn,sa,na,ob,be,self,kp⟩
end L2
open PySem PySem.Spec PyProof.Rows
namespace L2
section
variable {X:Cx}
def xr (n b:Bool):Bool:=match n with | false=>b | true=>!b
theorem yP (n b:Bool):(n ^^ b)=xr n b:=by cases n <;> cases b <;> rfl
def qG (neg:Bool):R2:=fun x y H Q=>match x,y with
 | .int i,.int j=>Q (.bl (xr neg (decide (i=j)))) H
 | .str i,.str j=>Q (.bl (xr neg (decide (i=j)))) H
 | .bl i,.bl j=>Q (.bl (xr neg (decide (i=j)))) H
 | _,_=>vA x y=true/\Q (.bl (xr neg (decide (x=y)))) H
theorem HH (neg:Bool):oW neg=qG neg:=by
 funext x y H Q; unfold oW qG; simp only [yP] <;> rfl
theorem iE:aX X (compareOp .Eq) (qG false):=HH false ▸ Up
theorem kC:aX X (compareOp .NotEq) (qG true):=HH true ▸ WS
def tZ (neg:Bool):R2:=fun x y H Q=>match x,y with
 | .ref a,.ref b=>∃ ts us:List Str,H a=some (.lst (ts.map V.str))/\H b=some (.lst (us.map V.str))/\Q (.bl (xr neg (decide (ts=us)))) H
 | _,_=>False
theorem Kv (neg:Bool):oV neg=tZ neg:=by
 funext x y H Q; unfold oV tZ; simp only [yP] <;> rfl
theorem WM (hu:X.A.units < cLine):aX X (compareOp .Eq) (tZ false):=Kv false ▸ Uc hu
theorem Ve (hu:X.A.units < cLine):aX X (compareOp .NotEq) (tZ true):=Kv true ▸ RQ hu
def tH (K:PySem.W.Frag) (neg:Bool):R2:=fun x y H Q=>match x,y with
 | .ref a,.ref b=>∃ xs ys:List V,aC K H a xs/\aC K H b ys/\((ys=[]/\Q (.bl (xr neg xs.isEmpty)) H)\/(xs=[]/\Q (.bl (xr neg ys.isEmpty)) H))
 | _,_=>False
theorem Jo {K:PySem.W.Frag} (neg:Bool):pk K neg=tH K neg:=by
 funext x y H Q; unfold pk tH; simp only [yP] <;> rfl
theorem R0 {K:PySem.W.Frag} (hK:X.K=K) (hu:X.A.units < cLine):aX X (compareOp .Eq) (tH K false):=Jo (K:=K) false ▸ Rm hK hu
theorem SA {K:PySem.W.Frag} (hK:X.K=K) (hu:X.A.units < cLine):aX X (compareOp .NotEq) (tH K true):=Jo (K:=K) true ▸ Vq hK hu
end
end L2
namespace L2
open PySem PySem.Spec PyProof.Rows
theorem YT {J:It} {tt:TT} {te:TE} {Q:VK} {H:Hp}:sj J tt te Q H ↔ sG J 1 [] (fJ 0) tt te Q H:=by
 constructor
 ·rintro ⟨W,w0,h⟩;refine ⟨W,w0,fun i ys m H hw=>⟨(h i ys m H hw).1,(h i ys m H hw).2.imp_right fun z=>⟨z.1,z.2.1,fun y H' hy σ0 hσ=>?_⟩⟩⟩;obtain ⟨a,rfl⟩:=AK hσ;exact ⟨⟨[some y],rfl,rfl⟩,z.2.2 y H' hy⟩
 ·rintro ⟨W,w0,h⟩;exact ⟨W,w0,fun i ys m H hw=>⟨(h i ys m H hw).1,(h i ys m H hw).2.imp_right fun z=>⟨z.1,z.2.1,fun y H' hy=>(z.2.2 y H' hy [none] rfl).2⟩⟩⟩
theorem K1 {wi:TI} {tt:TT} {te:TE} {σ:St} {H:Hp} {Q:VK} (h:vj wi tt te σ H Q):mG 1 [] wi (fJ 0) tt te σ H Q:=by
 rw [J2] at h;rw [KQ];have e:(fun (J:It) H1=>sj J tt te Q H1)=fun J H1=>sG J 1 [] (fJ 0) tt te Q H1:=by funext J H1; exact propext YT
 rw [e] at h;exact ⟨[],⟨rfl,by simp⟩,h⟩
section
variable {X:Cx}
theorem Dv.Jj {elt iter tg:Expr} {ifs:List Expr} {x:Str} {cl:List (Str×Addr)} {pos:Pos} {scope:Scope} {wi:TI} {tt:TT} {te:TE} (hc:X.calm=true) (hi:QI X tg iter wi)
  (ht:∀ s H ex C,pO (cq X scope cl ([x]++[]) s H ex C) ifs tt) (gO:∀ s H ex C,QG (cq X scope cl ([x]++[]) s H ex C) tg (fJ 0)) (he:∀ s H ex C,QE (cq X scope cl ([x]++[]) s H ex C) elt te) (CC:iY X scope cl [] [])
  (hk:scope.kind=.function:=by rfl) (cf:∀ y∈scope.names,y.2=.local->scope.names.lookup y.1=some .local:=by decide +kernel) (eZ:∀ y∈scope.names,y.2≠.cell:=by decide +kernel)
  (hs:∀ x,foldedSetIterable iter X.env x=pure x:=by intro _; rfl):QE X (.ListComp elt [⟨tg,iter,ifs,0⟩] scope pos) (vj wi tt te) :=
 ⟨fun pins s σ H Q I h=>(Dv.W3 hc hi ht gO he CC hk cf eZ hs).h pins s σ H Q I (K1 h)⟩
theorem Dv.Ys (i:Nat) {elt iter tg:Expr} {ifs:List Expr} {x:Str} {cl:List (Str×Addr)} {y:Str} {py pos spos:Pos} {scope:Scope} {wi:TI} {tt:TT} {te:TE} (hc:X.calm=true) (hN:X.N.Nodup) (hi:QI X tg iter wi)
  (ht:∀ s H ex C,pO (cq X scope cl ([x]++[]) s H ex C) ifs tt) (gO:∀ s H ex C,QG (cq X scope cl ([x]++[]) s H ex C) tg (fJ 0)) (he:∀ s H ex C,QE (cq X scope cl ([x]++[]) s H ex C) elt te) (CC:iY X scope cl [] []) (ui:X.N[i]?=some y:=by rfl) (qe:X.env.scope.names.lookup y=some .local:=by rfl)
  (uu:swapsWith (.ListComp elt [⟨tg,iter,ifs,0⟩] scope pos) (some (.Name y py)) spos.line X.env=pure true:=by rfl)
  (hk:scope.kind=.function:=by rfl) (cf:∀ y∈scope.names,y.2=.local->scope.names.lookup y.1=some .local:=by decide +kernel) (eZ:∀ y∈scope.names,y.2≠.cell:=by decide +kernel)
  (hs:∀ x,foldedSetIterable iter X.env x=pure x:=by intro _; rfl):QS X (.Assign [.Name y py] (.ListComp elt [⟨tg,iter,ifs,0⟩] scope pos) spos) (lI (vj wi tt te) (fJ i)) :=
 ⟨fun pins s σ H D I h=>(Dv.AH i hc hN hi ht gO he CC ui qe uu hk cf eZ hs).h pins s σ H D I (K1 h)⟩
end
end L2
namespace L2
theorem Ki {α:Type} {C:List α->Prop} (h:C []):∀ us:List α,us.length=0->C us
 | [],_=>h
theorem mH {α:Type} {C:List α->Prop} {n:Nat} (h:∀ a us,us.length=n->C (a::us)):∀ us:List α,us.length=n+1->C us
 | a::us,e=>h a us (Nat.succ.inj e)
theorem Fy {α:Type} {C:List α->Prop} (h:∀ a,C [a]):∀ us:List α,us.length=1->C us:=mH fun a=>Ki (C:=fun us=>C (a::us)) (h a)
theorem JN {α:Type} {C:List α->Prop} (h:∀ a b,C [a,b]):∀ us:List α,us.length=2->C us:=mH fun a=>Fy (C:=fun us=>C (a::us)) (h a)
theorem tN {α:Type} {C:List α->Prop} (h:∀ a b c,C [a,b,c]):∀ us:List α,us.length=3->C us:=mH fun a=>JN (C:=fun us=>C (a::us)) (h a)
theorem pJ {α:Type} {C:List α->Prop} (h:∀ a b c d,C [a,b,c,d]):∀ us:List α,us.length=4->C us:=mH fun a=>tN (C:=fun us=>C (a::us)) (h a)
theorem uW {α:Type} {C:List α->Prop} (h:∀ a b c d e,C [a,b,c,d,e]):∀ us:List α,us.length=5->C us:=mH fun a=>pJ (C:=fun us=>C (a::us)) (h a)
theorem Bv {α:Type} {C:List α->Prop} (h:∀ a b c d e f,C [a,b,c,d,e,f]):∀ us:List α,us.length=6->C us:=mH fun a=>uW (C:=fun us=>C (a::us)) (h a)
theorem W2 {α:Type} {C:List α->Prop} (h:∀ a b c d e f g,C [a,b,c,d,e,f,g]):∀ us:List α,us.length=7->C us:=mH fun a=>Bv (C:=fun us=>C (a::us)) (h a)
end L2
namespace L2
open PySem PySem.Spec PyProof.Rows
section
open PySem.AutoSeq1 (wpAny_loadPart')
open PySem.MeetsSeq PySem.SeqAt
theorem yM:∀ {ns:List Int} {us:List Value},Vals (ns.map V.int) us->IntsAre us ns
 | [],_,.nil=>.nil
 | _::_,_,.cons r t=>by
  obtain ⟨k,rfl⟩:=r;exact .cons _ _ (yM t)
theorem J1:∀ {ns:List Int} {us:List Value},IntsAre us ns->∃ xs:List (Int×Tok),us=xs.map (fun p=>Value.int p.1 p.2)/\ns=xs.map (·.1)
 | _,_,.nil=>⟨[],rfl,rfl⟩
 | _,_,.cons n t h=>by
  obtain ⟨xs,e1,e2⟩:=J1 h;exact ⟨(n,t)::xs,by rw [e1]; rfl,by rw [e2]; rfl⟩
end
section
variable {X:Cx}
def Cj (K:PySem.W.Frag):V->List V->Hp->VK->Prop:=fun x vs H Q=>match x,vs with
 | .ref l,[.int k]=>∃ ns:List Int,aC K H l (ns.map V.int)/\k∈ns/\Q (.int (ns.idxOf k:Nat)) H
 | _,_=>False
def U7 (K:PySem.W.Frag):V->List V->Hp->VK->Prop:=fun x vs H Q=>match x,vs with
 | .ref l,[.int k]=>∃ ns:List Int,bC K H l (ns.map V.int)/\k∈ns/\Q (.int (ns.idxOf k:Nat)) H
 | _,_=>False
theorem Fi {K:PySem.W.Frag} (hK:X.K=K):dD X "list.index" (Cj K):=by
 subst hK;intro pins s σ H x vs v us Q I rx rv h;unfold Cj at h;split at h
 ·rename_i l k;obtain ⟨ns,hl,hk,q⟩:=h;cases rx;obtain ⟨u,rfl,ru⟩:=vals1 rv;obtain ⟨t,rfl⟩:=ru;obtain ⟨aj,r',⟨⟨cls,dd,data,sl⟩,n,ho,hc,hd,hs⟩,hz⟩:=I.list hl;simp only at hc hd hs;subst hc hd hs;have hi:=yM r';have hlen:=hi.length;have hj:ns.idxOf k < ns.length:=List.idxOf_lt_length_iff.mpr hk;rw [List.length_map] at hz;have gN:sizeLine < 2 ^ 62:=by decide
  refine call_meets PySem.F.slot_list_index ⟨_,ho,rfl⟩ PySem.F.entry_list_index (PySem.F.args_list_index_2 _ _)
   (PySem.SeqAt.list_indexAt l aj.toArray n none sl (.int k t) (isInt k) (ns.idxOf k) (by simpa [hlen] using hj) (by omega) ?_ ?_) ⟨ho,fun y hy=>(eq_isInt k t hi y (by simpa using hy)).at _ _,⟨.int _,H,I.kept (t':=s.toks+1) fun _ _ e=>e,⟨_,rfl⟩,q⟩⟩
  ·show isInt k aj[ns.idxOf k]=true;rw [isInt_at k hi _ (by omega) hj]
   simpa using List.getElem_idxOf hj
  ·intro j hjs bL;show isInt k aj[j]=false;rw [isInt_at k hi j (by simpa using hjs) (by omega)];exact ne_of_lt_idxOf bL _
 ·exact h.elim
def Bz (K:PySem.W.Frag):List V->Hp->VK->Prop:=fun xs H Q=>match xs with
 | [.ref p]=>∃ (ns:List Int) (m:Int),aC K H p (ns.map V.int)/\m∈ns/\(∀ k∈ns,m<=k)/\Q (.int m) H
 | _=>False
theorem Zj {K:PySem.W.Frag} (hK:X.K=K) (hc:X.calm=true):cy X (.builtin "min") (Bz K):=by
 subst hK;intro pins s σ H xs us Q I r h;unfold Bz at h;split at h
 ·obtain ⟨ns,m,hl,hm,hle,q⟩:=h;obtain ⟨u,rfl,rx⟩:=vals1 r;cases rx;obtain ⟨aj,r',pl,hz⟩:=I.list hl;obtain ⟨xs,e1,e2⟩:=J1 (yM r');have he:aj.toArray=intItems xs.toArray:=by rw [e1]; simp [intItems]
  rw [he] at pl;have hx:0 < xs.length:=by
   rw [e2] at hm;cases xs with
   | nil=>cases hm
   | cons _ _=>exact Nat.succ_pos _
  refine min_intList (I.ok.hd hc) pl.isList (by simpa using hx) fun v h' tk hv hk=>?_;obtain ⟨t,rfl⟩:=intItems_at hv;obtain ⟨qc,xn⟩:=PySem.argBest_lt (numAt xs.toArray) (xs.toArray.size - 1);refine ⟨.int m,H,I.kept (t':=tk) hk,⟨t,?_⟩,q⟩;have hn:∀ i (h:i < xs.length),numAt xs.toArray i=xs[i].1:=fun i h=>by simp [numAt,h]
  have hsz:xs.toArray.size=xs.length:=by simp
  rw [hsz] at qc xn ⊢;generalize argBest _ (xs.length - 1)=a at qc xn ⊢;have ha:a < xs.length:=by omega
  have h1:m<=numAt xs.toArray a:=hle _ (by rw [e2,hn a ha]; exact List.mem_map_of_mem (List.getElem_mem ha));rw [e2] at hm;obtain ⟨p,hp,hpm⟩:=List.mem_map.mp hm;obtain ⟨i,hi,rfl⟩:=List.getElem_of_mem hp;have h2:=xn i (by omega);rw [hn i hi,hpm] at h2;rw [show numAt xs.toArray a=m by omega]
 ·exact h.elim
end
end L2
namespace HT
open PySem PySem.Spec PyProof.Rows
section
variable {prog:Program} {w:World} {A:Around} {E:Value->Shared->Prop} {s:Shared}
end
end HT
namespace L2
open PySem PySem.Spec PyProof.Rows
section
variable {X:Cx}
def Yz (K:PySem.W.Frag):R2:=fun x y H Q=>match x,y with
 | .ref a,.ref b=>∃ xs ys,bC K H a xs/\bC K H b ys/\xs.length+ys.length<=sizeLine/\((xs=[]/\Q (.ref b) H)\/(xs≠[]/\ys≠[]/\∀ p,H p=none->Q (.ref p) (upd H p (.tup (xs++ys)))))
 | _,_=>False
def NK (K:PySem.W.Frag):R2:=fun x y H Q=>match x,y with
 | .ref a,.ref b=>∃ xs,bC K H a xs/\bC K H b []/\Q (.bl xs.isEmpty) H
 | _,_=>False
def Rt (K:PySem.W.Frag):V->Option Int->Option Int->Hp->VK->Prop:=fun x lo hi H Q=>match x with
 | .ref a=>∃ xs,bC K H a xs/\(HT.cM xs.length 0 lo=0/\HT.cM xs.length xs.length hi=xs.length->Q (.ref a) H)/\(∀ p,H p=none->Q (.ref p) (upd H p (.tup (fc xs lo hi))))
 | _=>False
def Oj (r:V->List V->Hp->VK->Prop) (to:TE) (t:TA):TE:=fun σ H Q=>to σ H fun x H1=>match x with
 | .ref l=>(match H1 l with
  | some (.tup _)=>t σ H1 fun xs H2=>r (.ref l) xs H2 Q
  | _=>False)
 | _=>False
section
variable {o e:Expr} {es:List Expr} {name:Str} {id:String} {r:V->List V->Hp->VK->Prop} {to:TE} {t:TA} {apos bw:Pos}
end
theorem Lz:bootBuiltins "min" = some (.builtin "min"):=by kernel_rfl
end
theorem aZ.m {j k:Nat} {A:Around} (r:aZ k A) (h:j<=k:=by decide):aZ j A:=r.mono h
theorem fI {C d x:Addr} {f:Str} {fs gs:List (Str×V)} {v:V} {H:Hp} {Q:V->Prop} (h:H x=some (.ins C d fs)) (s:cW fs gs) (e:List.lookup f gs=some v) (q:Q v):FI C f (.ref x) H Q:=⟨x,_,_,_,rfl,h,(s f).trans e,q⟩
theorem mI {C d x:Addr} {f:Str} {fs gs:List (Str×V)} {H:Hp} {q:Prop} (h:H x=some (.ins C d fs)) (s:cW fs gs) (r:q) (e:List.lookup f gs=none:=by rfl):MI C f (.ref x) H q:=⟨x,_,_,rfl,h,(s f).trans e,r⟩
@[elab_as_elim] theorem eF {H:Hp} {p:Addr} {o:HO} {C:Hp->Prop} (h:H p=none) (k:∀ H1,ao H H1->H1 p=some o->C H1):C (upd H p o):=k _ (ao.upd h) ax
section
variable {prog:Program} {w:World} {A:Around} {E:Value->Shared->Prop} {s:Shared}
theorem XH {d:Addr} {es:Array DictEntry} {ep:Nat} (lo:(d == sysModules)=false):PySem.W.KdlSrc prog w "dict" d d es.size (fun i v=>∃ e,es[i]?=some e/\v=e.key) (fun h=>g7 h d es ep) where
 type:=fun _ x=>x.typeIs
 there:=fun _ x=>let ⟨_,e,_⟩:=x; ⟨Heap.lt_size e,Heap.lt_size e⟩
 keep:=fun _ _ x k=>x.at' (k d (.inl rfl))
 notList:=by decide
 notTuple:=by decide
 hint:=fun _ _ _ _ x q=>PySem.W.kdl_hint_dict x.typeIs q
 iter:=fun _ _ hh x=>⟨_,_,fun _ _ q=>zL lo x q,yD hh _ d (Nat.ne_of_lt (let ⟨_,e,_⟩:=x; Heap.lt_size e)) es ep,⟨⟨_,Heap.get?_push_size _ rfl,rfl,rfl⟩,x.at' fun _ e=>Heap.get?_push_of_some _ e⟩⟩
theorem sort_1 {a:Addr} {v:Value} {n:Nat} {P:Fin->Shared->Prop} (ho:s.heap.get? a=some (seqObj "list" [v].toArray n)) (h:P (.done (.ret .none)) { s with heap:=sortedHeap s.heap a [v] #[v] }) :
  wpAny (model prog w) A (Builtin.«list.sort» ⟨[.ref a],[]⟩) P E s:=by
 rw [list_sort_plain];have ha:=Heap.lt_size ho;refine wpAny_bind (listItems_at ho rfl (wpAny_bind (listUpdate_at ho rfl ?_)));obtain ⟨e1,h1⟩:∃ e1,(s.heap.update a (Obj.mapSeq fun _=>#[])).get? a=some (seqObj "list" #[] e1):=⟨_,get?_update_seq ho _⟩;refine wpAny_bind (seqEpoch_at h1 rfl (wpAny_bind (wpAny_newTuple (wpAny_bind (wpAny_newList (wpAny_holding ?_))))));have h6:(((s.heap.update a (Obj.mapSeq fun _=>#[])).push (seqObj "tuple" [v].toArray 0)).push (seqObj "list" #[] 0)).get? a=some (seqObj "list" #[] e1) :=
  Heap.get?_push_of_some _ (Heap.get?_push_of_some _ h1)
 show wpAny (model prog w) A _ P E { s with heap:=((s.heap.update a (Obj.mapSeq fun _=>#[])).push (seqObj "tuple" [v].toArray 0)).push (seqObj "list" #[] 0) };dsimp only;have h2:([v]:List Value).toArray.size < 2:=by simp
 rw [if_pos h2,if_pos h2];refine wpAny_bind (wpAny_pure ?_);rw [StateT.run_pure];refine wpAny_bind (wpAny_pure ?_);dsimp only;refine wpAny_bind (seqEpoch_at h6 rfl (wpAny_bind (listUpdate_at h6 rfl ?_ (hsz2:=by rw [Array.size_map]; show (pairsOf [v]).size<=_; rw [pairsOf_size,sizeLine_eq]; exact Nat.succ_le_succ (Nat.zero_le _)))));simp only [bne_self_eq_false,Bool.false_eq_true,if_false];have hx:(arrOf (SortSt.mk' general' (#[v].zip #[v]) #[] 7 none)).map (·.2)=#[v]:=by
  show (#[v].zip #[v]).map (·.2)=#[v];simp
 rw [hx];exact wpAny_pure h
end
section
variable {X:Cx}
theorem Uz {pins:List (Addr×Obj)} {σ:St} {H:Hp} {s:Shared} {Q:VK} {p:Addr} {k:List Key} {v:V} (hc:X.calm=true) (I:Inv X pins σ H s) (hd:H p=some (.dT [(k,v)])) (q:∀ y l,H y=some (.tup (k.map kV))->H l=none->Q (.ref l) (upd H l (.lst [.ref y]))) :
  wpAny (model X.prog X.w) X.A (call (.builtin "sorted") [.ref p]) (EP X pins σ Q) X.xe s:=by
 obtain ⟨hz,hS,xs,hp,o,es,ep,ho,hex,eW,jB,iq⟩:=id (I.aA p _ hd);cases hp with
 | @cons _ y _ _ hh t =>
 cases t;have hsz:es.size=1:=by rw [<- Array.length_toList,jB]; rfl
 have ud:g7 s.heap p es ep:=⟨o,ho,hex,eW⟩;refine Calls.call_function_entry kind_sorted plain_sorted entry_sorted (args_sorted1 _) ?_;unfold Builtin.«sorted»;refine wpAny_bind (m:=checkCount "sorted" 1 1 _) (wpAny_pure ?_);refine wpAny_bind (PySem.W.kdu_collect (A:=X.A.in1) (XH hS) (I.ok.hd hc) ud (by rw [hsz,sizeLine_eq]; decide) fun h' tk acc hk' eY=>?_);obtain ⟨u,hu⟩:∃ u,acc=#[u]:=by
  have e:=eY.1;rw [hsz] at e;obtain ⟨l⟩:=acc
  match l,e with
  | [u],_=>exact ⟨u,rfl⟩
 subst hu;obtain ⟨e,he,rfl⟩:=eY.2 0 u rfl;rw [<- Array.getElem?_toList,jB] at he;cases he;refine wpAny_bind (wpAny_newList ?_ (by rw [sizeLine_eq]; exact Nat.succ_le_succ (Nat.zero_le _)));have gM:(h'.push (seqObj "list" ([Value.ref y.2.1]:List Value).toArray 0)).get? h'.objs.size=some (seqObj "list" ([Value.ref y.2.1]:List Value).toArray 0):=Heap.get?_push_size _ rfl;refine wpAny_bind (wpAny_holding (wpAny_call_entry slot_list_sort ⟨_,gM,rfl⟩ entry_list_sort (sort_1 gM ⟨_,rfl,?_⟩) (args_list_sort _)));refine wpAny_pure ⟨_,rfl,?_⟩;obtain ⟨e,he⟩:=sortedHeap_at (out:=#[Value.ref y.2.1]) gM;have I1:Inv X pins σ H { s with heap:=h',toks:=tk }:=I.kept (t':=tk) hk';refine ⟨.ref h'.objs.size,_,I1.laid (t':=tk) (fun b o z=>?_) (Nat.le_refl _) (show bH X.prog X.w _ _ _ (.lst [.ref y.2.1]) from ⟨by rw [sizeLine_eq]; exact Nat.succ_le_succ (Nat.zero_le _),[Value.ref y.2.1],e,.cons rfl .nil,he⟩),rfl,q _ _ hh.2.1 (I1.aA.fresh (Nat.le_refl _))⟩;have hb:b < h'.objs.size:=Heap.lt_size z;exact (sortedHeap_old (Nat.ne_of_lt hb) (show b < (h'.push _).objs.size by rw [Heap.size_push]; exact Nat.lt_succ_of_lt hb)).trans (Heap.get?_push_of_some _ z)
def Xn:List V->Hp->VK->Prop:=fun xs H Q=>∃ p kvs,xs=[.ref p]/\H p=some (.dT kvs)/\((kvs=[]/\∀ l,H l=none->Q (.ref l) (upd H l (.lst [])))\/∃ k v,kvs=[(k,v)]/\∀ y l,H y=some (.tup (k.map kV))->H l=none->Q (.ref l) (upd H l (.lst [.ref y])))
theorem Vm (hc:X.calm=true):cy X (.builtin "sorted") Xn:=by
 intro pins s σ H xs us Q I r h;obtain ⟨p,kvs,rfl,hd,h⟩:=h;obtain ⟨u,rfl,rx⟩:=vals1 r;cases rx;rcases h with ⟨rfl,q⟩ | ⟨k,v,rfl,q⟩
 ·exact Jn hc I hd q
 ·exact Uz hc I hd q
theorem Pa {te:TE} {H:Hp} {Q:VK} {vs:List V} (m:Nat) (W:Nat->List V->Hp->Prop) (hm:m<=1000) (w0:W 0 [] H) (wl:∀ i ys H1,W i ys H1->ys.length=i)
  (he:∀ k ys H1,k < m->W k ys H1->∀ R:VK,(∀ z H2,W (k+1) (ys++[z]) H2->R z H2)->te (some (.int (k:Int))::vs.map some) H1 R)
  (q:∀ ys H1 l,W m ys H1->H1 l=none->Q (.ref l) (upd H1 l (.lst ys))) :
  sG (kD 0 ((m:Int)).toNat) 1 vs (fJ 0) nH te Q H:=by
 have hsz:m<=sizeLine:=fits hm;refine ⟨fun i zs k H1=>W i zs H1/\i<=m/\k=m - i,⟨_,w0,Nat.zero_le _,rfl⟩,?_⟩;rintro i zs k H1 ⟨hw,hi,rfl⟩;have hlen:=wl _ _ _ hw;refine ⟨by omega,?_⟩;by_cases h:i < m
 ·refine .inr ⟨show i < ((m:Int)).toNat by omega,by omega,?_⟩;rintro v H' ⟨rfl,rfl⟩ σ0 hσ0;obtain ⟨a,rfl⟩:=AK hσ0;refine ⟨⟨[some (.int (0+(i:Int)))],rfl,rfl⟩,?_⟩;have e0:(0+(i:Int))=(i:Int):=by omega
  show nH _ _ _;unfold nH;dsimp only;rw [if_pos rfl];have st:=he i zs _ h hw (fun z H3=>∃ m',m' < m - i/\W (i+1) (zs++[z]) H3/\i+1<=m/\m'=m - (i+1)) (fun v H2 x=>⟨m - (i+1),by omega,x,h,rfl⟩);rw [<- e0] at st;exact st
 ·have e:i=m:=by omega
  subst e;exact .inl ⟨show ((i:Int)).toNat<=i by omega,fun l hl=>q _ _ _ hw hl⟩
end
def DE (K:PySem.W.Frag) (H:Hp):Nat->V->V->Prop
 | 0,x,y=>cx x=true/\cx y=true/\ff x y=true
 | n+1,x,y=>(cx x=true/\cx y=true/\ff x y=true)\/∃ a b xs ys,x=.ref a/\y=.ref b/\(aC K H a xs/\aC K H b ys\/bC K H a xs/\bC K H b ys)/\xs.length=ys.length/\∀ i (h1:i < xs.length) (h2:i < ys.length),DE K H n xs[i] ys[i]
section
variable {X:Cx}
theorem E4 {xs:List V} {i1:List Value} (r1:Vals xs i1) (j:Nat) (g1:j < i1.toArray.size):∃ (j1:j < xs.length),RelV xs[j] i1.toArray[j]:=by
 have j1:j < xs.length:=by rw [r1.length]; simpa using g1
 obtain ⟨u1,e1,ru1⟩:=r1.get (List.getElem?_eq_getElem j1);have w1:i1.toArray[j]=u1:=by
  have:=(List.getElem?_eq_some_iff.mp e1).2
  simpa using this
 exact ⟨j1,by rw [w1]; exact ru1⟩
theorem KZ {pins:List (Addr×Obj)} {σ:St} {H:Hp} {s:Shared} (I:Inv X pins σ H s) {n:Nat} (ih:∀ {A:Around} {x y:V} {v u:Value},DE X.K H n x y->RelV x v->RelV y u->A.units+n < cLine->SeqAt.EqAt A s v u true)
  {A:Around} {a b:Addr} {xs ys:List V} (dG:aC X.K H a xs/\aC X.K H b ys\/bC X.K H a xs/\bC X.K H b ys) (hl:xs.length=ys.length) (he:∀ i (h1:i < xs.length) (h2:i < ys.length),DE X.K H n xs[i] ys[i]) (hu:A.units+(n+1) < cLine):SeqAt.RcAt A s (.ref a) (.ref b) true:=by
 have el:∀ {i1 i2:List Value},Vals xs i1->Vals ys i2->∀ (j:Nat) (g1:j < i1.toArray.size) (g2:j < i2.toArray.size),SeqAt.EqAt A.in1 s i1.toArray[j] i2.toArray[j] true:=fun r1 r2 j g1 g2=>by
  obtain ⟨j1,u1⟩:=E4 r1 j g1;obtain ⟨j2,u2⟩:=E4 r2 j g2;exact ih (he j j1 j2) u1 u2 (show A.units+1+n < cLine by omega)
 rcases dG with ⟨ha,hb⟩ | ⟨ha,hb⟩
 ·obtain ⟨i1,r1,p1,_⟩:=I.list ha;obtain ⟨i2,r2,p2,_⟩:=I.list hb;have hsz:i1.toArray.size=i2.toArray.size:=by rw [List.size_toArray,List.size_toArray,<- r1.length,<- r2.length,hl]
  have k:=SeqAt.RcAt.lists (A:=A) (s:=s) (e:=fun _=>true) p1.isList p2.isList hsz (by omega) (el r1 r2);rw [all_true] at k;exact k
 ·obtain ⟨i1,r1,p1,_⟩:=I.tuple ha;obtain ⟨i2,r2,p2,_⟩:=I.tuple hb;have hsz:i1.toArray.size=i2.toArray.size:=by rw [List.size_toArray,List.size_toArray,<- r1.length,<- r2.length,hl]
  have k:=SeqAt.RcAt.tuples (A:=A) (s:=s) (e:=fun _=>true) p1 p2 (by omega) (el r1 r2);rw [all_true,hsz,beq_self_eq_true,Bool.and_self] at k;exact k
theorem G6 {pins:List (Addr×Obj)} {σ:St} {H:Hp} {s:Shared} (I:Inv X pins σ H s):∀ (n:Nat) {A:Around} {x y:V} {v u:Value},DE X.K H n x y->RelV x v->RelV y u->A.units+n < cLine->SeqAt.EqAt A s v u true
 | 0,A,x,y,v,u,h,rx,ry,hu=>by
  have:=yQ (A:=A) (s:=s) rx ry h.1 h.2.1;rw [h.2.2] at this;exact this
 | n+1,A,x,y,v,u,h,rx,ry,hu=>by
  rcases h with h | ⟨a,b,xs,ys,rfl,rfl,dG,hl,he⟩
  ·have:=yQ (A:=A) (s:=s) rx ry h.1 h.2.1;rw [h.2.2] at this;exact this
  ·cases rx; cases ry;by_cases e:a=b
   ·subst e; exact SeqAt.EqAt.same _
   ·exact SeqAt.EqAt.of_refs e (KZ I (G6 I n) dG hl he hu)
def pG (K:PySem.W.Frag) (n:Nat):R2:=fun x y H Q=>match x,y with
 | .ref a,.ref b=>∃ xs ys:List V,(aC K H a xs/\aC K H b ys\/bC K H a xs/\bC K H b ys)/\xs.length=ys.length/\(∀ i (h1:i < xs.length) (h2:i < ys.length),DE K H n xs[i] ys[i])/\Q (.bl true) H
 | _,_=>False
theorem ko {K:PySem.W.Frag} (n:Nat) (hK:X.K=K) (hu:X.A.units+(n+1) < cLine):aX X (compareOp .Eq) (pG K n):=by
 subst hK;intro pins s σ H x y v u Q I rx ry h;unfold pG at h;split at h
 ·obtain ⟨xs,ys,dG,hl,he,q⟩:=h;cases rx; cases ry;exact KZ I (G6 I n) dG hl he hu _ _ _ _ ⟨.bl _,H,I,rfl,q⟩
 ·exact h.elim
end
theorem aZ.jG {k:Nat} {A:Around} (r:aZ k A):A.units+(4+1) < cLine:=by have:=r.un; omega
def zw:List V->Hp->VK->Prop:=fun xs H Q=>match xs with
 | [.int a,.int b]=>Q (.int (if b < a then b else a)) H
 | _=>False
theorem NW {X:Cx} (hc:X.calm=true):cy X (.builtin "min") zw:=by
 intro pins s σ H xs us Q I r h;unfold zw at h;split at h
 ·obtain ⟨u,u2,rfl,rx,ry⟩:=vals2 r;obtain ⟨t,rfl⟩:=rx;obtain ⟨t2,rfl⟩:=ry;rename_i a b;refine min_two_ints (I.ok.hd hc) fun h' tk hk=>?_;refine ⟨_,H,I.kept (t':=tk) hk,?_,h⟩;by_cases dG:b < a
  ·rw [if_pos dG,if_pos dG]; exact ⟨_,rfl⟩
  ·rw [if_neg dG,if_neg dG]; exact ⟨_,rfl⟩
 ·exact h.elim
end L2
set_option maxHeartbeats 0
namespace L2.bD
open PySem PySem.Spec PyProof.Rows
local macro_rules | `(tactic| walk_at "s")=>`(tactic| exact ⟨rfl,rfl,rfl,by decide +kernel,rfl,by decide +kernel,by decide +kernel⟩)
abbrev e_ (N:List Str) (s:Stmt):Prop:=aE N N (az s)
abbrev _root_.L2.FT.k {K:PySem.W.Frag} {mg:Str->Option Value} {a b:Str} {st:Stmt} {ps:List Str} (t:FT K mg a b st ps) (P:Program) (w:World) (base:Heap) (n:Nat) (q:Sp):Prop:=aB P w K mg base aL n t.f t.d ps q
abbrev _root_.L2.MT.k {K:PySem.W.Frag} {C:Addr} {a b:Str} {st:Stmt} {ps:List Str} (t:MT K C a b st ps) (P:Program) (w:World) (mg:Str->Option Value) (base:Heap) (n:Nat) (q:Sp):Prop:=aB P w K mg base aL n t.f t.d ps q
def top (i:Nat):Stmt:=PySem.Challenge.pw_leadnames_k46_rights_set.main.body.getD i (.Pass ⟨0,0,0,0⟩)
abbrev Gw:=top 12
abbrev K4:=top 13
abbrev Jy:=top 14
abbrev Bg:=top 15
abbrev Ld:=top 25
abbrev Ga:=top 26
abbrev G8:=top 27
abbrev FD:=top 28
abbrev Iw:=top 29
abbrev FL:=top 30
abbrev HV:=top 31
abbrev E3:=top 32
abbrev JR:=top 33
abbrev JM:=top 34
abbrev xY:=top 35
abbrev ym:=top 49
abbrev yq:=top 50
abbrev Bt:=top 51
abbrev AG:=top 52
abbrev tS:=top 53
abbrev sU:=top 54
abbrev Cs:=top 57
abbrev Au:=top 58
abbrev B7:=top 59
abbrev zD:=top 60
abbrev BN:=top 61
abbrev Bi:=top 62
abbrev Bf:=top 63
abbrev Ak:=top 64
abbrev y3:=top 65
abbrev zF:=top 66
abbrev pI:=top 67
abbrev oS:=top 68
abbrev Br:=top 69
abbrev B0:=top 70
abbrev JW:=top 75
abbrev GZ:=top 76
abbrev IA:=top 77
abbrev yI:=top 78
abbrev xZ:=top 79
abbrev zU:=top 80
abbrev yO:=top 81
abbrev jm:=top 82
abbrev BV:=top 83
abbrev zI:=top 84
abbrev pM:=top 85
abbrev yC:=top 86
abbrev A0:=top 87
abbrev qS:=top 88
theorem Pm:e_ ["house","folder"] Gw:=by walk_at "s"
theorem B8:aE ["house","folder","base"] ["house","folder"] (az K4):=by walk_at "s"
theorem J6:aE ["house","folder","stack"] ["house","folder"] (az Jy):=by walk_at "s"
theorem m7:aE ["house","asker","folder","root","here","stack","place"] ["house","asker","folder"] (az Bg):=by walk_at "s"
theorem PB:e_ ["number"] Ld:=by walk_at "s"
theorem Xf:e_ ["text"] Ga:=by walk_at "s"
theorem Qr:e_ ["text"] G8:=by walk_at "s"
theorem WG:e_ ["text"] FD:=by walk_at "s"
theorem VS:e_ ["text"] Iw:=by walk_at "s"
theorem Gx:aE ["path","parts"] ["path"] (az FL):=by walk_at "s"
theorem Wg:e_ ["text"] HV:=by walk_at "s"
theorem SN:e_ ["text"] E3:=by walk_at "s"
theorem UQ:e_ ["text"] JR:=by walk_at "s"
theorem Pq:e_ ["text"] JM:=by walk_at "s"
theorem SW:e_ ["path"] xY:=by walk_at "s"
theorem pL:aE ["house","asker","folder","root","names","stack","place"] ["house","asker","folder"] (az ym):=by walk_at "s"
theorem IP:aE ["leads","first"] ["leads"] (az yq):=by walk_at "s"
theorem Kk:aE ["house","asker","from_root","parts","last","ended"] ["house","asker","from_root","parts","last"] (az Bt):=by walk_at "s"
theorem Ia:aE ["house","asker","path","last","read"] ["house","asker","path","last"] (az AG):=by walk_at "s"
theorem Um:e_ ["house","asker","path","last"] tS:=by walk_at "s"
theorem Xv:e_ ["house","asker","path","last"] sU:=by walk_at "s"
theorem GY:aE ["path","parts"] ["path"] (az Cs):=by walk_at "s"
theorem B4:aE ["house","asker","path","asked","ended"] ["house","asker","path"] (az Au):=by walk_at "s"
theorem WY:e_ ["house","seat"] B7:=by walk_at "s"
theorem Zz:e_ ["told"] zD:=by walk_at "s"
theorem W9:e_ ["house","asker","path"] BN:=by walk_at "s"
theorem Y1:e_ ["house","asker","number","right","reason"] Bi:=by walk_at "s"
theorem Yn:e_ ["house","asker","folder"] Bf:=by walk_at "s"
theorem PF:e_ ["house","seat"] Ak:=by walk_at "s"
theorem Iq:aE ["house","asker","path","seat"] ["house","asker","path"] (az y3):=by walk_at "s"
theorem Zy:e_ ["house","seat","number"] zF:=by walk_at "s"
theorem Lw:aE ["house","asker","path","mine","rest","seat"] ["house","asker","path","mine","rest"] (az pI):=by walk_at "s"
theorem GK:aE ["house","asker","path","text","mine","rest","seat"] ["house","asker","path","text","mine","rest"] (az oS):=by walk_at "s"
theorem K2:aE ["house","asker","path","lead","seat"] ["house","asker","path","lead"] (az Br):=by walk_at "s"
theorem GS:aE ["house","asker","path","mine","rest","number"] ["house","asker","path","mine","rest"] (az B0):=by walk_at "s"
theorem BP:aE ["_law_cell","_law_k","_law_number"] ["_law_cell","_law_k"] (az JW):=by walk_at "s"
theorem YY:e_ ["_law_cell"] GZ:=by walk_at "s"
theorem Fv:aE ["_law_source_here","_law_size","_law_found"] ["_law_source_here","_law_size"] (az IA):=by walk_at "s"
theorem RK:e_ ["_law_source_here"] yI:=by walk_at "s"
theorem tu:aE ["_law_source_here","_law_most","_law_many","_law_parts","_law_joint","_law_text"] ["_law_source_here","_law_most"] (az xZ):=by walk_at "s"
theorem jW:aE ["_law_ask","_law_found","e"] ["_law_ask"] (az zU):=by walk_at "s"
theorem TY:e_ ["_law_told_here"] yO:=by walk_at "s"
theorem lD:aE ["_law_house","_law_cell","_law_source_here","_law_asker","_law_path_here","_law_way","_law_lead","_law_mine","_law_rest"] ["_law_house","_law_cell"] (az jm):=by walk_at "s"
theorem B5:aE ["_law_house","_law_found","_law_number"] ["_law_house"] (az BV):=by walk_at "s"
theorem S3:e_ ["_law_found","_law_due"] zI:=by walk_at "s"
theorem vM:aE ["_law_house","_law_asker","_law_path_here","_law_mine","_law_rest","_law_told_here","_law_ahead","_law_found"] ["_law_house","_law_asker","_law_path_here","_law_mine","_law_rest"] (az pM):=by walk_at "s"
theorem jU:aE ["_law_house","_law_number","_law_mine","_law_rest","_law_asker","_law_rights","_law_sign","_law_found"] ["_law_house"] (az yC):=by walk_at "s"
theorem vw:aE ["_law_house","_law_asker","_law_path_here","_law_told_here","_law_asked_here","_law_shut"] ["_law_house","_law_asker","_law_path_here"] (az A0):=by walk_at "s"
theorem iG:aE ["_law_script","_law_house","_law_cell","_law_source_here","_law_asker","_law_path_here","_law_some","_law_mine","_law_rest","_law_other"] ["_law_script"] (az qS):=by walk_at "s"
abbrev LD:=inClass (top 9) 0
theorem VD:e_ ["self","told"] LD:=by walk_at "s"
abbrev FE:=inClass (top 10) 0
theorem V9:e_ ["self","reason"] FE:=by walk_at "s"
abbrev Ja:=inClass (top 40) 0
theorem Sr:e_ ["self","number","kind","owner","mine","rest","text"] Ja:=by walk_at "s"
abbrev Jd:=inClass (top 40) 1
theorem WJ:e_ ["self","asker"] Jd:=by walk_at "s"
abbrev Hn:=inClass (top 41) 0
theorem Rc:e_ ["self"] Hn:=by walk_at "s"
abbrev Hd:=inClass (top 41) 1
theorem Ht:aE ["self","kind","owner","mine","rest","text","number"] ["self","kind","owner","mine","rest","text"] (az Hd):=by walk_at "s"
abbrev Hr:=inClass (top 41) 2
theorem Oy:e_ ["self","owner","mine","rest"] Hr:=by walk_at "s"
abbrev Hx:=inClass (top 41) 3
theorem Of:e_ ["self","owner","text","mine","rest"] Hx:=by walk_at "s"
abbrev JB:=inClass (top 41) 4
theorem UT:e_ ["self","owner","path"] JB:=by walk_at "s"
abbrev G1:=inClass (top 41) 5
theorem YE:e_ ["self"] G1:=by walk_at "s"
abbrev F8:=inClass (top 41) 6
theorem R9:e_ ["self","number"] F8:=by walk_at "s"
abbrev EZ:=inClass (top 41) 7
theorem Ru:e_ ["self","folder","name"] EZ:=by walk_at "s"
abbrev Jr:=inClass (top 41) 8
theorem VC:e_ ["self","number"] Jr:=by walk_at "s"
abbrev Iu:=inClass (top 41) 9
theorem XW:e_ ["self","number"] Iu:=by walk_at "s"
abbrev HU:=inClass (top 41) 10
theorem Vw:e_ ["self","number"] HU:=by walk_at "s"
abbrev Lr:=inClass (top 41) 11
theorem Hy:aE ["self","number","mine","rest","thing"] ["self","number","mine","rest"] (az Lr):=by walk_at "s"
abbrev GD:=inClass (top 41) 13
theorem vt:aE ["self","folder","name","number","thing","former","known"] ["self","folder","name","number"] (az GD):=by walk_at "s"
abbrev Ih:=inClass (top 41) 14
theorem Lp:aE ["self","folder","name","number"] ["self","folder","name"] (az Ih):=by walk_at "s"
abbrev GR:=inClass (top 45) 0
theorem ZI:e_ ["self","number","way"] GR:=by walk_at "s"
abbrev GW:=inClass (top 46) 0
theorem Sa:e_ ["self","step","reason"] GW:=by walk_at "s"
abbrev yo:=inClass (top 47) 0
theorem SS:e_ ["self","leads"] yo:=by walk_at "s"
abbrev Ah:=inClass (top 48) 0
theorem VN:e_ ["self","house","asker","last"] Ah:=by walk_at "s"
abbrev zQ:=inClass (top 48) 1
theorem Jg:aE ["self","from_root","parts","start"] ["self","from_root","parts"] (az zQ):=by walk_at "s"
abbrev Ap:=inClass (top 48) 2
theorem F2:aE ["self","part"] ["self"] (az Ap):=by walk_at "s"
abbrev Ay:=inClass (top 48) 3
theorem Wr:e_ ["self","reason"] Ay:=by walk_at "s"
abbrev BK:=inClass (top 48) 4
theorem Rb:e_ ["self","part"] BK:=by walk_at "s"
abbrev CZ:=inClass (top 48) 5
theorem Lf:aE ["self","stack"] ["self"] (az CZ):=by walk_at "s"
abbrev An:=inClass (top 48) 6
theorem zl:aE ["self","name","number","kind"] ["self","name"] (az An):=by walk_at "s"
abbrev C4:=inClass (top 48) 7
theorem U9:e_ ["self","number"] C4:=by walk_at "s"
abbrev Ci:=inClass (top 48) 8
theorem Ha:aE ["self","number","read"] ["self","number"] (az Ci):=by walk_at "s"
abbrev yN:=inClass (top 48) 9
theorem tV:aE ["self","names","folder"] ["self"] (az yN):=by walk_at "s"
abbrev Ig:=inClass (top 56) 0
theorem ZU:e_ ["self","folder","name"] Ig:=by walk_at "s"
abbrev Gk:=inClass (top 73) 0
theorem U5:e_ ["self","owner"] Gk:=by walk_at "s"
abbrev IW:=inClass (top 73) 1
theorem Tf:e_ ["self","name"] IW:=by walk_at "s"
abbrev Gn:=inClass (top 73) 2
theorem PJ:e_ ["self"] Gn:=by walk_at "s"
abbrev Hf:=inClass (top 73) 4
theorem NQ:e_ ["self","asker"] Hf:=by walk_at "s"
abbrev GQ:=inClass (top 73) 5
theorem XZ:e_ ["self","asker"] GQ:=by walk_at "s"
abbrev GP:=inClass (top 73) 6
theorem V5:e_ ["self","number"] GP:=by walk_at "s"
abbrev ID:=inClass (top 73) 7
theorem Zn:e_ ["self","number"] ID:=by walk_at "s"
abbrev Hu:=inClass (top 73) 8
theorem HA:aE ["self","number","thing"] ["self","number"] (az Hu):=by walk_at "s"
abbrev JQ:=inClass (top 73) 9
theorem Sm:e_ ["self"] JQ:=by walk_at "s"
abbrev Kh:=inClass (top 73) 10
theorem X0:e_ ["self","number","name"] Kh:=by walk_at "s"
abbrev Ji:=inClass (top 73) 11
theorem PY:e_ ["self","number"] Ji:=by walk_at "s"
abbrev Hg:=inClass (top 73) 12
theorem Sv:e_ ["self","number"] Hg:=by walk_at "s"
abbrev Jm:=inClass (top 73) 13
theorem Qb:e_ ["self","number"] Jm:=by walk_at "s"
abbrev KA:=inClass (top 73) 14
theorem OU:e_ ["self","number"] KA:=by walk_at "s"
abbrev K5:=inClass (top 73) 17
theorem S9:e_ ["self","asker","number","right"] K5:=by walk_at "s"
abbrev FR:=inClass (top 73) 23
theorem Yg:e_ ["self","asker"] FR:=by walk_at "s"
abbrev Ic:=inClass (top 73) 25
theorem Oa:e_ ["self","number"] Ic:=by walk_at "s"
abbrev Jq:=inClass (top 73) 26
theorem WW:e_ ["self","name"] Jq:=by walk_at "s"
abbrev FC:=inClass (top 73) 27
theorem Oq:e_ ["self","asker","folder"] FC:=by walk_at "s"
abbrev HQ:=inClass (top 73) 28
theorem aab:e_ ["self","asker","folder"] HQ:=by walk_at "s"
abbrev Ik:=inClass (top 73) 29
theorem Kb:aE ["self","tree","owner","root"] ["self","tree","owner"] (az Ik):=by walk_at "s"
set_option genInjectivity false in
set_option genSizeOf false in
structure Tx (K:PySem.W.Frag) (mg:Str->Option Value) where
 fO:FT K mg "top_of" "top_of" Gw ["house","folder"]
 pf:FT K mg "base_of" "base_of" K4 ["house","folder"]
 dN:FT K mg "stack_of" "stack_of" Jy ["house","folder"]
 oF:FT K mg "is_seen" "is_seen" Bg ["house","asker","folder"]
 ku:FT K mg "is_whole" "is_whole" Ld ["number"]
 ic:FT K mg "is_name" "is_name" Ga ["text"]
 oJ:FT K mg "is_rights" "is_rights" G8 ["text"]
 pH:FT K mg "is_text" "is_text" FD ["text"]
 pR:FT K mg "is_part" "is_part" Iw ["text"]
 cu:FT K mg "parts_of" "parts_of" FL ["path"]
 hU:FT K mg "check_name" "check_name" HV ["text"]
 dM:FT K mg "check_rights" "check_rights" E3 ["text"]
 oA:FT K mg "check_one_right" "check_one_right" JR ["text"]
 pX:FT K mg "check_text" "check_text" JM ["text"]
 pb:FT K mg "check_lead" "check_lead" xY ["path"]
 pS:FT K mg "names_to" "names_to" ym ["house","asker","folder"]
 pT:FT K mg "from_least" "from_least" yq ["leads"]
 j5:FT K mg "walk_parts" "walk_parts" Bt ["house","asker","from_root","parts","last"]
 jD:FT K mg "walk_path" "walk_path" AG ["house","asker","path","last"]
 {Dy:Addr}
 {xP:FuncData}
 pC:jY K "walk" "walk" tS Dy xP [.bool true]
 BF:mg "walk" = some (.ref Dy)
 KL:Binds K xP ["house","asker","path","last"] []
 tO:Binds K xP ["house","asker","path","last"] [.bool true]
 {De:Addr}
 {xF:FuncData}
 wR:jY K "asked_of" "asked_of" sU De xF [.bool true]
 QJ:mg "asked_of" = some (.ref De)
 JK:Binds K xF ["house","asker","path","last"] []
 AY:Binds K xF ["house","asker","path","last"] [.bool true]
 pN:FT K mg "check_seat" "check_seat" Cs ["path"]
 oK:FT K mg "seat_of" "seat_of" Au ["house","asker","path"]
 oT:FT K mg "thing_at" "thing_at" B7 ["house","seat"]
 jV:FT K mg "number_found" "number_found" zD ["told"]
 pY:FT K mg "find_any" "find_any" BN ["house","asker","path"]
 pz:FT K mg "check_may" "check_may" Bi ["house","asker","number","right","reason"]
 oE:FT K mg "check_kept" "check_kept" Bf ["house","asker","folder"]
 pj:FT K mg "check_free" "check_free" Ak ["house","seat"]
 gY:FT K mg "free_seat_of" "free_seat_of" y3 ["house","asker","path"]
 g9:FT K mg "seat_thing" "seat_thing" zF ["house","seat","number"]
 {DM:Addr}
 {ua:FuncData}
 {L9:Tok}
 {EW:Tok}
 vb:jY K "make_folder" "make_folder" pI DM ua [.str "lgw" L9,.str "" EW]
 TK:mg "make_folder" = some (.ref DM)
 ze:Binds K ua ["house","asker","path","mine","rest"] []
 IK:Binds K ua ["house","asker","path","mine","rest"] [.str "" EW]
 Ij:Binds K ua ["house","asker","path","mine","rest"] [.str "lgw" L9,.str "" EW]
 {DV:Addr}
 {uo:FuncData}
 {M9:Tok}
 {DD:Tok}
 uS:jY K "make_file" "make_file" oS DV uo [.str "lgw" M9,.str "" DD]
 PU:mg "make_file" = some (.ref DV)
 Ca:Binds K uo ["house","asker","path","text","mine","rest"] []
 Gy:Binds K uo ["house","asker","path","text","mine","rest"] [.str "" DD]
 IZ:Binds K uo ["house","asker","path","text","mine","rest"] [.str "lgw" M9,.str "" DD]
 oZ:FT K mg "make_lead" "make_lead" Br ["house","asker","path","lead"]
 pV:FT K mg "set_rights" "set_rights" B0 ["house","asker","path","mine","rest"]
 oQ:FT K mg "_law_mixed" "_law_mixed" JW ["_law_cell","_law_k"]
 kz:FT K mg "_law_source" "_law_source" GZ ["_law_cell"]
 bN:FT K mg "_law_next" "_law_next" IA ["_law_source_here","_law_size"]
 oG:FT K mg "_law_word" "_law_word" yI ["_law_source_here"]
 fP:FT K mg "_law_path" "_law_path" xZ ["_law_source_here","_law_most"]
 fT:FT K mg "_law_asked" "_law_asked" zU ["_law_ask"]
 jH:FT K mg "_law_told" "_law_told" yO ["_law_told_here"]
 {Er:Addr}
 {w6:FuncData}
 uI:e8 K "_law_built" "_law_built" jm Er w6
 NP:mg "_law_built" = some (.ref Er)
 y9:Binds K w6 ["_law_house","_law_cell"] []
 fG:FT K mg "_law_all" "_law_all" BV ["_law_house"]
 pA:FT K mg "_law_same" "_law_same" zI ["_law_found","_law_due"]
 {DH:Addr}
 {xj:FuncData}
 uJ:e8 K "_law_set" "_law_set" pM DH xj
 Xc:mg "_law_set" = some (.ref DH)
 Am:Binds K xj ["_law_house","_law_asker","_law_path_here","_law_mine","_law_rest"] []
 oM:FT K mg "_law_may_right" "_law_may_right" yC ["_law_house"]
 ox:FT K mg "_law_walk_right" "_law_walk_right" A0 ["_law_house","_law_asker","_law_path_here"]
 {Et:Addr}
 {xN:FuncData}
 wD:e8 K "law" "law" qS Et xN
 WZ:mg "law" = some (.ref Et)
 Ky:Binds K xN ["_law_script"] []
 {Du:Addr}
 N1:mg "DOTS" = some (.ref Du)
 Aq:∀ H:Hp,bC K H Du [.str ".",.str ".."]
 {t_FILE:Tok}
 Af:mg "FILE" = some (.str "file" t_FILE)
 {t_FIRST_TREE:Tok}
 Qt:mg "FIRST_TREE" = some (.str "main" t_FIRST_TREE)
 {t_FOLDER:Tok}
 uR:mg "FOLDER" = some (.str "folder" t_FOLDER)
 {dQ:Addr}
 yj:mg "Failed" = some (.ref dQ)
 {dv:Addr}
 vN:mg "Found" = some (.ref dv)
 {aI:Addr}
 VL:mg "House" = some (.ref aI)
 {t_LEAD:Tok}
 Zq:mg "LEAD" = some (.str "lead" t_LEAD)
 {t_LETTERS:Tok}
 Ou:mg "LETTERS" = some (.str "abcdefghijklmnopqrstuvwxyz" t_LETTERS)
 {EL:Addr}
 QD:mg "LeadError" = some (.ref EL)
 {t_MOST_IN_LEAD:Tok}
 Oo:mg "MOST_IN_LEAD" = some (.int 120 t_MOST_IN_LEAD)
 {t_MOST_IN_NAME:Tok}
 Wk:mg "MOST_IN_NAME" = some (.int 8 t_MOST_IN_NAME)
 {t_MOST_IN_PATH:Tok}
 UU:mg "MOST_IN_PATH" = some (.int 2000 t_MOST_IN_PATH)
 {t_MOST_IN_TEXT:Tok}
 VT:mg "MOST_IN_TEXT" = some (.int 60 t_MOST_IN_TEXT)
 {t_MOST_LEADS:Tok}
 Z8:mg "MOST_LEADS" = some (.int 40 t_MOST_LEADS)
 {qj:Addr}
 Xh:mg "NoAsker" = some (.ref qj)
 {eP:Addr}
 qF:mg "NoDeed" = some (.ref eP)
 {uk:Addr}
 Pg:mg "NoRights" = some (.ref uk)
 {qp:Addr}
 OK:mg "NoThing" = some (.ref qp)
 {eR:Addr}
 HZ:mg "NoWay" = some (.ref eR)
 {Ea:Addr}
 T3:mg "RIGHTS" = some (.ref Ea)
 yV:∀ H:Hp,bC K H Ea [.str "",.str "l",.str "g",.str "w",.str "lg",.str "lw",.str "gw",.str "lgw"]
 {fz:Addr}
 Xo:mg "Ring" = some (.ref fz)
 {Dl:Addr}
 Qy:mg "SINGLE_RIGHTS" = some (.ref Dl)
 BC:∀ H:Hp,bC K H Dl [.str "l",.str "g",.str "w"]
 {kY:Addr}
 Xb:mg "Seat" = some (.ref kY)
 {aV:Addr}
 Sf:mg "Thing" = some (.ref aV)
 {aO:Addr}
 V7:mg "Things" = some (.ref aO)
 {bg:Addr}
 UO:mg "Walk" = some (.ref bg)
 FG:mg "all" = none
 g_bool:mg "bool" = none
 Gq:mg "int" = none
 gb:mg "isinstance" = none
 lG:mg "len" = none
 rp:mg "list" = none
 Cd:mg "min" = none
 BD:mg "range" = none
 zB:mg "reversed" = none
 Aa:mg "sorted" = none
 oO:mg "str" = none
 tj:MT K eR "__init__" "NoWay.__init__" LD ["self","told"]
 lx:MT K eP "__init__" "NoDeed.__init__" FE ["self","reason"]
 rO:MT K aV "__init__" "Thing.__init__" Ja ["self","number","kind","owner","mine","rest","text"]
 rE:MT K aV "rights_for" "Thing.rights_for" Jd ["self","asker"]
 rh:MT K aO "__init__" "Things.__init__" Hn ["self"]
 kf:MT K aO "add_thing" "Things.add_thing" Hd ["self","kind","owner","mine","rest","text"]
 nJ:MT K aO "add_folder" "Things.add_folder" Hr ["self","owner","mine","rest"]
 sd:MT K aO "add_file" "Things.add_file" Hx ["self","owner","text","mine","rest"]
 rA:MT K aO "add_lead" "Things.add_lead" JB ["self","owner","path"]
 qY:MT K aO "many" "Things.many" G1 ["self"]
 cD:MT K aO "at" "Things.at" F8 ["self","number"]
 nE:MT K aO "child" "Things.child" EZ ["self","folder","name"]
 rL:MT K aO "names_in" "Things.names_in" Jr ["self","number"]
 sr:MT K aO "places_of" "Things.places_of" Iu ["self","number"]
 sN:MT K aO "place_of" "Things.place_of" HU ["self","number"]
 rY:MT K aO "put_rights" "Things.put_rights" Lr ["self","number","mine","rest"]
 sV:MT K aO "put_name" "Things.put_name" GD ["self","folder","name","number"]
 tQ:MT K aO "drop_name" "Things.drop_name" Ih ["self","folder","name"]
 sR:MT K dv "__init__" "Found.__init__" GR ["self","number","way"]
 rm:MT K dQ "__init__" "Failed.__init__" GW ["self","step","reason"]
 sP:MT K fz "__init__" "Ring.__init__" yo ["self","leads"]
 rG:MT K bg "__init__" "Walk.__init__" Ah ["self","house","asker","last"]
 rZ:MT K bg "begin" "Walk.begin" zQ ["self","from_root","parts"]
 tG:MT K bg "go_on" "Walk.go_on" Ap ["self"]
 gI:MT K bg "fail" "Walk.fail" Ay ["self","reason"]
 su:MT K bg "take_step" "Walk.take_step" BK ["self","part"]
 sQ:MT K bg "go_up" "Walk.go_up" CZ ["self"]
 qI:MT K bg "go_by" "Walk.go_by" An ["self","name"]
 tw:MT K bg "meet_lead" "Walk.meet_lead" C4 ["self","number"]
 qQ:MT K bg "read_lead" "Walk.read_lead" Ci ["self","number"]
 sJ:MT K bg "true_path" "Walk.true_path" yN ["self"]
 rk:MT K kY "__init__" "Seat.__init__" Ig ["self","folder","name"]
 qO:MT K aI "__init__" "House.__init__" Gk ["self","owner"]
 mY:MT K aI "enroll" "House.enroll" IW ["self","name"]
 sT:MT K aI "askers" "House.askers" Gn ["self"]
 jM:MT K aI "root_of" "House.root_of" Hf ["self","asker"]
 rB:MT K aI "standing_of" "House.standing_of" GQ ["self","asker"]
 gG:MT K aI "kind_of" "House.kind_of" GP ["self","number"]
 iC:MT K aI "owner_of" "House.owner_of" ID ["self","number"]
 mU:MT K aI "rights_of" "House.rights_of" Hu ["self","number"]
 mK:MT K aI "many" "House.many" JQ ["self"]
 nq:MT K aI "child" "House.child" Kh ["self","number","name"]
 tM:MT K aI "names_in" "House.names_in" Ji ["self","number"]
 m9:MT K aI "text_of" "House.text_of" Hg ["self","number"]
 jQ:MT K aI "place_of" "House.place_of" Jm ["self","number"]
 rK:MT K aI "places_of" "House.places_of" KA ["self","number"]
 iJ:MT K aI "may" "House.may" K5 ["self","asker","number","right"]
 ef:MT K aI "check_asker" "House.check_asker" FR ["self","asker"]
 sx:MT K aI "check_thing" "House.check_thing" Ic ["self","number"]
 nN:MT K aI "add_asker" "House.add_asker" Jq ["self","name"]
 rH:MT K aI "put_root" "House.put_root" FC ["self","asker","folder"]
 se:MT K aI "put_standing" "House.put_standing" HQ ["self","asker","folder"]
 rQ:MT K aI "add_tree" "House.add_tree" Ik ["self","tree","owner"]
 iH:cK K dQ
 Ux:Mk K dQ rm.f
 gU:cK K dv
 Tc:Mk K dv sR.f
 aK:cK K aI
 Wa:Mk K aI qO.f
 m3:cK K fz
 UD:Mk K fz sP.f
 ny:cK K kY
 Sl:Mk K kY rk.f
 cL:cK K aV
 Zt:Mk K aV rO.f
 bV:cK K aO
 TX:Mk K aO rh.f
 aG:cK K bg
 Xe:Mk K bg rG.f
 AB:bA K dQ "reason"
 yl:bA K dQ "step"
 tY:bA K dv "number"
 GO:bA K dv "way"
 vo:bA K aI "changes"
 Bb:bA K aI "first_root"
 BG:bA K aI "folder_under"
 N6:bA K aI "holds"
 P1:bA K aI "holds_given"
 C3:bA K aI "root_over"
 o9:bA K aI "roots"
 yX:bA K aI "standings"
 eJ:bA K aI "things"
 J4:bA K aI "tree_roots"
 JS:bA K fz "leads"
 wI:bA K kY "folder"
 xV:bA K kY "name"
 zW:bA K aV "kind"
 wG:bA K aV "mine"
 vY:bA K aV "names"
 UB:bA K aV "number"
 yZ:bA K aV "owner"
 sE:bA K aV "places"
 wz:bA K aV "rest"
 Jv:bA K aV "text"
 wx:bA K aO "changes"
 pK:bA K aO "made"
 Bq:bA K bg "asked"
 rf:bA K bg "asker"
 fo:bA K bg "here"
 fm:bA K bg "house"
 Kx:bA K bg "last"
 B6:bA K bg "leads_read"
 ni:bA K bg "left"
 KU:bA K bg "looked_up"
 wZ:bA K bg "place"
 px:bA K bg "reading"
 sZ:bA K bg "root"
 zA:bA K bg "step"
 lP:bA K bg "told"
 oY:fY K eP lx.f "reason"
 vC:PySem.W.typeIn K (.ref eP)=some (.type "type")
 CB:fY K eR tj.f "told"
 Wz:PySem.W.typeIn K (.ref eR)=some (.type "type")
 {qb:Addr}
 AV:w6.code=.ref qb
 {qr:Addr}
 OH:xj.code=.ref qr
 TQ:PySem.W.excIn K qj [.type "ValueError",.type "Exception",.type "BaseException",.type "object"] "ValueError.__new__" = true
 Wt:PySem.W.excIn K uk [.type "ValueError",.type "Exception",.type "BaseException",.type "object"] "ValueError.__new__" = true
 V8:PySem.W.excIn K qp [.type "ValueError",.type "Exception",.type "BaseException",.type "object"] "ValueError.__new__" = true
 RU:PySem.W.instIn K (.ref EL) (.type "tuple")=some false
 OM:PySem.W.mroIn K EL (.type "BaseException")=some true
 Q7:PySem.W.instIn K (.ref eP) (.type "tuple")=some false
 So:PySem.W.mroIn K eP (.type "BaseException")=some true
 Vi:PySem.W.instIn K (.ref eR) (.type "tuple")=some false
 aac:PySem.W.mroIn K eR (.type "BaseException")=some true
 Zf:PySem.W.findIn K (.ref eR) "__class__" = some (some (.builtin "object.__class__"))
 T4:PySem.W.specialIn K (.builtin "object.__class__") "__get__" = some (some (.builtin "getset_descriptor.__get__"))
 YC:PySem.W.takesIn K (.builtin "object.__class__")=some true
 YM:PySem.W.mroIn K eR (.type "object")=some true
 RM:PySem.W.findIn K (.ref eR) "__getattribute__" = some (some (.builtin "BaseException.__getattribute__"))
 XB:PySem.W.findIn K (.ref eR) "__getattr__" = some none
 UR:PySem.W.mroIn K eR (.type "BaseException")=some true
 VG:PySem.W.findIn K (.ref eP) "__class__" = some (some (.builtin "object.__class__"))
 Xs:PySem.W.specialIn K (.builtin "object.__class__") "__get__" = some (some (.builtin "getset_descriptor.__get__"))
 RG:PySem.W.takesIn K (.builtin "object.__class__")=some true
 Qv:PySem.W.mroIn K eP (.type "object")=some true
 Qs:PySem.W.findIn K (.ref eP) "__getattribute__" = some (some (.builtin "BaseException.__getattribute__"))
 Wb:PySem.W.findIn K (.ref eP) "__getattr__" = some none
 YD:PySem.W.mroIn K eP (.type "BaseException")=some true
 q1:PySem.W.findIn K (.ref dv) "__class__" = some (some (.builtin "object.__class__"))
 q2:PySem.W.specialIn K (.builtin "object.__class__") "__get__" = some (some (.builtin "getset_descriptor.__get__"))
 q3:PySem.W.takesIn K (.builtin "object.__class__")=some true
 q4:PySem.W.mroIn K dv (.type "object")=some true
 q5:PySem.W.kitOne K (.ref dv) (.ref dv)=some true
 q6:PySem.W.findIn K (.ref dQ) "__class__" = some (some (.builtin "object.__class__"))
 q7:PySem.W.mroIn K dQ (.type "object")=some true
 q8:PySem.W.kitOne K (.ref dQ) (.ref dv)=some false
 q9:PySem.W.kitOne K (.ref dv) (.ref dQ)=some false
 IX:PySem.W.kitOne K (.ref dQ) (.ref dQ)=some true
 rT:PySem.W.findIn K (.ref fz) "__class__" = some (some (.builtin "object.__class__"))
 sy:PySem.W.mroIn K fz (.type "object")=some true
 AZ:PySem.W.kitOne K (.ref fz) (.ref dv)=some false
 K6:PySem.W.kitOne K (.ref fz) (.ref dQ)=some false
 QC:PySem.W.subIn K (.ref eR) (.ref eR)=some true
 PM:PySem.W.subIn K (.ref eP) (.ref eR)=some false
 QK:PySem.W.subIn K (.ref eP) (.ref eP)=some true
def pU:List Nat:=List.range' 97 26
def isNm (l:List Nat):Bool:=decide (1<=l.length) && decide (l.length<=8) && l.all (pU.contains ·)
def fb:V->Bool
 | .str z=>isNm z.cps.toList
 | _=>false
def Fl:V->Prop
 | .str z=>z.length<=1000
 | _=>True
theorem stI {t:TS} {D:Ends} {H:Hp} {σ:L2.St} (τ:L2.St) (h:t D τ H) (e:σ=τ:=by rfl):t D σ H:=e ▸ h
inductive X1 {α0:Type} (R:α0->Prop):Prop | mk:∀ x0,R x0->X1 R
inductive X2 {α0 α1:Type} (R:α0->α1->Prop):Prop | mk:∀ x0 x1,R x0 x1->X2 R
inductive X3 {α0 α1 α2:Type} (R:α0->α1->α2->Prop):Prop | mk:∀ x0 x1 x2,R x0 x1 x2->X3 R
inductive X4 {α0 α1 α2 α3:Type} (R:α0->α1->α2->α3->Prop):Prop | mk:∀ x0 x1 x2 x3,R x0 x1 x2 x3->X4 R
inductive X5 {α0 α1 α2 α3 α4:Type} (R:α0->α1->α2->α3->α4->Prop):Prop | mk:∀ x0 x1 x2 x3 x4,R x0 x1 x2 x3 x4->X5 R
inductive X6 {α0 α1 α2 α3 α4 α5:Type} (R:α0->α1->α2->α3->α4->α5->Prop):Prop | mk:∀ x0 x1 x2 x3 x4 x5,R x0 x1 x2 x3 x4 x5->X6 R
inductive X7 {α0 α1 α2 α3 α4 α5 α6:Type} (R:α0->α1->α2->α3->α4->α5->α6->Prop):Prop | mk:∀ x0 x1 x2 x3 x4 x5 x6,R x0 x1 x2 x3 x4 x5 x6->X7 R
inductive X8 {α0 α1 α2 α3 α4 α5 α6 α7:Type} (R:α0->α1->α2->α3->α4->α5->α6->α7->Prop):Prop | mk:∀ x0 x1 x2 x3 x4 x5 x6 x7,R x0 x1 x2 x3 x4 x5 x6 x7->X8 R
inductive X9 {α0 α1 α2 α3 α4 α5 α6 α7 α8:Type} (R:α0->α1->α2->α3->α4->α5->α6->α7->α8->Prop):Prop | mk:∀ x0 x1 x2 x3 x4 x5 x6 x7 x8,R x0 x1 x2 x3 x4 x5 x6 x7 x8->X9 R
inductive Lx {α0 α1 α2 α3 α4 α5 α6 α7 α8 α9:Type} (R:α0->α1->α2->α3->α4->α5->α6->α7->α8->α9->Prop):Prop | mk:∀ x0 x1 x2 x3 x4 x5 x6 x7 x8 x9,R x0 x1 x2 x3 x4 x5 x6 x7 x8 x9->Lx R
inductive Iv {α0 α1 α2 α3 α4 α5 α6 α7 α8 α9 α10:Type} (R:α0->α1->α2->α3->α4->α5->α6->α7->α8->α9->α10->Prop):Prop | mk:∀ x0 x1 x2 x3 x4 x5 x6 x7 x8 x9 x10,R x0 x1 x2 x3 x4 x5 x6 x7 x8 x9 x10->Iv R
inductive A2 (p0 p1:Prop):Prop | mk:p0->p1->A2 p0 p1
inductive A3 (p0 p1 p2:Prop):Prop | mk:p0->p1->p2->A3 p0 p1 p2
inductive A4 (p0 p1 p2 p3:Prop):Prop | mk:p0->p1->p2->p3->A4 p0 p1 p2 p3
inductive A5 (p0 p1 p2 p3 p4:Prop):Prop | mk:p0->p1->p2->p3->p4->A5 p0 p1 p2 p3 p4
inductive A6 (p0 p1 p2 p3 p4 p5:Prop):Prop | mk:p0->p1->p2->p3->p4->p5->A6 p0 p1 p2 p3 p4 p5
inductive A7 (p0 p1 p2 p3 p4 p5 p6:Prop):Prop | mk:p0->p1->p2->p3->p4->p5->p6->A7 p0 p1 p2 p3 p4 p5 p6
inductive A8 (p0 p1 p2 p3 p4 p5 p6 p7:Prop):Prop | mk:p0->p1->p2->p3->p4->p5->p6->p7->A8 p0 p1 p2 p3 p4 p5 p6 p7
inductive A9 (p0 p1 p2 p3 p4 p5 p6 p7 p8:Prop):Prop | mk:p0->p1->p2->p3->p4->p5->p6->p7->p8->A9 p0 p1 p2 p3 p4 p5 p6 p7 p8
inductive uH (p0 p1 p2 p3 p4 p5 p6 p7 p8 p9:Prop):Prop | mk:p0->p1->p2->p3->p4->p5->p6->p7->p8->p9->uH p0 p1 p2 p3 p4 p5 p6 p7 p8 p9
inductive yy (p0 p1 p2 p3 p4 p5 p6 p7 p8 p9 p10 p11 p12:Prop):Prop | mk:p0->p1->p2->p3->p4->p5->p6->p7->p8->p9->p10->p11->p12->yy p0 p1 p2 p3 p4 p5 p6 p7 p8 p9 p10 p11 p12
inductive Gg (p0 p1 p2 p3 p4 p5 p6 p7 p8 p9 p10 p11 p12 p13:Prop):Prop | mk:p0->p1->p2->p3->p4->p5->p6->p7->p8->p9->p10->p11->p12->p13->Gg p0 p1 p2 p3 p4 p5 p6 p7 p8 p9 p10 p11 p12 p13
def a1 (f:V->Hp->VK->XK->Prop):Sp:=fun vs H Q E=>match vs with
 | [x1]=>f x1 H Q E
 | _=>False
theorem a1.o {f:V->Hp->VK->XK->Prop} {vs:List V} {H:Hp} {Q:VK} {E:XK} (h:a1 f vs H Q E):∃ x1,vs=[x1]/\f x1 H Q E:=by
 unfold a1 at h;split at h
 ·exact ⟨_,rfl,h⟩
 ·exact h.elim
def a2 (f:V->V->Hp->VK->XK->Prop):Sp:=fun vs H Q E=>match vs with
 | [x1,x2]=>f x1 x2 H Q E
 | _=>False
theorem a2.o {f:V->V->Hp->VK->XK->Prop} {vs:List V} {H:Hp} {Q:VK} {E:XK} (h:a2 f vs H Q E):∃ x1 x2,vs=[x1,x2]/\f x1 x2 H Q E:=by
 unfold a2 at h;split at h
 ·exact ⟨_,_,rfl,h⟩
 ·exact h.elim
def a3 (f:V->V->V->Hp->VK->XK->Prop):Sp:=fun vs H Q E=>match vs with
 | [x1,x2,x3]=>f x1 x2 x3 H Q E
 | _=>False
theorem a3.o {f:V->V->V->Hp->VK->XK->Prop} {vs:List V} {H:Hp} {Q:VK} {E:XK} (h:a3 f vs H Q E):∃ x1 x2 x3,vs=[x1,x2,x3]/\f x1 x2 x3 H Q E:=by
 unfold a3 at h;split at h
 ·exact ⟨_,_,_,rfl,h⟩
 ·exact h.elim
def a4 (f:V->V->V->V->Hp->VK->XK->Prop):Sp:=fun vs H Q E=>match vs with
 | [x1,x2,x3,x4]=>f x1 x2 x3 x4 H Q E
 | _=>False
theorem a4.o {f:V->V->V->V->Hp->VK->XK->Prop} {vs:List V} {H:Hp} {Q:VK} {E:XK} (h:a4 f vs H Q E):∃ x1 x2 x3 x4,vs=[x1,x2,x3,x4]/\f x1 x2 x3 x4 H Q E:=by
 unfold a4 at h;split at h
 ·exact ⟨_,_,_,_,rfl,h⟩
 ·exact h.elim
def a5 (f:V->V->V->V->V->Hp->VK->XK->Prop):Sp:=fun vs H Q E=>match vs with
 | [x1,x2,x3,x4,x5]=>f x1 x2 x3 x4 x5 H Q E
 | _=>False
theorem a5.o {f:V->V->V->V->V->Hp->VK->XK->Prop} {vs:List V} {H:Hp} {Q:VK} {E:XK} (h:a5 f vs H Q E):∃ x1 x2 x3 x4 x5,vs=[x1,x2,x3,x4,x5]/\f x1 x2 x3 x4 x5 H Q E:=by
 unfold a5 at h;split at h
 ·exact ⟨_,_,_,_,_,rfl,h⟩
 ·exact h.elim
def a6 (f:V->V->V->V->V->V->Hp->VK->XK->Prop):Sp:=fun vs H Q E=>match vs with
 | [x1,x2,x3,x4,x5,x6]=>f x1 x2 x3 x4 x5 x6 H Q E
 | _=>False
theorem a6.o {f:V->V->V->V->V->V->Hp->VK->XK->Prop} {vs:List V} {H:Hp} {Q:VK} {E:XK} (h:a6 f vs H Q E):∃ x1 x2 x3 x4 x5 x6,vs=[x1,x2,x3,x4,x5,x6]/\f x1 x2 x3 x4 x5 x6 H Q E:=by
 unfold a6 at h;split at h
 ·exact ⟨_,_,_,_,_,_,rfl,h⟩
 ·exact h.elim
def a7 (f:V->V->V->V->V->V->V->Hp->VK->XK->Prop):Sp:=fun vs H Q E=>match vs with
 | [x1,x2,x3,x4,x5,x6,x7]=>f x1 x2 x3 x4 x5 x6 x7 H Q E
 | _=>False
theorem a7.o {f:V->V->V->V->V->V->V->Hp->VK->XK->Prop} {vs:List V} {H:Hp} {Q:VK} {E:XK} (h:a7 f vs H Q E):∃ x1 x2 x3 x4 x5 x6 x7,vs=[x1,x2,x3,x4,x5,x6,x7]/\f x1 x2 x3 x4 x5 x6 x7 H Q E:=by
 unfold a7 at h;split at h
 ·exact ⟨_,_,_,_,_,_,_,rfl,h⟩
 ·exact h.elim
def vR (v:V) (k:Addr->Prop):Prop:=match v with
 | .ref x=>k x
 | _=>False
theorem vR.o {v:V} {k:Addr->Prop} (h:vR v k):∃ x,v=.ref x/\k x:=by
 unfold vR at h;split at h
 ·exact ⟨_,rfl,h⟩
 ·exact h.elim
def vS (v:V) (k:Str->Prop):Prop:=match v with
 | .str x=>k x
 | _=>False
theorem vS.o {v:V} {k:Str->Prop} (h:vS v k):∃ x,v=.str x/\k x:=by
 unfold vS at h;split at h
 ·exact ⟨_,rfl,h⟩
 ·exact h.elim
def vI (v:V) (k:Int->Prop):Prop:=match v with
 | .int x=>k x
 | _=>False
theorem vI.o {v:V} {k:Int->Prop} (h:vI v k):∃ x,v=.int x/\k x:=by
 unfold vI at h;split at h
 ·exact ⟨_,rfl,h⟩
 ·exact h.elim
def vB (v:V) (k:Bool->Prop):Prop:=match v with
 | .bl x=>k x
 | _=>False
theorem vB.o {v:V} {k:Bool->Prop} (h:vB v k):∃ x,v=.bl x/\k x:=by
 unfold vB at h;split at h
 ·exact ⟨_,rfl,h⟩
 ·exact h.elim
def Jp (f:Int->Hp->VK->XK->Prop):Sp:=a1 fun q1 H Q E=>vI q1 fun x1=>f x1 H Q E
@[elab_as_elim] theorem Fx {f:Int->Hp->VK->XK->Prop} {vs:List V} {H:Hp} {Q:VK} {E:XK} {G:List V->Prop} (h:Jp f vs H Q E) (k:∀ x1,f x1 H Q E->G [.int x1]):G vs:=by
 obtain ⟨_,rfl,h⟩:=a1.o h;obtain ⟨x1,rfl,h⟩:=vI.o h;exact k x1 h
def FH (f:Int->Int->Hp->VK->XK->Prop):Sp:=a2 fun q1 q2 H Q E=>vI q1 fun x1=>vI q2 fun x2=>f x1 x2 H Q E
@[elab_as_elim] theorem KP {f:Int->Int->Hp->VK->XK->Prop} {vs:List V} {H:Hp} {Q:VK} {E:XK} {G:List V->Prop} (h:FH f vs H Q E) (k:∀ x1 x2,f x1 x2 H Q E->G [.int x1,.int x2]):G vs:=by
 obtain ⟨_,_,rfl,h⟩:=a2.o h;obtain ⟨x1,rfl,h⟩:=vI.o h;obtain ⟨x2,rfl,h⟩:=vI.o h;exact k x1 x2 h
def fZ (f:Addr->Hp->VK->XK->Prop):Sp:=a1 fun q1 H Q E=>vR q1 fun x1=>f x1 H Q E
@[elab_as_elim] theorem cI {f:Addr->Hp->VK->XK->Prop} {vs:List V} {H:Hp} {Q:VK} {E:XK} {G:List V->Prop} (h:fZ f vs H Q E) (k:∀ x1,f x1 H Q E->G [.ref x1]):G vs:=by
 obtain ⟨_,rfl,h⟩:=a1.o h;obtain ⟨x1,rfl,h⟩:=vR.o h;exact k x1 h
def Hj (f:Addr->Bool->Addr->Hp->VK->XK->Prop):Sp:=a3 fun q1 q2 q3 H Q E=>vR q1 fun x1=>vB q2 fun x2=>vR q3 fun x3=>f x1 x2 x3 H Q E
@[elab_as_elim] theorem FV {f:Addr->Bool->Addr->Hp->VK->XK->Prop} {vs:List V} {H:Hp} {Q:VK} {E:XK} {G:List V->Prop} (h:Hj f vs H Q E) (k:∀ x1 x2 x3,f x1 x2 x3 H Q E->G [.ref x1,.bl x2,.ref x3]):G vs:=by
 obtain ⟨_,_,_,rfl,h⟩:=a3.o h;obtain ⟨x1,rfl,h⟩:=vR.o h;obtain ⟨x2,rfl,h⟩:=vB.o h;obtain ⟨x3,rfl,h⟩:=vR.o h;exact k x1 x2 x3 h
def jg (f:Addr->Int->Hp->VK->XK->Prop):Sp:=a2 fun q1 q2 H Q E=>vR q1 fun x1=>vI q2 fun x2=>f x1 x2 H Q E
@[elab_as_elim] theorem bW {f:Addr->Int->Hp->VK->XK->Prop} {vs:List V} {H:Hp} {Q:VK} {E:XK} {G:List V->Prop} (h:jg f vs H Q E) (k:∀ x1 x2,f x1 x2 H Q E->G [.ref x1,.int x2]):G vs:=by
 obtain ⟨_,_,rfl,h⟩:=a2.o h;obtain ⟨x1,rfl,h⟩:=vR.o h;obtain ⟨x2,rfl,h⟩:=vI.o h;exact k x1 x2 h
def vq (f:Addr->Int->Str->Hp->VK->XK->Prop):Sp:=a3 fun q1 q2 q3 H Q E=>vR q1 fun x1=>vI q2 fun x2=>vS q3 fun x3=>f x1 x2 x3 H Q E
@[elab_as_elim] theorem pP {f:Addr->Int->Str->Hp->VK->XK->Prop} {vs:List V} {H:Hp} {Q:VK} {E:XK} {G:List V->Prop} (h:vq f vs H Q E) (k:∀ x1 x2 x3,f x1 x2 x3 H Q E->G [.ref x1,.int x2,.str x3]):G vs:=by
 obtain ⟨_,_,_,rfl,h⟩:=a3.o h;obtain ⟨x1,rfl,h⟩:=vR.o h;obtain ⟨x2,rfl,h⟩:=vI.o h;obtain ⟨x3,rfl,h⟩:=vS.o h;exact k x1 x2 x3 h
def Ks (f:Addr->Int->Str->Int->Hp->VK->XK->Prop):Sp:=a4 fun q1 q2 q3 q4 H Q E=>vR q1 fun x1=>vI q2 fun x2=>vS q3 fun x3=>vI q4 fun x4=>f x1 x2 x3 x4 H Q E
@[elab_as_elim] theorem Km {f:Addr->Int->Str->Int->Hp->VK->XK->Prop} {vs:List V} {H:Hp} {Q:VK} {E:XK} {G:List V->Prop} (h:Ks f vs H Q E) (k:∀ x1 x2 x3 x4,f x1 x2 x3 x4 H Q E->G [.ref x1,.int x2,.str x3,.int x4]):G vs:=by
 obtain ⟨_,_,_,_,rfl,h⟩:=a4.o h;obtain ⟨x1,rfl,h⟩:=vR.o h;obtain ⟨x2,rfl,h⟩:=vI.o h;obtain ⟨x3,rfl,h⟩:=vS.o h;obtain ⟨x4,rfl,h⟩:=vI.o h;exact k x1 x2 x3 x4 h
def Gs (f:Addr->Int->Str->Str->Hp->VK->XK->Prop):Sp:=a4 fun q1 q2 q3 q4 H Q E=>vR q1 fun x1=>vI q2 fun x2=>vS q3 fun x3=>vS q4 fun x4=>f x1 x2 x3 x4 H Q E
@[elab_as_elim] theorem G3 {f:Addr->Int->Str->Str->Hp->VK->XK->Prop} {vs:List V} {H:Hp} {Q:VK} {E:XK} {G:List V->Prop} (h:Gs f vs H Q E) (k:∀ x1 x2 x3 x4,f x1 x2 x3 x4 H Q E->G [.ref x1,.int x2,.str x3,.str x4]):G vs:=by
 obtain ⟨_,_,_,_,rfl,h⟩:=a4.o h;obtain ⟨x1,rfl,h⟩:=vR.o h;obtain ⟨x2,rfl,h⟩:=vI.o h;obtain ⟨x3,rfl,h⟩:=vS.o h;obtain ⟨x4,rfl,h⟩:=vS.o h;exact k x1 x2 x3 x4 h
def tF (f:Addr->Addr->Hp->VK->XK->Prop):Sp:=a2 fun q1 q2 H Q E=>vR q1 fun x1=>vR q2 fun x2=>f x1 x2 H Q E
@[elab_as_elim] theorem lF {f:Addr->Addr->Hp->VK->XK->Prop} {vs:List V} {H:Hp} {Q:VK} {E:XK} {G:List V->Prop} (h:tF f vs H Q E) (k:∀ x1 x2,f x1 x2 H Q E->G [.ref x1,.ref x2]):G vs:=by
 obtain ⟨_,_,rfl,h⟩:=a2.o h;obtain ⟨x1,rfl,h⟩:=vR.o h;obtain ⟨x2,rfl,h⟩:=vR.o h;exact k x1 x2 h
def HP (f:Addr->Addr->Int->Hp->VK->XK->Prop):Sp:=a3 fun q1 q2 q3 H Q E=>vR q1 fun x1=>vR q2 fun x2=>vI q3 fun x3=>f x1 x2 x3 H Q E
@[elab_as_elim] theorem HR {f:Addr->Addr->Int->Hp->VK->XK->Prop} {vs:List V} {H:Hp} {Q:VK} {E:XK} {G:List V->Prop} (h:HP f vs H Q E) (k:∀ x1 x2 x3,f x1 x2 x3 H Q E->G [.ref x1,.ref x2,.int x3]):G vs:=by
 obtain ⟨_,_,_,rfl,h⟩:=a3.o h;obtain ⟨x1,rfl,h⟩:=vR.o h;obtain ⟨x2,rfl,h⟩:=vR.o h;obtain ⟨x3,rfl,h⟩:=vI.o h;exact k x1 x2 x3 h
def K9 (f:Addr->Addr->Str->Bool->Hp->VK->XK->Prop):Sp:=a4 fun q1 q2 q3 q4 H Q E=>vR q1 fun x1=>vR q2 fun x2=>vS q3 fun x3=>vB q4 fun x4=>f x1 x2 x3 x4 H Q E
@[elab_as_elim] theorem HC {f:Addr->Addr->Str->Bool->Hp->VK->XK->Prop} {vs:List V} {H:Hp} {Q:VK} {E:XK} {G:List V->Prop} (h:K9 f vs H Q E) (k:∀ x1 x2 x3 x4,f x1 x2 x3 x4 H Q E->G [.ref x1,.ref x2,.str x3,.bl x4]):G vs:=by
 obtain ⟨_,_,_,_,rfl,h⟩:=a4.o h;obtain ⟨x1,rfl,h⟩:=vR.o h;obtain ⟨x2,rfl,h⟩:=vR.o h;obtain ⟨x3,rfl,h⟩:=vS.o h;obtain ⟨x4,rfl,h⟩:=vB.o h;exact k x1 x2 x3 x4 h
def jl (f:Addr->Str->Hp->VK->XK->Prop):Sp:=a2 fun q1 q2 H Q E=>vR q1 fun x1=>vS q2 fun x2=>f x1 x2 H Q E
@[elab_as_elim] theorem eL {f:Addr->Str->Hp->VK->XK->Prop} {vs:List V} {H:Hp} {Q:VK} {E:XK} {G:List V->Prop} (h:jl f vs H Q E) (k:∀ x1 x2,f x1 x2 H Q E->G [.ref x1,.str x2]):G vs:=by
 obtain ⟨_,_,rfl,h⟩:=a2.o h;obtain ⟨x1,rfl,h⟩:=vR.o h;obtain ⟨x2,rfl,h⟩:=vS.o h;exact k x1 x2 h
def Kq (f:Addr->Str->Bool->Addr->Bool->Hp->VK->XK->Prop):Sp:=a5 fun q1 q2 q3 q4 q5 H Q E=>vR q1 fun x1=>vS q2 fun x2=>vB q3 fun x3=>vR q4 fun x4=>vB q5 fun x5=>f x1 x2 x3 x4 x5 H Q E
@[elab_as_elim] theorem E6 {f:Addr->Str->Bool->Addr->Bool->Hp->VK->XK->Prop} {vs:List V} {H:Hp} {Q:VK} {E:XK} {G:List V->Prop} (h:Kq f vs H Q E) (k:∀ x1 x2 x3 x4 x5,f x1 x2 x3 x4 x5 H Q E->G [.ref x1,.str x2,.bl x3,.ref x4,.bl x5]):G vs:=by
 obtain ⟨_,_,_,_,_,rfl,h⟩:=a5.o h;obtain ⟨x1,rfl,h⟩:=vR.o h;obtain ⟨x2,rfl,h⟩:=vS.o h;obtain ⟨x3,rfl,h⟩:=vB.o h;obtain ⟨x4,rfl,h⟩:=vR.o h;obtain ⟨x5,rfl,h⟩:=vB.o h;exact k x1 x2 x3 x4 x5 h
def qZ (f:Addr->Str->Int->Hp->VK->XK->Prop):Sp:=a3 fun q1 q2 q3 H Q E=>vR q1 fun x1=>vS q2 fun x2=>vI q3 fun x3=>f x1 x2 x3 H Q E
@[elab_as_elim] theorem jb {f:Addr->Str->Int->Hp->VK->XK->Prop} {vs:List V} {H:Hp} {Q:VK} {E:XK} {G:List V->Prop} (h:qZ f vs H Q E) (k:∀ x1 x2 x3,f x1 x2 x3 H Q E->G [.ref x1,.str x2,.int x3]):G vs:=by
 obtain ⟨_,_,_,rfl,h⟩:=a3.o h;obtain ⟨x1,rfl,h⟩:=vR.o h;obtain ⟨x2,rfl,h⟩:=vS.o h;obtain ⟨x3,rfl,h⟩:=vI.o h;exact k x1 x2 x3 h
def HE (f:Addr->Str->Int->Str->Str->Hp->VK->XK->Prop):Sp:=a5 fun q1 q2 q3 q4 q5 H Q E=>vR q1 fun x1=>vS q2 fun x2=>vI q3 fun x3=>vS q4 fun x4=>vS q5 fun x5=>f x1 x2 x3 x4 x5 H Q E
@[elab_as_elim] theorem G7 {f:Addr->Str->Int->Str->Str->Hp->VK->XK->Prop} {vs:List V} {H:Hp} {Q:VK} {E:XK} {G:List V->Prop} (h:HE f vs H Q E) (k:∀ x1 x2 x3 x4 x5,f x1 x2 x3 x4 x5 H Q E->G [.ref x1,.str x2,.int x3,.str x4,.str x5]):G vs:=by
 obtain ⟨_,_,_,_,_,rfl,h⟩:=a5.o h;obtain ⟨x1,rfl,h⟩:=vR.o h;obtain ⟨x2,rfl,h⟩:=vS.o h;obtain ⟨x3,rfl,h⟩:=vI.o h;obtain ⟨x4,rfl,h⟩:=vS.o h;obtain ⟨x5,rfl,h⟩:=vS.o h;exact k x1 x2 x3 x4 x5 h
def o6 (f:Addr->Str->Str->Hp->VK->XK->Prop):Sp:=a3 fun q1 q2 q3 H Q E=>vR q1 fun x1=>vS q2 fun x2=>vS q3 fun x3=>f x1 x2 x3 H Q E
@[elab_as_elim] theorem jf {f:Addr->Str->Str->Hp->VK->XK->Prop} {vs:List V} {H:Hp} {Q:VK} {E:XK} {G:List V->Prop} (h:o6 f vs H Q E) (k:∀ x1 x2 x3,f x1 x2 x3 H Q E->G [.ref x1,.str x2,.str x3]):G vs:=by
 obtain ⟨_,_,_,rfl,h⟩:=a3.o h;obtain ⟨x1,rfl,h⟩:=vR.o h;obtain ⟨x2,rfl,h⟩:=vS.o h;obtain ⟨x3,rfl,h⟩:=vS.o h;exact k x1 x2 x3 h
def vG (f:Addr->Str->Str->Bool->Hp->VK->XK->Prop):Sp:=a4 fun q1 q2 q3 q4 H Q E=>vR q1 fun x1=>vS q2 fun x2=>vS q3 fun x3=>vB q4 fun x4=>f x1 x2 x3 x4 H Q E
@[elab_as_elim] theorem pZ {f:Addr->Str->Str->Bool->Hp->VK->XK->Prop} {vs:List V} {H:Hp} {Q:VK} {E:XK} {G:List V->Prop} (h:vG f vs H Q E) (k:∀ x1 x2 x3 x4,f x1 x2 x3 x4 H Q E->G [.ref x1,.str x2,.str x3,.bl x4]):G vs:=by
 obtain ⟨_,_,_,_,rfl,h⟩:=a4.o h;obtain ⟨x1,rfl,h⟩:=vR.o h;obtain ⟨x2,rfl,h⟩:=vS.o h;obtain ⟨x3,rfl,h⟩:=vS.o h;obtain ⟨x4,rfl,h⟩:=vB.o h;exact k x1 x2 x3 x4 h
def HY (f:Addr->Str->Str->Str->Hp->VK->XK->Prop):Sp:=a4 fun q1 q2 q3 q4 H Q E=>vR q1 fun x1=>vS q2 fun x2=>vS q3 fun x3=>vS q4 fun x4=>f x1 x2 x3 x4 H Q E
@[elab_as_elim] theorem JT {f:Addr->Str->Str->Str->Hp->VK->XK->Prop} {vs:List V} {H:Hp} {Q:VK} {E:XK} {G:List V->Prop} (h:HY f vs H Q E) (k:∀ x1 x2 x3 x4,f x1 x2 x3 x4 H Q E->G [.ref x1,.str x2,.str x3,.str x4]):G vs:=by
 obtain ⟨_,_,_,_,rfl,h⟩:=a4.o h;obtain ⟨x1,rfl,h⟩:=vR.o h;obtain ⟨x2,rfl,h⟩:=vS.o h;obtain ⟨x3,rfl,h⟩:=vS.o h;obtain ⟨x4,rfl,h⟩:=vS.o h;exact k x1 x2 x3 x4 h
def wm (f:Addr->Str->Str->Str->Str->Hp->VK->XK->Prop):Sp:=a5 fun q1 q2 q3 q4 q5 H Q E=>vR q1 fun x1=>vS q2 fun x2=>vS q3 fun x3=>vS q4 fun x4=>vS q5 fun x5=>f x1 x2 x3 x4 x5 H Q E
@[elab_as_elim] theorem o8 {f:Addr->Str->Str->Str->Str->Hp->VK->XK->Prop} {vs:List V} {H:Hp} {Q:VK} {E:XK} {G:List V->Prop} (h:wm f vs H Q E) (k:∀ x1 x2 x3 x4 x5,f x1 x2 x3 x4 x5 H Q E->G [.ref x1,.str x2,.str x3,.str x4,.str x5]):G vs:=by
 obtain ⟨_,_,_,_,_,rfl,h⟩:=a5.o h;obtain ⟨x1,rfl,h⟩:=vR.o h;obtain ⟨x2,rfl,h⟩:=vS.o h;obtain ⟨x3,rfl,h⟩:=vS.o h;obtain ⟨x4,rfl,h⟩:=vS.o h;obtain ⟨x5,rfl,h⟩:=vS.o h;exact k x1 x2 x3 x4 x5 h
def JF (f:Addr->Str->Str->Str->Str->Str->Hp->VK->XK->Prop):Sp:=a6 fun q1 q2 q3 q4 q5 q6 H Q E=>vR q1 fun x1=>vS q2 fun x2=>vS q3 fun x3=>vS q4 fun x4=>vS q5 fun x5=>vS q6 fun x6=>f x1 x2 x3 x4 x5 x6 H Q E
@[elab_as_elim] theorem Kw {f:Addr->Str->Str->Str->Str->Str->Hp->VK->XK->Prop} {vs:List V} {H:Hp} {Q:VK} {E:XK} {G:List V->Prop} (h:JF f vs H Q E) (k:∀ x1 x2 x3 x4 x5 x6,f x1 x2 x3 x4 x5 x6 H Q E->G [.ref x1,.str x2,.str x3,.str x4,.str x5,.str x6]):G vs:=by
 obtain ⟨_,_,_,_,_,_,rfl,h⟩:=a6.o h;obtain ⟨x1,rfl,h⟩:=vR.o h;obtain ⟨x2,rfl,h⟩:=vS.o h;obtain ⟨x3,rfl,h⟩:=vS.o h;obtain ⟨x4,rfl,h⟩:=vS.o h;obtain ⟨x5,rfl,h⟩:=vS.o h;obtain ⟨x6,rfl,h⟩:=vS.o h;exact k x1 x2 x3 x4 x5 x6 h
def Bp (f:Addr->V->Hp->VK->XK->Prop):Sp:=a2 fun q1 x2 H Q E=>vR q1 fun x1=>f x1 x2 H Q E
@[elab_as_elim] theorem wC {f:Addr->V->Hp->VK->XK->Prop} {vs:List V} {H:Hp} {Q:VK} {E:XK} {G:List V->Prop} (h:Bp f vs H Q E) (k:∀ x1 x2,f x1 x2 H Q E->G [.ref x1,x2]):G vs:=by
 obtain ⟨_,x2,rfl,h⟩:=a2.o h;obtain ⟨x1,rfl,h⟩:=vR.o h;exact k x1 x2 h
def BY (f:Addr->V->V->Hp->VK->XK->Prop):Sp:=a3 fun q1 x2 x3 H Q E=>vR q1 fun x1=>f x1 x2 x3 H Q E
@[elab_as_elim] theorem l6 {f:Addr->V->V->Hp->VK->XK->Prop} {vs:List V} {H:Hp} {Q:VK} {E:XK} {G:List V->Prop} (h:BY f vs H Q E) (k:∀ x1 x2 x3,f x1 x2 x3 H Q E->G [.ref x1,x2,x3]):G vs:=by
 obtain ⟨_,x2,x3,rfl,h⟩:=a3.o h;obtain ⟨x1,rfl,h⟩:=vR.o h;exact k x1 x2 x3 h
def AD (f:Addr->V->V->V->Hp->VK->XK->Prop):Sp:=a4 fun q1 x2 x3 x4 H Q E=>vR q1 fun x1=>f x1 x2 x3 x4 H Q E
@[elab_as_elim] theorem wX {f:Addr->V->V->V->Hp->VK->XK->Prop} {vs:List V} {H:Hp} {Q:VK} {E:XK} {G:List V->Prop} (h:AD f vs H Q E) (k:∀ x1 x2 x3 x4,f x1 x2 x3 x4 H Q E->G [.ref x1,x2,x3,x4]):G vs:=by
 obtain ⟨_,x2,x3,x4,rfl,h⟩:=a4.o h;obtain ⟨x1,rfl,h⟩:=vR.o h;exact k x1 x2 x3 x4 h
def Lq (f:Addr->V->V->V->V->Hp->VK->XK->Prop):Sp:=a5 fun q1 x2 x3 x4 x5 H Q E=>vR q1 fun x1=>f x1 x2 x3 x4 x5 H Q E
@[elab_as_elim] theorem JC {f:Addr->V->V->V->V->Hp->VK->XK->Prop} {vs:List V} {H:Hp} {Q:VK} {E:XK} {G:List V->Prop} (h:Lq f vs H Q E) (k:∀ x1 x2 x3 x4 x5,f x1 x2 x3 x4 x5 H Q E->G [.ref x1,x2,x3,x4,x5]):G vs:=by
 obtain ⟨_,x2,x3,x4,x5,rfl,h⟩:=a5.o h;obtain ⟨x1,rfl,h⟩:=vR.o h;exact k x1 x2 x3 x4 x5 h
def IY (f:Addr->V->V->V->V->V->Hp->VK->XK->Prop):Sp:=a6 fun q1 x2 x3 x4 x5 x6 H Q E=>vR q1 fun x1=>f x1 x2 x3 x4 x5 x6 H Q E
@[elab_as_elim] theorem IT {f:Addr->V->V->V->V->V->Hp->VK->XK->Prop} {vs:List V} {H:Hp} {Q:VK} {E:XK} {G:List V->Prop} (h:IY f vs H Q E) (k:∀ x1 x2 x3 x4 x5 x6,f x1 x2 x3 x4 x5 x6 H Q E->G [.ref x1,x2,x3,x4,x5,x6]):G vs:=by
 obtain ⟨_,x2,x3,x4,x5,x6,rfl,h⟩:=a6.o h;obtain ⟨x1,rfl,h⟩:=vR.o h;exact k x1 x2 x3 x4 x5 x6 h
def KS (f:Addr->V->V->V->V->V->V->Hp->VK->XK->Prop):Sp:=a7 fun q1 x2 x3 x4 x5 x6 x7 H Q E=>vR q1 fun x1=>f x1 x2 x3 x4 x5 x6 x7 H Q E
@[elab_as_elim] theorem Jt {f:Addr->V->V->V->V->V->V->Hp->VK->XK->Prop} {vs:List V} {H:Hp} {Q:VK} {E:XK} {G:List V->Prop} (h:KS f vs H Q E) (k:∀ x1 x2 x3 x4 x5 x6 x7,f x1 x2 x3 x4 x5 x6 x7 H Q E->G [.ref x1,x2,x3,x4,x5,x6,x7]):G vs:=by
 obtain ⟨_,x2,x3,x4,x5,x6,x7,rfl,h⟩:=a7.o h;obtain ⟨x1,rfl,h⟩:=vR.o h;exact k x1 x2 x3 x4 x5 x6 x7 h
def jX (f:Str->Hp->VK->XK->Prop):Sp:=a1 fun q1 H Q E=>vS q1 fun x1=>f x1 H Q E
@[elab_as_elim] theorem fj {f:Str->Hp->VK->XK->Prop} {vs:List V} {H:Hp} {Q:VK} {E:XK} {G:List V->Prop} (h:jX f vs H Q E) (k:∀ x1,f x1 H Q E->G [.str x1]):G vs:=by
 obtain ⟨_,rfl,h⟩:=a1.o h;obtain ⟨x1,rfl,h⟩:=vS.o h;exact k x1 h
def sI (f:V->Hp->VK->XK->Prop):Sp:=a1 fun x1 H Q E=>f x1 H Q E
@[elab_as_elim] theorem lX {f:V->Hp->VK->XK->Prop} {vs:List V} {H:Hp} {Q:VK} {E:XK} {G:List V->Prop} (h:sI f vs H Q E) (k:∀ x1,f x1 H Q E->G [x1]):G vs:=by
 obtain ⟨x1,rfl,h⟩:=a1.o h;exact k x1 h
def PZ (K:PySem.W.Frag):Sp:=sI fun x H Q _=>A3 (∃ T,clsName H x=some T) (Fl x) (∀ H',ao H H'->Q (.bl (fb x)) H')
theorem Ly {nm:List Nat} (h:isNm nm=true):1<=nm.length/\nm.length<=8/\nm.all (pU.contains ·)=true:=by
 unfold isNm at h;simp only [Bool.and_eq_true,decide_eq_true_eq] at h;exact ⟨h.1.1,h.1.2,h.2⟩
theorem Rg:Str.ofString "abcdefghijklmnopqrstuvwxyz" = Tx.S pU:=by decide +kernel
def cB (l:List Nat):Bool:=decide (l=[46]) || decide (l=[46,46]) || isNm l
theorem o7 {l:List Nat} (h:cB l=true):47 ∉ l/\l≠[]/\l.length<=8:=by
 unfold cB at h;simp only [Bool.or_eq_true,decide_eq_true_eq] at h;rcases h with (rfl | rfl) | h
 ·exact ⟨by decide,by decide,by decide⟩
 ·exact ⟨by decide,by decide,by decide⟩
 ·obtain ⟨h1,h2,h3⟩:=Ly h;refine ⟨fun m=>?_,fun e=>by rw [e] at h1; simp at h1,h2⟩;have:=List.all_eq_true.mp h3 47 m;exact absurd this (by decide +kernel)
abbrev PV (ps:List (List Nat)):List V:=(ps.map Tx.S).map V.str
def told (ps:List (List Nat)) (t:List Nat):List (List Nat):=if ps≠[]/\t.getLast?=some 47 then ps++[[46]] else ps
def dC (t:List Nat):Bool:=decide (t.head?=some 47)
theorem y2 {ps:List (List Nat)} {t:List Nat} (h:ps.all cB=true):(told ps t).all cB=true:=by
 unfold told;split
 ·rw [List.all_append,h]; rfl
 ·exact h
theorem Bw {ps:List (List Nat)} {t:List Nat}:(told ps t).length<=ps.length+1:=by
 unfold told;split
 ·rw [List.length_append]; exact Nat.le_refl _
 ·omega
def W6 (K:PySem.W.Frag):Sp:=jX fun z H Q _=>X1 fun (w:List Nat)=>A3 (z=Tx.S w) (w.length<=1000) (∀ H',ao H H'->Q (.bl (cB w)) H')
def N4 (K:PySem.W.Frag):Sp:=jX fun z H Q _=>X1 fun (t:List Nat)=>A5 (z=Tx.S t) (1<=t.length) (t.length<=2000) ((Tx.words 47 t).all cB=true) (∀ (H':Hp) (l p:Addr),ao H H'->H l=none->H' l=some (.lst (PV (told (Tx.words 47 t) t)))->H' p=some (.tup [.bl (dC t),.ref l])->Q (.ref p) H')
structure Pth (ps:List (List Nat)) (t:List Nat):Prop where
 words:Tx.words 47 t=ps
 one:1<=t.length
 most:t.length<=150
def r6 (n kd ow mi re tx nm pl:V):List (Str×V):=[("number",n),("kind",kd),("owner",ow),("mine",mi),("rest",re),("text",tx),("names",nm),("places",pl)]
def sF (ml:Addr) (c:Int):List (Str×V):=[("made",.ref ml),("changes",.int c)]
structure Th where
 kd:Str
 ow:Str
 mi:Str
 re:Str
 tx:Str
 aM:List (Str×Nat)
 bP:List (Nat×Str)
structure Hs where
 ts:List Th
 ro:List (Str×Nat)
 st:List (Str×Nat)
 tr:List (Str×Nat)
 ov:List (Nat×Nat)
 un:List (Nat×Nat)
structure Ta where
 th:Addr
 c8:Addr
 nm:Addr
 pl:Addr
structure Ad where
 a:Addr
 dx:Addr
 t:Addr
 dt:Addr
 ml:Addr
 ro:Addr
 st:Addr
 tr:Addr
 ov:Addr
 un:Addr
 ho:Addr
def qP (c:Int) (A:Ad):List (Str×V):=[("things",.ref A.t),("changes",.int c),("roots",.ref A.ro),("standings",.ref A.st),("tree_roots",.ref A.tr),("root_over",.ref A.ov),("folder_under",.ref A.un),("holds",.ref A.ho),("holds_given",.int 0),("first_root",.int 0)]
theorem Qd {f:Str} {c c':Int} {A:Ad} (h:f ≠ "changes"):(qP c A).lookup f=(qP c' A).lookup f:=by
 unfold qP;simp only [List.lookup];have:(f == ("changes" : Str))=false:=beq_eq_false_iff_ne.mpr h;rw [this]
def sD (l:List (Str×Nat)):List (Key×V):=l.map fun e=>(.inr e.1,.int e.2)
def nD (l:List (Nat×Nat)):List (Key×V):=l.map fun e=>(.inl (e.1:Int),.int e.2)
def pD (l:List (Nat×Str)):List (List Key×V):=l.map fun e=>([.inl (e.1:Int),.inr e.2],.bl true)
structure i9 (CT:Addr) (H:Hp) (a:Ta) (i:Nat) (t:Th):Prop where
 o:∃ fs,H a.th=some (.ins CT a.c8 fs)/\fs.length<=40/\cW fs (r6 (.int i) (.str t.kd) (.str t.ow) (.str t.mi) (.str t.re) (.str t.tx) (.ref a.nm) (.ref a.pl))
 nm:H a.nm=some (.dK (sD t.aM))
 pl:H a.pl=some (.dT (pD t.bP))
def Ad.w (A:Ad):List Addr:=[A.a,A.t,A.ml,A.ro,A.st,A.tr,A.ov,A.un]
def Ta.l (a:Ta):List Addr:=[a.th,a.nm,a.pl]
structure aJ (CH CS CT:Addr) (H:Hp) (A:Ad) (L:List Ta) (M:Hs):Prop where
 h:∃ fs c,H A.a=some (.ins CH A.dx fs)/\fs.length<=40/\cW fs (qP c A)
 t:∃ fs c,H A.t=some (.ins CS A.dt fs)/\fs.length<=40/\cW fs (sF A.ml c)
 ml:H A.ml=some (.lst (L.map fun a=>.ref a.th))
 len:L.length=M.ts.length
 th:∀ i t,M.ts[i]?=some t->∃ a,L[i]?=some a/\i9 CT H a i t
 ro:H A.ro=some (.dK (sD M.ro))
 st:H A.st=some (.dK (sD M.st))
 tr:H A.tr=some (.dK (sD M.tr))
 ov:H A.ov=some (.dK (nD M.ov))
 un:H A.un=some (.dK (nD M.un))
 nd:(A.w++L.flatMap Ta.l).Nodup
def Kp (W:List Addr) (H H':Hp):Prop:=∀ b o,b ∉ W->H b=some o->H' b=some o
theorem Kp.trans {W:List Addr} {H H1 H2:Hp} (a:Kp W H H1) (b:Kp W H1 H2):Kp W H H2:=fun c o h e=>b c o h (a c o h e)
theorem Kp.of {W:List Addr} {H H':Hp} (s:ao H H'):Kp W H H':=fun b o _ e=>s b o e
theorem bR {H:Hp} {a b:Addr} {o u:HO} (h1:H a=some o) (h2:H b=some u) (h:o≠u):a≠b:=fun e=>h (by rw [e,h2] at h1; cases h1; rfl)
theorem aH {H:Hp} {a b:Addr} {o:HO} (h1:H a=some o) (h2:H b=none):a≠b:=fun e=>by rw [e,h2] at h1; cases h1
theorem BM {H:Hp} {x d:Addr} {o O oo:HO} (hn:H d=none) (hx:H x=some oo):upd (upd H d o) x O x=some O/\upd (upd H d o) x O d=some o/\(∀ b u,b≠x->H b=some u->upd (upd H d o) x O b=some u)/\d≠x:=by
 have n:=aH hx hn;refine ⟨ax,by rw [ag (Ne.symm n),ax],fun b u hb e=>?_,Ne.symm n⟩;rw [ag hb,ag (aH e hn)]; exact e
section
variable {CH CS CT:Addr} {H H':Hp} {A:Ad} {L:List Ta} {M:Hs}
theorem i9.keep {W:List Addr} {a:Ta} {i:Nat} {t:Th} (h:i9 CT H a i t) (k:Kp W H H') (hw:∀ b∈a.l,b ∉ W):i9 CT H' a i t where
 o:=let ⟨fs,e,r⟩:=h.o; ⟨fs,k _ _ (hw _ (by simp [Ta.l])) e,r⟩
 nm:=k _ _ (hw _ (by simp [Ta.l])) h.nm
 pl:=k _ _ (hw _ (by simp [Ta.l])) h.pl
theorem jK {i:Nat} {a:Ta} (h:L[i]?=some a) {b:Addr} (hb:b∈a.l):b∈L.flatMap Ta.l:=List.mem_flatMap.mpr ⟨a,List.mem_of_getElem? h,hb⟩
theorem aJ.keep {W:List Addr} (i:aJ CH CS CT H A L M) (k:Kp W H H') (hw:∀ b∈A.w++L.flatMap Ta.l,b ∉ W):aJ CH CS CT H' A L M where
 h:=let ⟨fs,c,e,r⟩:=i.h; ⟨fs,c,k _ _ (hw _ (by simp [Ad.w])) e,r⟩
 t:=let ⟨fs,c,e,r⟩:=i.t; ⟨fs,c,k _ _ (hw _ (by simp [Ad.w])) e,r⟩
 ml:=k _ _ (hw _ (by simp [Ad.w])) i.ml
 len:=i.len
 th:=fun j t e=>let ⟨a,e1,h⟩:=i.th j t e; ⟨a,e1,h.keep k fun b hb=>hw b (List.mem_append_right _ (jK e1 hb))⟩
 ro:=k _ _ (hw _ (by simp [Ad.w])) i.ro
 st:=k _ _ (hw _ (by simp [Ad.w])) i.st
 tr:=k _ _ (hw _ (by simp [Ad.w])) i.tr
 ov:=k _ _ (hw _ (by simp [Ad.w])) i.ov
 un:=k _ _ (hw _ (by simp [Ad.w])) i.un
 nd:=i.nd
theorem aJ.same (i:aJ CH CS CT H A L M) (s:ao H H'):aJ CH CS CT H' A L M:=i.keep (W:=[]) (.of s) fun _ _=>by simp
theorem uz:∀ {L:List Ta} {i j:Nat} {a a':Ta} {b:Addr},(L.flatMap Ta.l).Nodup->L[i]?=some a->L[j]?=some a'->b∈a.l->b∈a'.l->i=j
 | [],_,_,_,_,_,_,h,_,_,_=>by simp at h
 | c::r,0,0,_,_,_,_,_,_,_,_=>rfl
 | c::r,0,j+1,a,a',b,nd,h1,h2,m1,m2=>by
  rw [List.flatMap_cons,List.nodup_append] at nd;simp only [List.getElem?_cons_zero,Option.some.injEq] at h1;simp only [List.getElem?_cons_succ] at h2;subst h1;exact absurd rfl (nd.2.2 b m1 b (jK h2 m2))
 | c::r,i+1,0,a,a',b,nd,h1,h2,m1,m2=>by
  rw [List.flatMap_cons,List.nodup_append] at nd;simp only [List.getElem?_cons_zero,Option.some.injEq] at h2;simp only [List.getElem?_cons_succ] at h1;subst h2;exact absurd rfl (nd.2.2 b m2 b (jK h1 m1))
 | c::r,i+1,j+1,a,a',b,nd,h1,h2,m1,m2=>by
  rw [List.flatMap_cons,List.nodup_append] at nd;simp only [List.getElem?_cons_succ] at h1 h2;rw [uz nd.2.1 h1 h2 m1 m2]
theorem aJ.write {k:Nat} {a:Ta} {t':Th} (i:aJ CH CS CT H A L M) (hk:L[k]?=some a) (hh:∃ fs c,H' A.a=some (.ins CH A.dx fs)/\fs.length<=40/\cW fs (qP c A)) (ht:∃ fs c,H' A.t=some (.ins CS A.dt fs)/\fs.length<=40/\cW fs (sF A.ml c))
  (aF:i9 CT H' a k t') (kp:Kp [A.a,A.t,a.th,a.nm,a.pl] H H'):aJ CH CS CT H' A L { M with ts:=M.ts.set k t' }:=by
 have nd:=i.nd;rw [List.nodup_append] at nd;obtain ⟨n1,n2,n3⟩:=nd;have ma:∀ b∈a.l,b∈L.flatMap Ta.l:=fun b hb=>jK hk hb;have qk:∀ b∈[A.ml,A.ro,A.st,A.tr,A.ov,A.un],b ∉ [A.a,A.t,a.th,a.nm,a.pl]:=by
  intro b hb hm;have hw:b∈A.w:=by
   simp only [Ad.w,List.mem_cons,List.not_mem_nil,or_false] at hb ⊢;rcases hb with h | h | h | h | h | h <;> simp [h]
  simp only [List.mem_cons,List.not_mem_nil,or_false] at hm;rcases hm with rfl | rfl | rfl | rfl | rfl
  ·have:=(List.nodup_cons.mp n1).1;simp only [List.mem_cons,List.not_mem_nil,or_false,not_or] at hb this;rcases hb with h | h | h | h | h | h <;> simp [h] at this
  ·have:=(List.nodup_cons.mp (List.nodup_cons.mp n1).2).1;simp only [List.mem_cons,List.not_mem_nil,or_false,not_or] at hb this;rcases hb with h | h | h | h | h | h <;> simp [h] at this
  ·exact n3 _ hw _ (ma _ (by simp [Ta.l])) rfl
  ·exact n3 _ hw _ (ma _ (by simp [Ta.l])) rfl
  ·exact n3 _ hw _ (ma _ (by simp [Ta.l])) rfl
 refine ⟨hh,ht,kp _ _ (qk _ (by simp)) i.ml,by rw [i.len]; simp,fun j t e=>?_,kp _ _ (qk _ (by simp)) i.ro,kp _ _ (qk _ (by simp)) i.st,kp _ _ (qk _ (by simp)) i.tr,kp _ _ (qk _ (by simp)) i.ov,kp _ _ (qk _ (by simp)) i.un,i.nd⟩;by_cases hj:j=k
 ·subst hj;have bL:j < M.ts.length:=by rw [<- i.len]; exact (List.getElem?_eq_some_iff.mp hk).1
  have e':(M.ts.set j t')[j]?=some t:=e;rw [List.getElem?_set_self bL] at e';cases e';exact ⟨a,hk,aF⟩
 ·have e':(M.ts.set k t')[j]?=some t:=e;rw [List.getElem?_set_ne (Ne.symm hj)] at e';obtain ⟨a',e1,h1⟩:=i.th j t e';refine ⟨a',e1,h1.keep kp fun b hb hm=>?_⟩;have fX:=jK e1 hb;simp only [List.mem_cons,List.not_mem_nil,or_false] at hm;rcases hm with rfl | rfl | rfl | rfl | rfl
  ·exact n3 _ (by simp [Ad.w]) _ fX rfl
  ·exact n3 _ (by simp [Ad.w]) _ fX rfl
  ·exact hj (uz n2 e1 hk hb (by simp [Ta.l]))
  ·exact hj (uz n2 e1 hk hb (by simp [Ta.l]))
  ·exact hj (uz n2 e1 hk hb (by simp [Ta.l]))
end
def Fh:V->Bool
 | .int _=>true
 | _=>false
def Wq:Sp:=sI fun v H Q _=>(∃ T,clsName H v=some T)/\Q (.bl (Fh v)) H
def P8:Sp:=sI fun x H Q _=>A4 (∃ T,clsName H x=some T) (Fl x) (fb x=true) (∀ H',ao H H'->Q .au H')
def XO (C:Addr):Sp:=KS fun x n kd ow mi re tx H Q _=>X1 fun dx=>A2 (H x=some (.ins C dx [])) (∀ l1 l2 H',H l1=none->H l2=none->l1≠l2->l1≠x->l2≠x->(∀ b,b≠x->b≠l1->b≠l2->H' b=H b)->H' l1=some (.dK [])->H' l2=some (.dT []) ->
   (∀ fs,fs.length<=40->cW fs (r6 n kd ow mi re tx (.ref l1) (.ref l2))->H' x=some (.ins C dx fs)->Q .au H'))
def Ts (C:Addr):Sp:=fZ fun x H Q _=>X1 fun dx=>A2 (H x=some (.ins C dx [])) (∀ l H',H l=none->l≠x->(∀ b,b≠x->b≠l->H' b=H b)->H' l=some (.lst [])->(∀ fs,fs.length<=40->cW fs (sF l 0)->H' x=some (.ins C dx fs)->Q .au H'))
structure jI (CS:Addr) (H:Hp) (x dt ml:Addr) (rs:List V):Prop where
 o:∃ fs c,H x=some (.ins CS dt fs)/\fs.length<=40/\cW fs (sF ml c)
 ml:H ml=some (.lst rs)
def tW (CS CT:Addr) (x dt ml:Addr) (rs:List V) (kd ow mi re tx:V) (H:Hp) (Q:VK):Prop :=
 ∀ th c8 nm pl ks H',H th=none->H nm=none->H pl=none->jI CS H' x dt ml (rs++[.ref th])->H' th=some (.ins CT c8 ks)->ks.length<=40->cW ks (r6 (.int rs.length) kd ow mi re tx (.ref nm) (.ref pl)) ->
  H' nm=some (.dK [])->H' pl=some (.dT [])->Kp [x,ml] H H'->Q (.int rs.length) H'
def ZR (CS CT:Addr):Sp:=IY fun x kd ow mi re tx H Q _=>X3 fun dt ml rs=>A3 (jI CS H x dt ml rs) (rs.length<=500) (tW CS CT x dt ml rs kd ow mi re tx H Q)
def OJ (CS CT:Addr):Sp:=AD fun x ow mi re H Q _=>X3 fun dt ml rs=>A3 (jI CS H x dt ml rs) (rs.length<=500) (tW CS CT x dt ml rs (.str "folder") ow mi re (.str "") H Q)
def WK (CS CT:Addr):Sp:=Lq fun x ow tx mi re H Q _=>X3 fun dt ml rs=>A3 (jI CS H x dt ml rs) (rs.length<=500) (tW CS CT x dt ml rs (.str "file") ow mi re tx H Q)
def Xg (CS CT:Addr):Sp:=BY fun x ow tx H Q _=>X3 fun dt ml rs=>A3 (jI CS H x dt ml rs) (rs.length<=500) (tW CS CT x dt ml rs (.str "lead") ow (.str "") (.str "") tx H Q)
def Ge (CH CS CT CN:Addr):Sp:=Bp fun x v H Q E=>X3 fun A L M=>A5 (aJ CH CS CT H A L M) (A.t=x) (∃ T,clsName H v=some T) (∀ (k:Nat) a t,v=.int k->L[k]?=some a->M.ts[k]?=some t->Q (.ref a.th) H) ((∀ k:Nat,v=.int k->¬ k < M.ts.length)->E (.ref CN) none H)
abbrev jE:=Ad->List Ta->Hs->Nat->Ta->Th->Hp->VK->Prop
def gZ (CH CS CT:Addr) (sel:Ad->Addr) (f:jE):Sp:=jg fun x n H Q _=>X6 fun A L M (k:Nat) a t=>A6 (aJ CH CS CT H A L M) (sel A=x) (n=(k:Int)) (L[k]?=some a) (M.ts[k]?=some t) (f A L M k a t H Q)
def Z0 (CH CS CT:Addr) (sel:Ad->Addr):Sp:=vq fun x n z H Q _=>X6 fun A L M (k:Nat) a t=>A6 (aJ CH CS CT H A L M) (sel A=x) (n=(k:Int)) (L[k]?=some a) (M.ts[k]?=some t) (Q ((aP (sD t.aM) (.inr z)).getD .au) H)
def O9 (CH CS CT:Addr):Sp:=vq fun x n z H Q _=>X6 fun A L M (k:Nat) a t=>A8 (aJ CH CS CT H A L M) (A.a=x) (n=(k:Int)) (L[k]?=some a) (M.ts[k]?=some t) (fb (.str z)=true) (z.length<=1000) (∀ H',ao H H'->Q ((aP (sD t.aM) (.inr z)).getD .au) H')
def JP (CH CS CT:Addr) (sel:Ad->Addr):Sp:=fZ fun x H Q _=>X3 fun A L M=>A3 (aJ CH CS CT H A L M) (sel A=x) (Q (.int M.ts.length) H)
abbrev HB:jE:=fun _ _ _ _ _ t H Q=>t.aM.length < 64/\∀ l,H l=none->Q (.ref l) (upd H l (.lst ((di (t.aM.map (·.1))).map V.str)))
abbrev Fq:jE:=fun _ _ _ _ _ t H Q=>(t.bP=[]/\Q .au H)\/∃ f z,t.bP=[(f,z)]/\∀ p,H p=some (.tup [.int (f:Nat),.str z])->Q (.ref p) H
abbrev va:jE:=fun _ _ _ _ _ t H Q=>Q (.str t.kd) H
abbrev Vn:jE:=fun _ _ _ _ _ t H Q=>Q (.str t.ow) H
abbrev Hb:jE:=fun _ _ _ _ _ t H Q=>Q (.str t.tx) H
abbrev PL:jE:=fun _ _ _ _ _ t H Q=>∀ l,H l=none->Q (.ref l) (upd H l (.tup [.str t.mi,.str t.re]))
abbrev Tg:jE:=fun _ _ _ _ _ _ H Q=>Q .au H
def Ku (CH CS CT CA:Addr):Sp:=Bp fun x v H Q E=>X3 fun A L M=>A5 (aJ CH CS CT H A L M) (A.a=x) (∃ T,clsName H v=some T) (∀ z,v=.str z->(aP (sD M.ro) (.inr z)).isSome=true->Q .au H) ((∀ z,v=.str z->aP (sD M.ro) (.inr z)=none)->E (.ref CA) none H)
def RB (CH CS CT:Addr):Sp:=jl fun x z H Q _=>X4 fun A L M (r:Nat)=>A4 (aJ CH CS CT H A L M) (A.a=x) (aP (sD M.ro) (.inr z)=some (.int r)) (Q (.int r) H)
def cJ (t:Th) (asker:Str):Str:=if asker=t.ow then t.mi else t.re
def ZO (CT:Addr):Sp:=jl fun x z H Q _=>X3 fun a i t=>A3 (i9 CT H a i t) (a.th=x) (Q (.str (cJ t z)) H)
def gW (v:V):Bool:=decide (v=.str "l") || decide (v=.str "g") || decide (v=.str "w")
def U3 (CR:Addr):Sp:=sI fun v H Q E=>A3 (∃ T,clsName H v=some T) (gW v=true->Q .au H) (gW v=false->E (.ref CR) none H)
def dU (s:Str) (z:Str):Bool:=!(Builtin.Str.occurrences z s 0 z.length 1).isEmpty
def Ke (CH CS CT CA CR CN:Addr):Sp:=AD fun x w v r H Q E=>X3 fun A L M=>A7 (aJ CH CS CT H A L M) (A.a=x) (∃ T,clsName H w=some T) (∃ T,clsName H v=some T) (∃ T,clsName H r=some T) ((∀ z,w=.str z->aP (sD M.ro) (.inr z)=none)->E (.ref CA) none H) (∀ z,w=.str z->(aP (sD M.ro) (.inr z)).isSome=true->(gW r=false->E (.ref CR) none H) /\
    ∀ s,r=.str s->gW r=true->((∀ k:Nat,v=.int k->¬ k < M.ts.length)->E (.ref CN) none H)/\∀ (k:Nat) t,v=.int k->M.ts[k]?=some t->Q (.bl (dU s (cJ t z))) H)
local macro_rules | `(tactic| walk_at "rd")=>`(tactic| dsimp only [B2,CL,B9,Bh,lI,fJ,Bk,kj,tC,kg,zf,uZ,mJ,ou,lh,z0,wM,BE,Ax,yg,Bl,pq,je,qG,xr,uO,we,lM,zT,xX,yY,yw,uN,Bm,vZ,Ai,Zu,U8,Rp,Zl,pQ,wt,yf,AL,yr,yt,Yh,Ox,zX,rJoin,Bo,yT,tZ,Cb,wY,sL,Ag,KH,y4,N0,Tu,Cv,AF,yW,zi,qT,qH,Bc,zP,zK,Cq,zu,zg,zw,zY,Cr,Ends.za,BL,Bn,zy,AM,zE,BB,y8,Ce,RJ,tH,TR,Yy,Vl,KQ,yx,zH,zb,yk,zh,zr,Bj,BU,Cj,U7,Bz,Oj,Yz,NK,Rt,vQ,BZ,yK,Cw,zJ,OD,J2,C0,wF,U2,List.getElem?_cons_zero,List.getElem?_cons_succ,List.set_cons_zero,List.set_cons_succ,List.cons_append,List.nil_append])
local macro_rules | `(tactic| walk_at "w")=>`(tactic| (first | walk_at "rd" | skip))
local macro_rules | `(tactic| left)=>`(tactic| walk_at "w")
local macro_rules | `(tactic| walk_at "f")=>`(tactic| (refine Nat.lt_of_le_of_lt (m:=40) ?_ (by decide); (repeat (refine bU ?_)); exact Nat.zero_le _))
local macro_rules | `(tactic| walk_at "c")=>`(tactic| (repeat (first | exact trivial | (refine ⟨fun z=>(by first | exact ⟨_,rfl⟩ | (rcases z with z | z <;> cases z)),?_⟩))))
open Dv (aa ae aq aN aQ aY bf bu bB bY cC cN cX dB eO fD hX iA iB au jF kq jT lJ lT mO mM nB m6 pE tP tD rF sO qV vT uT uD u9 wo CU zx Bx ye AU zj BH Jj F6 G4 Il G9 F5 Kd Gj GF AH Fj Ow V0 Ys Vf Q3 Q9 XT VB eM R1)
abbrev ad:=@Dv.v
abbrev am:=@Dv.cut
abbrev ap:=@Dv.fld
abbrev bi:=@Dv.int
abbrev bn:=@Dv.str
abbrev bv:=@Dv.call
abbrev ci:=@Dv.ix
abbrev cr:=@Dv.nil
abbrev db:=@Dv.lst
abbrev dl:=@Dv.op
abbrev dL:=@Dv.glob
abbrev em:=@Dv.cmp
abbrev f8:=@Dv.tup
abbrev ge:=@Dv.bl
abbrev gl:=@Dv.one
abbrev ii:=@Dv.un
abbrev im:=@Dv.w_or
abbrev io:=@Dv.make
abbrev jp:=@Dv.slice
section
variable {P:Program} {w:World} {K:PySem.W.Frag} {mg:Str->Option Value} {base:Heap}
variable (T:Tx K mg)
theorem AW:T.ic.k P w base 1 (PZ K):=by
 refine T.ic.F.ok Xf (fun _ _ _ _ h=>lX h fun _ _=>rfl) fun ah A outer s H vs Q E hr h=>lX h fun x h=>?_;obtain ⟨⟨ty,h1⟩,kQ,q⟩:=h;refine ⟨_,((am (bB (hX (im (dB (cN (cC j0 T.gb gf (aa (ad 0) (aa (jF (.ty "str") T.oO pe rfl) ae))))) (lJ (dB (CU oC oC bi (cC (lA (K:=K) rfl) T.lG PySem.boot_len (aa (ad 0) ae)) (dL (.int 8) T.Wk ⟨_,rfl⟩)))))) (aq (aN ge)) cr)
 (aq (aN (cC (EY (K:=K) rfl rfl) T.FG Fz (aa (Jj rfl (x:=("sign" : Str)) (F6 (ad 0)) (fun _ _ _ _=>by exact zx) (fun _ _ _ _=>by exact (fD 0 (show List.Nodup (["sign"]:List Str) by decide))) (fun _ _ _ _=>by exact (em (vx (K:=K) rfl) (ad 0) (dL (.str "abcdefghijklmnopqrstuvwxyz") T.Ou ⟨_,rfl⟩))) (.of rfl (by exact trivial) (by walk_at "c") rfl (by exact trivial))) ae)))))).h,?_⟩
 refine stI [some x] ?_;refine ai ?_;walk_at "rd";simp only [h1,CY h1];refine ⟨vK _ rfl,?_⟩;cases x with
 | str z =>
  simp only [wc,Bool.not_true,Bool.false_eq_true,if_false];have hsh':z.length<=1000:=kQ;have hl:z.cps.toList.length=z.length:=by simp [Str.length]
  refine ⟨fits hsh',?_⟩;by_cases a1:1<=z.length
  ·rw [decide_eq_true (show (1:Int)<=(z.length:Int) by omega)];refine bE ?_;by_cases a2:z.length<=8
   ·rw [decide_eq_true (show (z.length:Int)<=8 by omega)];refine bb ?_;refine Vt (fun c=>.bl (pU.contains c)) (fits hsh') ?_ ?_
    ·intro c _ H1 _ R hR;walk_at "rd";rw [Rg,show (⟨#[c]⟩:Str)=Tx.S [c] from rfl,Tx.Ui];exact hR H1 (ao.refl H1)
    ·intro H1 s1 l kZ;refine ⟨_,aC.of ax,z.cps.toList.map (pU.contains ·),by rw [List.map_map]; rfl,?_⟩;have e:((z.cps.toList.map (pU.contains ·)).all id)=fb (.str z):=by
      show _=isNm z.cps.toList;unfold isNm;rw [hl,decide_eq_true a1,decide_eq_true a2,List.all_map];rfl
     rw [e];exact q _ (s1.trans (ao.upd kZ))
   ·rw [decide_eq_false (show ¬ (z.length:Int)<=8 by omega)];refine bE ?_;have e:fb (.str z)=false:=by
     show isNm z.cps.toList=false;unfold isNm;rw [hl,decide_eq_false a2,Bool.and_false,Bool.false_and]
    have:=q H (ao.refl H);rw [e] at this;exact this
  ·rw [decide_eq_false (show ¬ (1:Int)<=(z.length:Int) by omega)];refine bb (bE ?_);have e:fb (.str z)=false:=by
    show isNm z.cps.toList=false;unfold isNm;rw [hl,decide_eq_false a1,Bool.false_and,Bool.false_and]
   have:=q H (ao.refl H);rw [e] at this;exact this
 | _=>exact q H (ao.refl H)
theorem bK {X:Cx} {b:List Stmt} {t:TS} {D:Ends} {σ:St} {H:Hp} (h:QB X b t) (q:t D σ H):∃ t,cT X b t/\t D σ H:=⟨t,h.h,q⟩
def Yr:V->Bool
 | .int _=>true
 | .bl _=>true
 | _=>false
theorem OI {H:Hp} {v:V} {ty:String} (h:clsName H v=some ty):wQ ty "int" = Yr v:=by
 unfold clsName at h;split at h
 ·cases h; rfl
 ·cases h; rfl
 ·cases h; rfl
 ·cases h; rfl
 ·split at h
  ·cases h; rfl
  ·cases h; rfl
  ·cases h; rfl
  ·cases h
 ·cases h
theorem II:T.ku.k P w base 1 Wq:=by
 refine T.ku.F.ok PB (fun _ _ _ _ h=>lX h fun _ _=>rfl) fun ah A outer s H vs Q E hr h=>lX h fun v h=>?_;obtain ⟨⟨ty,cA⟩,q⟩:=h;refine ⟨_,((aq (aN (kq (cC j0 T.gb gf (aa (ad 0) (aa (jF (.ty "int") T.Gq Fd rfl) ae))) (gl (Ow (cC j0 T.gb gf (aa (ad 0) (aa (jF (.ty "bool") T.g_bool Gz rfl) ae))))))))).h,?_⟩;refine stI [some v] ?_;left;simp only [cA];refine ⟨by decide,?_⟩;cases v with
 | int i=>cases cA; exact bE ⟨by decide,q⟩
 | bl b=>cases cA; exact bE ⟨by decide,q⟩
 | _ =>
  rw [OI cA];exact bb q
theorem zq:T.hU.k P w base 2 P8:=by
 refine T.hU.F.ok Wg (fun _ _ _ _ h=>lX h fun _ _=>rfl) fun ah A outer s H vs Q E hr h=>lX h fun x h=>?_;obtain ⟨hc,kQ,hn,q1⟩:=h;refine ⟨_,((aq (bB (dB (cN (bv (AW T) hr.m T.ic.m T.ic.F.kp T.ic.b .nil aw (aa (ad 0) ae)))) (aq iA) cr))).h,?_⟩;refine stI [some x] ?_;left;refine ⟨hc,kQ,fun H' s'=>?_⟩;rw [hn];exact bb (q1 H' s')
def dJ:List Str:=["","l","g","w","lg","lw","gw","lgw"]
def Pp:Sp:=jX fun z H Q _=>z∈dJ/\Q (.bl true) H
def Xl:Sp:=jX fun z H Q _=>z∈dJ/\Q .au H
theorem S2 {z:Str} {zs:List Str} (h:z∈zs):gE (V.str z) (zs.map V.str)=true:=by
 unfold gE;rw [List.any_map,List.any_eq_true];exact ⟨z,h,show (z == z)=true from beq_self_eq_true z⟩
theorem QU:T.oJ.k P w base 1 Pp:=by
 refine T.oJ.F.ok Qr (fun _ _ _ _ h=>fj h fun _ _=>rfl) fun ah A outer s H vs Q E hr h=>fj h fun z h=>?_;obtain ⟨hz,q⟩:=h;refine ⟨_,((aq (aN (kq (cC j0 T.gb gf (aa (ad 0) (aa (jF (.ty "str") T.oO pe rfl) ae))) (gl (em (zV (K:=K) rfl) (ad 0) (dL (.ref T.Ea) T.T3 rfl))))))).h,?_⟩;refine stI [some (V.str z)] ?_;left;refine ⟨by decide,bE ⟨_,.inr (T.yV H),rfl,rfl,?_⟩⟩;rw [show [V.str (Str.ofString ""),V.str (Str.ofString "l"),V.str (Str.ofString "g"),V.str (Str.ofString "w"),V.str (Str.ofString "lg"),V.str (Str.ofString "lw"),V.str (Str.ofString "gw"),V.str (Str.ofString "lgw")]=dJ.map V.str from rfl,S2 hz];exact q
theorem oI:T.dM.k P w base 2 Xl:=by
 refine T.dM.F.ok SN (fun _ _ _ _ h=>fj h fun _ _=>rfl) fun ah A outer s H vs Q E hr h=>fj h fun z h=>?_;obtain ⟨hz,q⟩:=h;refine ⟨_,((aq (bB (dB (cN (bv (QU T) hr.m T.oJ.m T.oJ.F.kp T.oJ.b .nil aw (aa (ad 0) ae)))) (aq iA) cr))).h,?_⟩;refine stI [some (V.str z)] ?_;left;exact ⟨hz,bb q⟩
theorem ZN (v:V):gE v [V.str (Str.ofString "l"),V.str (Str.ofString "g"),V.str (Str.ofString "w")]=gW v:=by
 unfold gE gW;simp only [List.any_cons,List.any_nil,Bool.or_false];have key:∀ z:Str,ff (.str z) v=decide (v=.str z):=fun z=>by
  cases v with
  | str y =>
   show (z == y)=decide (V.str y=V.str z);by_cases e:z=y
   ·subst e; simp
   ·rw [decide_eq_false (by intro h; injection h with h; exact e h.symm)];exact beq_eq_false_iff_ne.mpr e
  | _=>rfl
 rw [key,key,key,Bool.or_assoc]
theorem Ra:aB P w K mg base (bJ P w) 1 T.oA.f T.oA.d ["text"] (U3 T.uk):=by
 refine T.oA.F.eN UQ (fun _ _ _ _ h=>lX h fun _ _=>rfl) fun ah A outer s H vs Q E hr h=>lX h fun v h=>?_;obtain ⟨⟨ty,cA⟩,q1,q2⟩:=h;refine ⟨_,((aq (bB (hX (im (dB (cN (cC j0 T.gb gf (aa (ad 0) (aa (jF (.ty "str") T.oO pe rfl) ae))))) (lJ (bY (yL (K:=K) rfl) (ad 0) (dL (.ref T.Dl) T.Qy rfl))))) (aq (Bx Ba rfl T.Pg T.Wt (aa bn ae))) cr))).h,?_⟩;refine stI [some v] ?_;left;simp only [cA,CY cA];refine ⟨vK _ rfl,?_⟩;cases v with
 | str z =>
  simp only [wc,Bool.not_true,Bool.false_eq_true,if_false];refine ⟨_,.inr (T.BC H),rfl,rfl,?_⟩;rw [ZN];cases ho:gW (.str z) with
  | true=>exact bb (q1 ho)
  | false=>exact bE ⟨fits (by simp),q2 ho⟩
 | _=>exact ⟨fits (by simp),q2 rfl⟩
theorem Ul:T.pR.k P w base 2 (W6 K):=by
 refine T.pR.F.ok VS (fun _ _ _ _ h=>fj h fun _ _=>rfl) fun ah A outer s H vs Q E hr h=>fj h fun z h=>?_;obtain ⟨w',rfl,hw,q⟩:=h;refine ⟨_,((aq (aN (V0 (em (zV (K:=K) rfl) (ad 0) (dL (.ref T.Du) T.N1 rfl)) (gl (bv (AW T) hr.m T.ic.m T.ic.F.kp T.ic.b .nil aw (aa (ad 0) ae))))))).h,?_⟩;refine stI [some (V.str (Tx.S w'))] ?_;walk_at "rd";refine ⟨_,.inr (T.Aq H),rfl,rfl,?_⟩;have e:gE (V.str (Tx.S w')) [V.str (Str.ofString "."),V.str (Str.ofString "..")]=(decide (w'=[46]) || decide (w'=[46,46])):=by
  rw [show Str.ofString "." = Tx.S [46] from by decide +kernel,show Str.ofString ".." = Tx.S [46,46] from by decide +kernel];unfold gE ff;simp only [List.any_cons,List.any_nil,Bool.or_false];have b:∀ m:List Nat,(Tx.S m == Tx.S w')=decide (w'=m):=fun m=>by
   by_cases h:w'=m
   ·rw [h]; simp
   ·have:Tx.S m≠Tx.S w':=fun e=>h (Tx.La e).symm;rw [decide_eq_false h];exact beq_eq_false_iff_ne.mpr this
  rw [b,b]
 rw [e];cases hd:(decide (w'=[46]) || decide (w'=[46,46])) with
 | true =>
  refine bE ?_;have:=q H (ao.refl H);unfold cB at this;rw [hd] at this;exact this
 | false =>
  refine bb ?_;refine ⟨⟨_,rfl⟩,(by show (Tx.S w').length<=1000; rw [Tx.cY]; exact hw),fun H' s'=>?_⟩;have:=q H' s';unfold cB at this;rw [hd,Bool.false_or] at this;have e2:fb (V.str (Tx.S w'))=isNm w':=by show isNm _=_; rw [Tx.k8]
  rw [e2];exact this
theorem kF:T.cu.k P w base 3 (N4 K):=by
 refine T.cu.F.ok Gx (fun _ _ _ _ h=>fj h fun _ _=>rfl) fun ah A outer s H vs Q E hr h=>fj h fun z h=>?_;obtain ⟨t,rfl,t1,t2,kT,q⟩:=h;refine ⟨_,((am (bB (hX (im (dB (cN (cC j0 T.gb gf (aa (ad 0) (aa (jF (.ty "str") T.oO pe rfl) ae))))) (lJ (dB (CU oC oC bi (cC (lA (K:=K) rfl) T.lG PySem.boot_len (aa (ad 0) ae)) (dL (.int 2000) T.UU ⟨_,rfl⟩)))))) (aq iA) cr)
 (am (Ys 1 rfl Gx.nd (x:=("part" : Str)) (mO (K:=K) rfl (tP PySem.F.slot_str_split PySem.F.type_str_split OL (ad 0) (aa bn ae))) (fun _ _ _ _=>by exact (G4 (bY kC (ad 0) bn))) (fun _ _ _ _=>by exact (fD 0 (show List.Nodup (["part"]:List Str) by decide))) (fun _ _ _ _=>by exact (ad 0)) (.of rfl (by exact trivial) (by walk_at "c") rfl (by exact trivial)))
 (am (bB (dB (cN (cC (EY (K:=K) rfl rfl) T.FG Fz (aa (Jj rfl (x:=("part" : Str)) (mO (K:=K) rfl (ad 1)) (fun _ _ _ _=>by exact zx) (fun _ _ _ _=>by exact (fD 0 (show List.Nodup (["part"]:List Str) by decide))) (fun _ _ _ _=>by exact (bv (Ul T) hr.m T.pR.m T.pR.F.kp T.pR.b .nil aw (aa (ad 0) ae))) (.of rfl (by exact trivial) (by walk_at "c") rfl (by exact trivial))) ae)))) (aq iA) cr)
 (am (bB (hX (Dv.w_and (bY (Ve hr.wy) (ad 1) (db ae)) (vT (cN (tP PySem.F.slot_str_endswith PySem.F.type_str_endswith VI (ad 0) (aa bn ae)))))) (aq (aY (iB PySem.F.slot_list_append PySem.F.type_list_append lz (ad 1) (aa bn ae)))) cr)
 (aq (aN (f8 (aa (tP PySem.F.slot_str_startswith PySem.F.type_str_startswith XX (ad 0) (aa bn ae)) (aa (ad 1) ae)))))))))).h,?_⟩
 refine stI [some (V.str (Tx.S t)),none] ?_;refine ai ?_;walk_at "rd";have jx:Str.ofString "/" = Tx.S [47]:=by decide +kernel
 have e0:Str.ofString "" = Tx.S []:=by decide +kernel
 simp only [Tx.cY,jx,e0];refine ⟨vK _ rfl,bb ⟨Nat.le_trans t2 (by decide),?_⟩⟩;rw [decide_eq_true (show (1:Int)<=(t.length:Int) by omega),decide_eq_true (show (t.length:Int)<=2000 by omega)];refine bE (bb (ai ?_));walk_at "rd";have kR:=Tx.Cu 47 t;refine ⟨rfl,by rw [Tx.cY]; exact Nat.le_trans t2 (by decide),?_,?_⟩
 ·rw [Tx.G2,Tx.nM,Tx.Kt,Tx.uB,List.length_map];exact Nat.le_trans (show _<=2001 by omega) (by decide)
 intro l hl;rw [Tx.Vk t 47 (by decide)];refine eF (o:=.lst (((Tx.cut 47 t).map Tx.S).map V.str)) hl fun H1 s1 b1=>?_;refine ⟨⟨_,aC.of b1⟩,LC (fun x=>match x with | .str z=>!decide (z=Tx.S []) | _=>false) id (aC.of b1) (by rw [List.length_map,List.length_map]; exact Nat.le_trans (show _<=2001 by omega) (by decide)) ?_ ?_ ?_⟩
 ·intro x hx H2 _ R hR;obtain ⟨z,_,rfl⟩:=List.mem_map.mp hx;walk_at "rd";exact hR H2 (ao.refl H2)
 ·intro x hx _ H2 _ R hR;walk_at "rd";exact hR H2 (ao.refl H2)
 intro H2 s2 l2 cw;have ew:((((Tx.cut 47 t).map Tx.S).map V.str).filter (fun x=>match x with | .str z=>!decide (z=Tx.S []) | _=>false)).map id=PV (Tx.words 47 t):=by
  rw [List.map_id,List.filter_map];show ((((Tx.cut 47 t).map Tx.S)).filter _).map V.str=_
  congr 1
  rw [<- Tx.US];refine List.filter_congr fun z _=>?_;show (!decide (z=Tx.S []))=decide (z≠Tx.S []);by_cases h:z=Tx.S [] <;> simp [h]
 rw [ew];have iu:H l2=none:=(s1.trans s2).free cw;refine eF (o:=.lst (PV (Tx.words 47 t))) cw fun H3 s3 b3=>?_;have sH3:ao H H3:=(s1.trans s2).trans s3;have qz:(Tx.words 47 t).length<=2001:=Nat.le_trans (List.length_filter_le _ _) (by omega);refine ai ?_;walk_at "rd";refine ⟨⟨_,aC.of b3⟩,LC (fun _=>true) (fun x=>match x with | .str z=>.bl (cB z.cps.toList) | _=>.bl false) (aC.of b3) (by rw [List.length_map,List.length_map]; exact Nat.le_trans qz (by decide)) ?_ ?_ ?_⟩
 ·intro x _ H4 _ R hR;exact hR H4 (ao.refl H4)
 ·intro x hx _ H4 _ R hR;obtain ⟨z,hz,rfl⟩:=List.mem_map.mp hx;obtain ⟨w',hw,rfl⟩:=List.mem_map.mp hz;walk_at "rd";obtain ⟨_,_,g3⟩:=o7 (List.all_eq_true.mp kT w' hw);refine ⟨w',rfl,by omega,fun H5 s5=>?_⟩;have:=hR H5 s5;simp only [Tx.k8] at this;exact this
 intro H4 s4 l4 xu;have eb:((PV (Tx.words 47 t)).filter (fun _=>true)).map (fun x=>match x with | .str z=>V.bl (cB z.cps.toList) | _=>V.bl false)=((Tx.words 47 t).map cB).map V.bl:=by
  rw [List.filter_eq_self.mpr (fun _ _=>rfl),List.map_map,List.map_map,List.map_map];refine List.map_congr_left fun w' _=>?_;show V.bl (cB (Tx.S w').cps.toList)=V.bl (cB w');rw [Tx.k8]
 rw [eb];refine ⟨_,aC.of ax,_,rfl,?_⟩;have ea:((Tx.words 47 t).map cB).all id=true:=by rw [List.all_map]; exact kT
 rw [ea];refine bb ?_;have s5:=ao.upd (o:=.lst (((Tx.words 47 t).map cB).map V.bl)) xu;generalize upd H4 l4 (.lst (((Tx.words 47 t).map cB).map V.bl))=H5 at s5 ⊢;have b5:H5 l2=some (.lst (PV (Tx.words 47 t))):=s5 _ _ (s4 _ _ b3);have EU:ao H H5:=(sH3.trans s4).trans s5;refine js (fun σ' H'=>σ'=[some (V.str (Tx.S t)),some (V.ref l2)]/\ao H H'/\H' l2=some (.lst (PV (told (Tx.words 47 t) t)))) ?_ ?_
 ·walk_at "rd";refine ⟨fits (by simp),fun p hp=>?_⟩;have s6:=ao.upd (o:=.lst []) hp;have c6:upd H5 p (.lst []) p=some (.lst ((([]:List Str)).map V.str)):=ax;generalize upd H5 p (.lst [])=H6 at s6 c6 ⊢;have b6:H6 l2=some (.lst (PV (Tx.words 47 t))):=s6 _ _ b5;refine ⟨(Tx.words 47 t).map Tx.S,[],b6,c6,?_⟩;by_cases w9:Tx.words 47 t=[]
  ·rw [decide_eq_true (show (Tx.words 47 t).map Tx.S=[] by rw [w9]; rfl)];refine bb (bb ⟨by trivial,EU.trans s6,?_⟩);unfold told;rw [if_neg (fun z=>z.1 w9)];exact b6
  ·rw [decide_eq_false (show ¬ (Tx.words 47 t).map Tx.S=[] by simpa using w9)];refine bE ?_;rw [Tx.Qm];by_cases xw:t.getLast?=some 47
   ·rw [decide_eq_true xw];refine bE ?_;simp only [b6];refine ⟨by rw [List.length_map,List.length_map]; exact Nat.lt_of_le_of_lt qz (by decide),by trivial,cj.same (EU.trans s6) iu cj.upd,?_⟩;unfold told;rw [if_pos ⟨w9,xw⟩,ax,show Str.ofString "." = Tx.S [46] from by decide +kernel];simp only [PV,List.map_append,List.map_cons,List.map_nil]
   ·rw [decide_eq_false xw];refine bb ⟨by trivial,EU.trans s6,?_⟩;unfold told;rw [if_neg (fun z=>xw z.2)];exact b6
 ·rintro σ' H6 ⟨rfl,s6,b6⟩;walk_at "rd";simp only [jx,Tx.Vy];refine ⟨fits (by simp),fun p hp=>?_⟩;exact q _ l2 p (s6.trans (ao.upd hp)) iu (Q2 b6 hp) ax
theorem VF:T.rO.k P w mg base 1 (XO T.aV):=by
 refine T.rO.F.ok Sr (fun _ _ _ _ h=>Jt h fun _ _ _ _ _ _ _ _=>rfl) fun ah A outer s H vs Q E hr h=>Jt h fun x n kd ow mi re tx h=>?_;obtain ⟨dx,hx,q⟩:=h;refine ⟨_,((am (bu T.cL T.UB (ad 0) (ad 1))
 (am (bu T.cL T.zW (ad 0) (ad 2))
 (am (bu T.cL T.yZ (ad 0) (ad 3))
 (am (bu T.cL T.wG (ad 0) (ad 4))
 (am (bu T.cL T.wz (ad 0) (ad 5))
 (am (bu T.cL T.Jv (ad 0) (ad 6))
 (am (bu T.cL T.vY (ad 0) mM)
 (aq (bu T.cL T.sE (ad 0) Vf)))))))))).h,?_⟩
 refine stI [some (.ref x),some n,some kd,some ow,some mi,some re,some tx] ?_;refine ai ?_;walk_at "rd";refine ⟨x,dx,_,rfl,hx,by decide,ai ?_⟩;walk_at "rd";refine ⟨x,dx,_,rfl,ax,by walk_at "f",ai ?_⟩;walk_at "rd";refine ⟨x,dx,_,rfl,ax,by walk_at "f",ai ?_⟩;walk_at "rd";refine ⟨x,dx,_,rfl,ax,by walk_at "f",ai ?_⟩;walk_at "rd";refine ⟨x,dx,_,rfl,ax,by walk_at "f",ai ?_⟩;walk_at "rd";refine ⟨x,dx,_,rfl,ax,by walk_at "f",ai ?_⟩;simp only [lb];walk_at "rd";intro l1 h1;have n1:l1≠x:=fun e=>by rw [e,ax] at h1; cases h1
 have h1':H l1=none:=by rw [ag n1] at h1; exact h1
 refine ⟨x,dx,_,rfl,by rw [ag (Ne.symm n1),ax],by walk_at "f",fun l2 h2=>?_⟩;have n2:l2≠x:=fun e=>by rw [e,ax] at h2; cases h2
 rw [ag n2] at h2;have n3:l2≠l1:=fun e=>by rw [e,ax] at h2; cases h2
 rw [ag n3,ag n2] at h2;refine ⟨x,dx,_,rfl,by rw [ag (Ne.symm n2),ax],by walk_at "f",?_⟩;refine q l1 l2 _ h1' h2 (Ne.symm n3) n1 n2 (fun b b1 b2 b3=>?_) ?_ ?_ _ ?_ (fun f=>?_) ax
 ·rw [ag b1,ag b3,ag b1,ag b2,ag b1]
 ·rw [ag n1,ag (Ne.symm n3),ag n1,ax]
 ·rw [ag n2,ax]
 ·exact Nat.le_trans (by (repeat (refine bU ?_)); exact Nat.zero_le _) (Nat.le_refl 40)
 ·rfl
theorem Tw:T.rh.k P w mg base 1 (Ts T.aO):=by
 refine T.rh.F.ok Rc (fun _ _ _ _ h=>cI h fun _ _=>rfl) fun ah A outer s H vs Q E hr h=>cI h fun x h=>?_;obtain ⟨dx,hx,q⟩:=h;refine ⟨_,((am (bu T.bV T.pK (ad 0) (db ae))
 (aq (bu T.bV T.wx (ad 0) bi)))).h,?_⟩
 refine stI [some (.ref x)] ?_;refine ai ?_;walk_at "rd";refine ⟨fits (by simp),fun l hl=>?_⟩;have n1:l≠x:=fun e=>by rw [e,hx] at hl; cases hl
 refine ⟨x,dx,_,rfl,by rw [ag (Ne.symm n1)]; exact hx,by decide,?_⟩;refine ⟨x,dx,_,rfl,ax,by walk_at "f",?_⟩;refine q l _ hl n1 (fun b b1 b2=>?_) ?_ _ ?_ (fun f=>?_) ax
 ·rw [ag b1,ag b1,ag b2]
 ·rw [ag n1,ag n1,ax]
 ·exact Nat.le_trans (bU (bU (Nat.zero_le _))) (show 0+1+1<=40 by decide)
 ·rfl
theorem XC:T.rE.k P w mg base 1 (ZO T.aV):=by
 refine T.rE.F.ok WJ (fun _ _ _ _ h=>eL h fun _ _ _=>rfl) fun ah A outer s H vs Q E hr h=>eL h fun x z h=>?_;obtain ⟨a,i,t,cb,rfl,q⟩:=h;obtain ⟨fs,hx,aW,sf⟩:=cb.o;refine ⟨_,((aq (aN (Il (bY iE (ad 1) (ap T.cL T.yZ (ad 0))) (ap T.cL T.wG (ad 0)) (ap T.cL T.wz (ad 0)))))).h,?_⟩;refine stI [some (V.ref a.th),some (V.str z)] ?_;left;refine (fI hx sf rfl ?_);dsimp only;unfold cJ at q;by_cases e:z=t.ow
 ·rw [decide_eq_true e];rw [if_pos e] at q;exact bE (fI hx sf rfl q)
 ·rw [decide_eq_false e];rw [if_neg e] at q;exact bb (fI hx sf rfl q)
theorem CO:T.kf.k P w mg base 3 (ZR T.aO T.aV):=by
 refine T.kf.F.ok Ht (fun _ _ _ _ h=>IT h fun _ _ _ _ _ _ _=>rfl) fun ah A outer s H vs Q E hr h=>IT h fun x kd ow mi re tx h=>?_;obtain ⟨dt,ml,rs,⟨⟨fs,c,hx,aW,sf⟩,iz⟩,dq,q⟩:=h;refine ⟨_,((am (jT T.bV T.wx jO (ad 0) bi)
  (am (aQ 6 Ht.nd (cC (lA (K:=K) rfl) T.lG PySem.boot_len (aa (ap T.bV T.pK (ad 0)) ae)))
  (am (aY (iB PySem.F.slot_list_append PySem.F.type_list_append lz (ap T.bV T.pK (ad 0)) (aa (io T.Zt (VF T) hr.m T.Sf T.rO.b .nil aw (aa (ad 6) (aa (ad 1) (aa (ad 2) (aa (ad 3) (aa (ad 4) (aa (ad 5) ae))))))) ae)))
  (aq (aN (ad 6))))))).h,?_⟩
 refine stI [some (.ref x),some kd,some ow,some mi,some re,some tx,none] ?_;have dF:ml≠x:=fun e=>by rw [e,hx] at iz; cases iz
 refine ai ?_;walk_at "rd";refine ⟨x,dt,fs,.int c,rfl,hx,(sf _).trans rfl,_,_,rfl,rfl,dt,fs,hx,by omega,ai ?_⟩;have cG:cW (ay "changes" (.int (c+1)) fs) (sF ml (c+1)):=fun f=>by rw [(sf.put "changes" (.int (c+1))) f]; rfl
 have iN:(ay "changes" (.int (c+1)) fs).length<=41:=bU aW;have bo:upd H x (.ins T.aO dt (ay "changes" (.int (c+1)) fs)) x=some (.ins T.aO dt (ay "changes" (.int (c+1)) fs)):=ax;have kX:upd H x (.ins T.aO dt (ay "changes" (.int (c+1)) fs)) ml=some (.lst rs):=by rw [ag dF]; exact iz
 have ie:Kp [x] H (upd H x (.ins T.aO dt (ay "changes" (.int (c+1)) fs))):=fun b o hb e=>by rw [ag (fun z=>hb (by simp [z]))]; exact e
 have n8:∀ b,b≠x->upd H x (.ins T.aO dt (ay "changes" (.int (c+1)) fs)) b=H b:=fun b hb=>ag hb;generalize upd H x (.ins T.aO dt (ay "changes" (.int (c+1)) fs))=H1 at bo kX ie n8 ⊢;walk_at "rd";refine ⟨x,dt,_,.ref ml,rfl,bo,(cG _).trans rfl,?_⟩;simp only [bS,kX];refine ai ?_;walk_at "rd";refine ⟨x,dt,_,.ref ml,rfl,bo,(cG _).trans rfl,?_⟩;simp only [kX];intro th c8 aF hdth kK;refine ⟨c8,ax,fun nm pl H2 cf bt hnp hn1 iu fr2 hnm2 hpl2 ks iy sk hth2=>⟨rfl,?_⟩⟩;have Ef:∀ b o,H1 b=some o->upd (upd H1 c8 (HO.own th)) th (HO.ins T.aV c8 []) b=some o:=fun b o e=>by
  rw [ag (aH e aF),ag (aH e hdth)]; exact e
 have D5:∀ b o,H1 b=some o->H2 b=some o:=fun b o e=>by
  rw [fr2 b (aH e aF) (aH (Ef b o e) cf) (aH (Ef b o e) bt)]; exact Ef b o e
 have dn:∀ d,d≠th->upd (upd H1 c8 (HO.own th)) th (HO.ins T.aV c8 []) d=none->H1 d=none:=fun d n e=>by
  rw [ag n] at e;by_cases z:d=c8
  ·rw [z,ax] at e; cases e
  ·rw [ag z] at e; exact e
 have MS:=dn nm hn1 cf;have NF:=dn pl iu bt;have EN:∀ d,H1 d=none->H d=none:=fun d e=>by rw [<- n8 d (Ne.symm (aH bo e))]; exact e
 simp only [D5 _ _ kX];refine ⟨lQ (by omega),?_⟩;refine q th c8 nm pl ks _ (EN _ aF) (EN _ MS) (EN _ NF) ⟨⟨_,c+1,by rw [ag (Ne.symm dF)]; exact D5 _ _ bo,?_,cG⟩,ax⟩ (by rw [ag (Ne.symm (aH kX aF))]; exact hth2) iy sk
  (by rw [ag (Ne.symm (aH kX MS))]; exact hnm2) (by rw [ag (Ne.symm (aH kX NF))]; exact hpl2) (fun b o hb e=>?_)
 ·rw [f9 (u:=.int c) ((sf _).trans rfl)]; exact aW
 ·simp only [List.mem_cons,List.not_mem_nil,or_false,not_or] at hb;rw [ag hb.2];exact D5 _ _ (ie b o (by simp [hb.1]) e)
theorem Gu:T.nJ.k P w mg base 4 (OJ T.aO T.aV):=by
 refine T.nJ.F.ok Oy (fun _ _ _ _ h=>wX h fun _ _ _ _ _=>rfl) fun ah A outer s H vs Q E hr h=>wX h fun x ow mi re h=>?_;obtain ⟨dt,ml,rs,at',dq,q⟩:=h;obtain ⟨fs,c,hx,aW,sf⟩:=at'.o;refine ⟨_,((aq (aN (bf T.bV T.kf.h (CO T) hr.m T.kf.b .nil aw (ad 0) (aa (dL (.str "folder") T.uR ⟨_,rfl⟩) (aa (ad 1) (aa (ad 2) (aa (ad 3) (aa bn ae))))))))).h,?_⟩;refine stI [some (.ref x),some ow,some mi,some re] ?_;left;exact ⟨x,dt,fs,rfl,hx,(sf _).trans rfl,dt,ml,rs,at',dq,q⟩
theorem gH:aB P w K mg base (bJ P w) 2 T.cD.f T.cD.d ["self","number"] (Ge T.aI T.aO T.aV T.qp):=by
 refine T.cD.F.eN R9 (fun _ _ _ _ h=>wC h fun _ _ _=>rfl) fun ah A outer s H vs Q E hr h=>wC h fun x v h=>?_;obtain ⟨AA,L,M,i,rfl,kR,q1,q2⟩:=h;obtain ⟨fs,c,hx,aW,sf⟩:=i.t;refine ⟨_,((am (bB (hX (im (dB (cN (bv (II T) hr.m T.ku.m T.ku.F.kp T.ku.b .nil aw (aa (ad 1) ae)))) (lJ (dB (CU oC vP bi (ad 1) (cC (lA (K:=K) rfl) T.lG PySem.boot_len (aa (ap T.bV T.pK (ad 0)) ae))))))) (aq (Bx Ba rfl T.OK T.V8 (aa bn ae))) cr)
 (aq (aN (ci (bG (K:=K) rfl) (ap T.bV T.pK (ad 0)) (ad 1)))))).h,?_⟩
 refine stI [some (.ref AA.t),some v] ?_;refine ai ?_;left;refine ⟨kR,?_⟩;cases v with
 | int n =>
  simp only [Fh,Bool.not_true,Bool.false_eq_true,if_false];refine nI (fun h0=>?_) (fun h0=>bE ⟨fits (by simp),q2 fun j e=>?_⟩)
  ·have h0':0<=n:=of_decide_eq_true h0;refine ⟨AA.t,_,_,.ref AA.ml,rfl,hx,(sf _).trans rfl,?_⟩;simp only [bS,i.ml,List.length_map,i.len];obtain ⟨k,rfl⟩:=Int.eq_ofNat_of_zero_le h0';by_cases hk:k < M.ts.length
   ·rw [decide_eq_true (show (k:Int) < (M.ts.length:Int) by omega)];refine bb ⟨AA.t,_,_,.ref AA.ml,rfl,hx,(sf _).trans rfl,?_⟩;simp only [bS,i.ml];have Mt:k < L.length:=by rw [i.len]; exact hk
    rw [jq (xs:=L.map fun a=>V.ref a.th) (j:=k) (by rw [List.getElem?_map,List.getElem?_eq_getElem Mt]; rfl)];exact q1 k _ _ rfl (List.getElem?_eq_getElem Mt) (List.getElem?_eq_getElem hk)
   ·rw [decide_eq_false (show ¬ (k:Int) < (M.ts.length:Int) by omega)];refine bE ⟨fits (by simp),q2 fun j e=>?_⟩;injection e with e;have:k=j:=by omega
    rw [<- this]; exact hk
  ·injection e with e;exact absurd (decide_eq_true (show (0:Int)<=n by omega)) h0
 | _=>exact ⟨fits (by simp),q2 fun k e=>by cases e⟩
theorem Ov:T.qY.k P w mg base 1 (JP T.aI T.aO T.aV Ad.t):=by
 refine T.qY.F.ok YE (fun _ _ _ _ h=>cI h fun _ _=>rfl) fun ah A outer s H vs Q E hr h=>cI h fun x h=>?_;obtain ⟨AA,L,M,i,rfl,q⟩:=h;obtain ⟨fs,c,hx,aW,sf⟩:=i.t;refine ⟨_,((aq (aN (cC (lA (K:=K) rfl) T.lG PySem.boot_len (aa (ap T.bV T.pK (ad 0)) ae))))).h,?_⟩;refine stI [some (.ref AA.t)] ?_;left;refine ⟨AA.t,_,_,.ref AA.ml,rfl,hx,(sf _).trans rfl,?_⟩;simp only [bS,i.ml,List.length_map,i.len];exact q
section
variable {T:Tx K mg} {H:Hp} {A:Ad} {L:List Ta} {M:Hs}
theorem ib {k:Nat} {a:Ta} {t:Th} {Q:VK} {E:XK} (i:aJ T.aI T.aO T.aV H A L M) (ha:L[k]?=some a) (ht:M.ts[k]?=some t) (q:Q (.ref a.th) H):Ge T.aI T.aO T.aV T.qp [.ref A.t,.int (k:Int)] H Q E :=
 ⟨A,L,M,i,rfl,⟨_,rfl⟩,fun j a' t' e h1 h2=>by
  injection e with e;have:k=j:=by omega
  subst this;rw [ha] at h1; cases h1;exact q,fun h=>absurd (List.getElem?_eq_some_iff.mp ht).1 (h k rfl)⟩
theorem dW {k:Nat} {a:Ta} {t:Th} (i:aJ T.aI T.aO T.aV H A L M) (ha:L[k]?=some a) (ht:M.ts[k]?=some t):i9 T.aV H a k t:=by
 obtain ⟨a',e,h⟩:=i.th k t ht;rw [ha] at e; cases e;exact h
end
theorem IU:T.nE.k P w mg base 3 (Z0 T.aI T.aO T.aV Ad.t):=by
 refine T.nE.F.ok Ru (fun _ _ _ _ h=>pP h fun _ _ _ _=>rfl) fun ah A outer s H vs Q E hr h=>pP h fun x n z h=>?_;obtain ⟨AA,L,M,k,a,t,i,rfl,rfl,ha,aF,q⟩:=h;obtain ⟨fs,c,hx,aW,sf⟩:=i.h;obtain ⟨gs,c2,ht,cR,sg⟩:=i.t;have cb:=dW i ha aF;obtain ⟨ks,ho,fW,so⟩:=cb.o;refine ⟨_,((aq (aN (Q3 (f7 hr) (ap T.cL T.vY (cX T.bV T.cD.h (gH T) hr.m T.cD.b .nil dE (ad 0) (aa (ad 1) ae))) (ad 2))))).h,?_⟩;refine stI [some (V.ref AA.t),some (V.int (k:Int)),some (V.str z)] ?_;left;refine (mI ht sg (ib i ha aF ⟨a.th,_,_,.ref a.nm,rfl,ho,(so _).trans rfl,a.nm,rfl,.inl ⟨_,.inl cb.nm⟩,_,dR.k (k:=.inr z) cb.nm,q⟩))
theorem SH:T.sN.k P w mg base 3 (gZ T.aI T.aO T.aV Ad.t Fq):=by
 refine T.sN.F.ok Vw (fun _ _ _ _ h=>bW h fun _ _ _=>rfl) fun ah A outer s H vs Q E hr h=>bW h fun x n h=>?_;obtain ⟨AA,L,M,k,a,t,i,rfl,rfl,ha,aF,q⟩:=h;obtain ⟨fs,c,hx,aW,sf⟩:=i.h;obtain ⟨gs,c2,ht,cR,sg⟩:=i.t;have cb:=dW i ha aF;obtain ⟨ks,ho,fW,so⟩:=cb.o;refine ⟨_,((aq (aN (Dv.minD rfl T.Cd (ap T.cL T.sE (cX T.bV T.cD.h (gH T) hr.m T.cD.b .nil dE (ad 0) (aa (ad 1) ae))))))).h,?_⟩;refine stI [some (V.ref AA.t),some (V.int (k:Int))] ?_;left;refine (mI ht sg (ib i ha aF ⟨a.th,_,_,.ref a.pl,rfl,ho,(so _).trans rfl,a.pl,_,rfl,cb.pl,?_⟩));rcases q with ⟨e,q⟩ | ⟨f,z,e,q⟩
 ·rw [e]; exact .inl ⟨rfl,q⟩
 ·rw [e]; exact .inr ⟨_,_,rfl,q⟩
theorem tJ:T.gG.k P w mg base 3 (gZ T.aI T.aO T.aV Ad.a va):=by
 refine T.gG.F.ok V5 (fun _ _ _ _ h=>bW h fun _ _ _=>rfl) fun ah A outer s H vs Q E hr h=>bW h fun x n h=>?_;obtain ⟨AA,L,M,k,a,t,i,rfl,rfl,ha,aF,q⟩:=h;obtain ⟨fs,c,hx,aW,sf⟩:=i.h;obtain ⟨gs,c2,ht,cR,sg⟩:=i.t;have cb:=dW i ha aF;obtain ⟨ks,ho,fW,so⟩:=cb.o;refine ⟨_,((aq (aN (ap T.cL T.zW (cX T.bV T.cD.h (gH T) hr.m T.cD.b .nil dE (ap T.aK T.eJ (ad 0)) (aa (ad 1) ae)))))).h,?_⟩;refine stI [some (V.ref AA.a),some (V.int (k:Int))] ?_;left;exact ⟨AA.a,_,_,.ref AA.t,rfl,hx,(sf _).trans rfl,AA.t,_,_,rfl,ht,(sg _).trans rfl,ib i ha aF (fI ho so rfl q)⟩
theorem zZ:T.jQ.k P w mg base 4 (gZ T.aI T.aO T.aV Ad.a Fq):=by
 refine T.jQ.F.ok Qb (fun _ _ _ _ h=>bW h fun _ _ _=>rfl) fun ah A outer s H vs Q E hr h=>bW h fun x n h=>?_;obtain ⟨AA,L,M,k,a,t,i,rfl,rfl,ha,aF,q⟩:=h;obtain ⟨fs,c,hx,aW,sf⟩:=i.h;obtain ⟨gs,c2,ht,cR,sg⟩:=i.t;have cb:=dW i ha aF;obtain ⟨ks,ho,fW,so⟩:=cb.o;refine ⟨_,((aq (aN (bf T.bV T.sN.h (SH T) hr.m T.sN.b .nil aw (ap T.aK T.eJ (ad 0)) (aa (ad 1) ae))))).h,?_⟩;refine stI [some (V.ref AA.a),some (V.int (k:Int))] ?_;left;exact ⟨AA.a,_,_,.ref AA.t,rfl,hx,(sf _).trans rfl,AA.t,_,_,rfl,ht,(sg _).trans rfl,AA,L,M,k,a,t,i,rfl,rfl,ha,aF,q⟩
theorem Sb:T.sx.k P w mg base 3 (gZ T.aI T.aO T.aV Ad.a Tg):=by
 refine T.sx.F.ok Oa (fun _ _ _ _ h=>bW h fun _ _ _=>rfl) fun ah A outer s H vs Q E hr h=>bW h fun x n h=>?_;obtain ⟨AA,L,M,k,a,t,i,rfl,rfl,ha,aF,q⟩:=h;obtain ⟨fs,c,hx,aW,sf⟩:=i.h;obtain ⟨gs,c2,ht,cR,sg⟩:=i.t;have cb:=dW i ha aF;obtain ⟨ks,ho,fW,so⟩:=cb.o;refine ⟨_,((aq (aY (cX T.bV T.cD.h (gH T) hr.m T.cD.b .nil dE (ap T.aK T.eJ (ad 0)) (aa (ad 1) ae))))).h,?_⟩;refine stI [some (V.ref AA.a),some (V.int (k:Int))] ?_;left;exact ⟨AA.a,_,_,.ref AA.t,rfl,hx,(sf _).trans rfl,AA.t,_,_,rfl,ht,(sg _).trans rfl,ib i ha aF q⟩
theorem G5:T.mK.k P w mg base 2 (JP T.aI T.aO T.aV Ad.a):=by
 refine T.mK.F.ok Sm (fun _ _ _ _ h=>cI h fun _ _=>rfl) fun ah A outer s H vs Q E hr h=>cI h fun x h=>?_;obtain ⟨AA,L,M,i,rfl,q⟩:=h;obtain ⟨fs,c,hx,aW,sf⟩:=i.h;obtain ⟨gs,c2,ht,cR,sg⟩:=i.t;refine ⟨_,((aq (aN (nB T.bV T.qY.h (Ov T) hr.m T.qY.b .nil aw (ap T.aK T.eJ (ad 0)))))).h,?_⟩;refine stI [some (V.ref AA.a)] ?_;left;exact ⟨AA.a,_,_,.ref AA.t,rfl,hx,(sf _).trans rfl,AA.t,_,_,rfl,ht,(sg _).trans rfl,AA,L,M,i,rfl,q⟩
section
variable {CH CS CT:Addr} {H:Hp} {A:Ad} {L:List Ta} {M:Hs}
theorem aJ.tX (i:aJ CH CS CT H A L M) {k:Nat} {a:Ta} (ha:L[k]?=some a):∀ b∈A.w,∀ c∈a.l,b≠c:=fun b hb c hc=>by
 have nd:=i.nd;rw [List.nodup_append] at nd;exact nd.2.2 b hb c (jK ha hc)
theorem aJ.aT (i:aJ CH CS CT H A L M):A.a≠A.t:=by
 have nd:=i.nd;rw [List.nodup_append] at nd;have:=(List.nodup_cons.mp nd.1).1;exact fun e=>this (by rw [e]; simp)
theorem IE:∀ {L:List Ta} {k:Nat} {a:Ta},(L.flatMap Ta.l).Nodup->L[k]?=some a->a.l.Nodup
 | c::r,0,a,nd,h=>by
  rw [List.flatMap_cons,List.nodup_append] at nd;simp only [List.getElem?_cons_zero,Option.some.injEq] at h;subst h; exact nd.1
 | c::r,k+1,a,nd,h=>by
  rw [List.flatMap_cons,List.nodup_append] at nd;simp only [List.getElem?_cons_succ] at h;exact IE nd.2.1 h
theorem aJ.own (i:aJ CH CS CT H A L M) {k:Nat} {a:Ta} (ha:L[k]?=some a):a.th≠a.nm/\a.th≠a.pl/\a.nm≠a.pl:=by
 have nd:=i.nd;rw [List.nodup_append] at nd;have:=IE nd.2.1 ha;simp only [Ta.l,List.nodup_cons,List.mem_cons,List.not_mem_nil,or_false,not_or,not_false_eq_true,List.nodup_nil,and_true] at this;exact ⟨this.1.1,this.1.2,this.2⟩
end
def TM (CH CS CT:Addr):Sp:=vq fun x n z H Q _=>X6 fun A L M (k:Nat) a t=>A7 (aJ CH CS CT H A L M) (A.t=x) (n=(k:Int)) (L[k]?=some a) (M.ts[k]?=some t) (aP (sD t.aM) (.inr z)=none) (Q .au H)
theorem OO:T.tQ.k P w mg base 4 (TM T.aI T.aO T.aV):=by
 refine T.tQ.F.ok Lp (fun _ _ _ _ h=>pP h fun _ _ _ _=>rfl) fun ah A outer s H vs Q E hr h=>pP h fun x n z h=>?_;obtain ⟨AA,L,M,k,a,t,i,rfl,rfl,ha,aF,hv,q⟩:=h;obtain ⟨gs,c2,ht,cR,sg⟩:=i.t;refine ⟨_,((am (aQ 3 Lp.nd (bf T.bV T.nE.h (IU T) hr.m T.nE.b .nil aw (ad 0) (aa (ad 1) (aa (ad 2) ae))))
 (aq (bB (bY Ft (ad 3) au) (am iA
 (am iA
 (aq iA))) cr)))).h,?_⟩
 refine stI [some (V.ref AA.t),some (V.int (k:Int)),some (V.str z),none] ?_;refine ai ?_;left;refine (mI ht sg ⟨AA,L,M,k,a,t,i,rfl,rfl,ha,aF,?_⟩);rw [hv];refine ⟨by trivial,?_⟩;exact bb q
def XI (CH CS CT:Addr):Sp:=Ks fun x fn z kn H Q _=>X9 fun A L M (f:Nat) (k:Nat) af tf ak tk=>yy (aJ CH CS CT H A L M) (A.t=x) (fn=(f:Int)) (kn=(k:Int)) (L[f]?=some af) (M.ts[f]?=some tf) (L[k]?=some ak) (M.ts[k]?=some tk) (f≠k) (aP (sD tf.aM) (.inr z)=none) (tf.aM.length<=500) (tk.bP=[]) (∀ H',aJ CH CS CT H' A L { M with ts:=(M.ts.set f { tf with aM:=tf.aM++[(z,k)] }).set k { tk with bP:=[(f,z)] } }->Kp [A.t,af.nm,ak.pl] H H'->Q .au H')
theorem Al {l:List (Str×Nat)} {z:Str} {k:Nat} (h:aP (sD l) (.inr z)=none):putK (sD l) (.inr z) (.int (k:Int))=sD (l++[(z,k)]):=by
 have e:((sD l).any fun kv=>decide (kv.1=(Sum.inr z:Key)))=false:=by rw [Aj,h]; rfl
 unfold putK;rw [e];simp [sD]
theorem RI:T.sV.k P w mg base 5 (XI T.aI T.aO T.aV):=by
 refine T.sV.F.ok vt (fun _ _ _ _ h=>Km h fun _ _ _ _ _=>rfl) fun ah A outer s H vs Q E hr h=>Km h fun x fn z kn h=>?_;obtain ⟨AA,L,M,f,k,af,tf,ak,tk,i,rfl,rfl,rfl,gv,bX,iw,fQ,hfk,hv,jv,bt,q⟩:=h;obtain ⟨fs,c,hx,aW,sf⟩:=i.h;obtain ⟨gs,c2,ht,cR,sg⟩:=i.t;have LH:=dW i iw fQ;obtain ⟨ks,ho,fW,so⟩:=LH.o;refine ⟨_,((am (aQ 4 vt.nd (cX T.bV T.cD.h (gH T) hr.m T.cD.b .nil dE (ad 0) (aa (ad 3) ae)))
 (am (jT T.bV T.wx jO (ad 0) bi)
 (am (aY (bf T.bV T.tQ.h (OO T) hr.m T.tQ.b .nil aw (ad 0) (aa (ad 1) (aa (ad 2) ae))))
 (am (bB (bY kC (ap T.cL T.zW (ad 4)) (dL (.str "file") T.Af ⟨_,rfl⟩)) (aq (m6 PassesOwn.never rfl (mO (K:=K) rfl (ye (Vp rfl) T.rp GB (aa (ap T.cL T.sE (ad 4)) ae))) (G9 (K:=K) (n:=2) rfl rfl (uT (fD 5 vt.nd) (uT (fD 6 vt.nd) F5))) (aq iA))) cr)
 (am (tD (f7 hr) (ap T.cL T.vY (cX T.bV T.cD.h (gH T) hr.m T.cD.b .nil dE (ad 0) (aa (ad 1) ae))) (ad 2) (ad 3))
 (aq (tD (f7 hr) (ap T.cL T.sE (ad 4)) (f8 (aa (ad 1) (aa (ad 2) ae))) ge)))))))).h,?_⟩
 refine stI [some (V.ref AA.t),some (V.int (f:Int)),some (V.str z),some (V.int (k:Int)),none,none,none] ?_;refine ai ?_;left;refine (mI ht sg (ib i iw fQ ?_));refine ai ?_;left;refine ⟨AA.t,_,_,.int c2,rfl,ht,(sg _).trans rfl,_,_,rfl,rfl,_,_,ht,by omega,ai ?_⟩;have tn:∀ b∈ak.l,AA.t≠b:=i.tX iw _ (by simp [Ad.w]);have i1:aJ T.aI T.aO T.aV (upd H AA.t (.ins T.aO AA.dt (ay "changes" (.int (c2+1)) gs))) AA L M:=by
  have w:=i.write (H':=upd H AA.t (.ins T.aO AA.dt (ay "changes" (.int (c2+1)) gs))) (t':=tk) iw ⟨fs,c,by rw [ag i.aT]; exact hx,aW,sf⟩ ⟨_,c2+1,ax,by rw [f9 (u:=.int c2) ((sg _).trans rfl)]; exact cR,fun f=>by rw [(sg.put "changes" (.int (c2+1))) f]; rfl⟩
   (LH.keep (W:=[AA.t]) (fun b o hb e=>by rw [ag (fun z=>hb (by simp [z]))]; exact e) fun b hb=>by simp [Ne.symm (tn b hb)]) (fun b o hb e=>by simp only [List.mem_cons,List.not_mem_nil,or_false,not_or] at hb; rw [ag hb.2.1]; exact e)
  have e:M.ts.set k tk=M.ts:=by
   apply List.ext_getElem?;intro j;by_cases hj:k=j
   ·subst hj; rw [List.getElem?_set_self (List.getElem?_eq_some_iff.mp fQ).1,fQ]
   ·rw [List.getElem?_set_ne hj]
  rw [e] at w;exact w
 have ie:Kp [AA.t] H (upd H AA.t (.ins T.aO AA.dt (ay "changes" (.int (c2+1)) gs))):=fun b o hb e=>by rw [ag (fun z=>hb (by simp [z]))]; exact e
 generalize upd H AA.t (.ins T.aO AA.dt (ay "changes" (.int (c2+1)) gs))=H1 at i1 ie ⊢;obtain ⟨gs1,c3,gT,LM,DL⟩:=i1.t;have LN:=dW i1 iw fQ;have ithf1:=dW i1 gv bX;obtain ⟨ks1,Nw,hol1,Nv⟩:=LN.o;obtain ⟨gj,Nh,iN,cG⟩:=ithf1.o;left;refine (mI gT DL ⟨AA,L,M,f,af,tf,i1,rfl,rfl,gv,bX,hv,?_⟩);refine js (fun σ' H'=>ao H1 H'/\∃ t5 t6,σ'=[some (V.ref AA.t),some (V.int (f:Int)),some (V.str z),some (V.int (k:Int)),some (.ref ak.th),t5,t6]) ?_ ?_
 ·left;refine (fI Nw Nv rfl ?_);refine nI (fun _=>?_) (fun _=>⟨ao.refl _,_,_,rfl⟩);refine (fI Nw Nv rfl ?_);have DN:H1 ak.pl=some (.dT []):=by have:=LN.pl; rw [bt] at this; exact this
  refine ⟨ak.pl,_,rfl,DN,?_⟩;intro l ks hk _ hl;have EG:ks=[]:=List.length_eq_zero_iff.mp hk;subst EG;refine ⟨⟨_,aC.of ax⟩,vV (xs:=[]) (fun _ σ' H'=>H'=upd H1 l (.lst [])/\σ'=[some (V.ref AA.t),some (V.int (f:Int)),some (V.str z),some (V.int (k:Int)),some (.ref ak.th),none,none]) ⟨rfl,rfl⟩ (fun _ σ' H' _ h=>by rw [h.1]; exact aC.of ax) (fun j x σ' H' hx _=>by simp at hx) (fun σ' H' h=>?_)⟩;obtain ⟨rfl,rfl⟩:=h;exact ⟨ao.upd hl,_,_,rfl⟩
 ·rintro σ' H2 ⟨s2,t5,t6,rfl⟩;have i2:=i1.same s2;obtain ⟨gs2,c4,ir,hgl2,Mf⟩:=i2.t;obtain ⟨xE,d2,bO,hxl2,sx2⟩:=i2.h;have D4:=dW i2 gv bX;obtain ⟨ik,LU,iR,bQ⟩:=D4.o;have M6:=i2.own gv;have ME:=i2.own iw;have Na:=i2.tX gv;have Mh:=i2.tX iw;refine ai ?_;left;refine (mI ir Mf (ib i2 gv bX ⟨af.th,_,_,.ref af.nm,rfl,LU,(bQ _).trans rfl,af.nm,_,rfl,iI.k (k:=.inr z) D4.nm (lQ (by unfold sD; rw [List.length_map]; omega)),?_⟩));rw [Al hv];have i3:aJ T.aI T.aO T.aV (upd H2 af.nm (.dK (sD (tf.aM++[(z,k)])))) AA L { M with ts:=M.ts.set f { tf with aM:=tf.aM++[(z,k)] } }:=by
   refine i2.write gv ⟨xE,d2,by rw [ag (Na _ (by simp [Ad.w]) _ (by simp [Ta.l]))]; exact bO,hxl2,sx2⟩ ⟨gs2,c4,by rw [ag (Na _ (by simp [Ad.w]) _ (by simp [Ta.l]))]; exact ir,hgl2,Mf⟩ ⟨⟨ik,by rw [ag M6.1]; exact LU,iR,bQ⟩,ax,by rw [ag (Ne.symm M6.2.2)]; exact D4.pl⟩ (fun b o hb e=>?_);simp only [List.mem_cons,List.not_mem_nil,or_false,not_or] at hb;rw [ag hb.2.2.2.1]; exact e
  have MK:Kp [AA.t,af.nm] H (upd H2 af.nm (.dK (sD (tf.aM++[(z,k)])))):=fun b o hb e=>by
   simp only [List.mem_cons,List.not_mem_nil,or_false,not_or] at hb;rw [ag hb.2];exact s2 _ _ (ie b o (by simp [hb.1]) e)
  generalize upd H2 af.nm (.dK (sD (tf.aM++[(z,k)])))=H3 at i3 MK ⊢;have NG:(M.ts.set f { tf with aM:=tf.aM++[(z,k)] })[k]?=some tk:=by rw [List.getElem?_set_ne hfk]; exact fQ
  have ithk3:=dW i3 iw NG;obtain ⟨ks3,ho3,hol3,so3⟩:=ithk3.o;left;refine ⟨ak.th,_,_,.ref ak.pl,rfl,ho3,(so3 _).trans rfl,fits (by simp),fun p hp=>?_⟩;refine eF (o:=.tup [V.int (f:Int),V.str z]) hp fun H4 s4 b4=>?_;have i4:=i3.same s4;have Ec:=dW i4 iw NG;obtain ⟨ks4,ho4,hol4,so4⟩:=Ec.o;obtain ⟨gs4,c5,ht4,hgl4,sg4⟩:=i4.t;obtain ⟨hs4,d4,iP,hxl4,sx4⟩:=i4.h;have hpl4:H4 ak.pl=some (.dT []):=by have:=Ec.pl; rw [bt] at this; exact this
  refine ⟨ak.pl,_,rfl,iI.t (k:=[.inl (f:Int),.inr z]) hpl4 b4 (by decide),?_⟩;refine q _ (i4.write iw ⟨hs4,d4,by rw [ag (Mh _ (by simp [Ad.w]) _ (by simp [Ta.l]))]; exact iP,hxl4,sx4⟩ ⟨gs4,c5,by rw [ag (Mh _ (by simp [Ad.w]) _ (by simp [Ta.l]))]; exact ht4,hgl4,sg4⟩ ⟨⟨ks4,by rw [ag ME.2.1]; exact ho4,hol4,so4⟩,by rw [ag ME.2.2]; exact Ec.nm,ax⟩ (fun b o hb e=>?_)) (fun b o hb e=>?_)
  ·simp only [List.mem_cons,List.not_mem_nil,or_false,not_or] at hb;rw [ag hb.2.2.2.2]; exact e
  ·simp only [List.mem_cons,List.not_mem_nil,or_false,not_or] at hb;rw [ag hb.2.2];exact s4 _ _ (MK b o (by simp [hb.1,hb.2.1]) e)
def Jz (CH:Addr) (fld:Str):Sp:=qZ fun x z n H Q _=>X5 fun dx fs c d kvs=>A7 (H x=some (.ins CH dx fs)) (fs.length<=40) (fs.lookup ("changes" : Str)=some (.int c)) (fs.lookup fld=some (.ref d)) (H d=some (.dK kvs)) (kvs.length<=40) (Q .au (upd (upd H x (.ins CH dx (ay "changes" (.int (c+1)) fs))) d (.dK (putK kvs (.inr z) (.int n)))))
def Zg (CH:Addr):Sp:=jl fun x z H Q _=>X7 fun dx fs c ro st kr ks=>Gg (H x=some (.ins CH dx fs)) (fs.length<=40) (fs.lookup ("changes" : Str)=some (.int c)) (fs.lookup ("roots" : Str)=some (.ref ro)) (fs.lookup ("standings" : Str)=some (.ref st)) (fs.lookup ("first_root" : Str)=some (.int 0)) (fs.lookup ("put_root" : Str)=none) (fs.lookup ("put_standing" : Str)=none) (H ro=some (.dK kr)) (kr.length<=40) (H st=some (.dK ks)) (ks.length<=40) (ro≠st) (∀ fs' c' H',H' x=some (.ins CH dx fs')->fs'.length<=40->cW fs' (ay "changes" (.int c') fs)->H' ro=some (.dK (putK kr (.inr z) (.int 0)))->H' st=some (.dK (putK ks (.inr z) (.int 0)))->(∀ b,b≠x->b≠ro->b≠st->H' b=H b)->Q .au H')
theorem Wx:T.rH.k P w mg base 1 (Jz T.aI "roots"):=by
 refine T.rH.F.ok Oq (fun _ _ _ _ h=>jb h fun _ _ _ _=>rfl) fun ah A outer s H vs Q E hr h=>jb h fun x z n h=>?_;obtain ⟨dx,fs,c,d,kvs,hx,aW,hc,hd,hD,iy,q⟩:=h;refine ⟨_,((am (jT T.aK T.vo jO (ad 0) bi)
 (aq (tD (f7 hr) (ap T.aK T.o9 (ad 0)) (ad 1) (ad 2))))).h,?_⟩
 refine stI [some (V.ref x),some (V.str z),some (V.int n)] ?_;have dF:d≠x:=fun e=>by rw [e,hx] at hD; cases hD
 refine ai ?_;left;refine ⟨x,dx,fs,.int c,rfl,hx,hc,_,_,rfl,rfl,dx,fs,hx,by omega,?_⟩;left;refine ⟨x,dx,_,.ref d,rfl,ax,by rw [dS,if_neg (by decide)]; exact hd,d,_,rfl,iI.k (k:=.inr z) (by rw [ag dF]; exact hD) (lQ (by omega)),q⟩
theorem Pk:T.se.k P w mg base 1 (Jz T.aI "standings"):=by
 refine T.se.F.ok aab (fun _ _ _ _ h=>jb h fun _ _ _ _=>rfl) fun ah A outer s H vs Q E hr h=>jb h fun x z n h=>?_;obtain ⟨dx,fs,c,d,kvs,hx,aW,hc,hd,hD,iy,q⟩:=h;refine ⟨_,((am (jT T.aK T.vo jO (ad 0) bi)
 (aq (tD (f7 hr) (ap T.aK T.yX (ad 0)) (ad 1) (ad 2))))).h,?_⟩
 refine stI [some (V.ref x),some (V.str z),some (V.int n)] ?_;have dF:d≠x:=fun e=>by rw [e,hx] at hD; cases hD
 refine ai ?_;left;refine ⟨x,dx,fs,.int c,rfl,hx,hc,_,_,rfl,rfl,dx,fs,hx,by omega,?_⟩;left;refine ⟨x,dx,_,.ref d,rfl,ax,by rw [dS,if_neg (by decide)]; exact hd,d,_,rfl,iI.k (k:=.inr z) (by rw [ag dF]; exact hD) (lQ (by omega)),q⟩
theorem LB:T.nN.k P w mg base 2 (Zg T.aI):=by
 refine T.nN.F.ok WW (fun _ _ _ _ h=>eL h fun _ _ _=>rfl) fun ah A outer s H vs Q E hr h=>eL h fun x z h=>?_;obtain ⟨dx,fs,c,ro,st,kr,ks,hx,aW,hc,qh,aR,kS,xx,dP,EJ,DI,Dj,EG,kM,q⟩:=h;refine ⟨_,((am (aY (bf T.aK T.rH.h (Wx T) hr.m T.rH.b .nil aw (ad 0) (aa (ad 1) (aa (ap T.aK T.Bb (ad 0)) ae))))
 (aq (aY (bf T.aK T.se.h (Pk T) hr.m T.se.b .nil aw (ad 0) (aa (ad 1) (aa (ap T.aK T.Bb (ad 0)) ae))))))).h,?_⟩
 refine stI [some (V.ref x),some (V.str z)] ?_;have n1:ro≠x:=fun e=>by rw [e,hx] at EJ; cases EJ
 have n2:st≠x:=fun e=>by rw [e,hx] at Dj; cases Dj
 refine ai ?_;left;refine ⟨x,dx,fs,rfl,hx,xx,x,dx,fs,.int 0,rfl,hx,kS,?_⟩;refine ⟨dx,fs,c,ro,kr,hx,by omega,hc,qh,EJ,DI,?_⟩;have bo:upd (upd H x (.ins T.aI dx (ay "changes" (.int (c+1)) fs))) ro (.dK (putK kr (.inr z) (.int 0))) x=some (.ins T.aI dx (ay "changes" (.int (c+1)) fs)):=by rw [ag (Ne.symm n1),ax]
 have gQ:upd (upd H x (.ins T.aI dx (ay "changes" (.int (c+1)) fs))) ro (.dK (putK kr (.inr z) (.int 0))) ro=some (.dK (putK kr (.inr z) (.int 0))):=ax;have Dd:upd (upd H x (.ins T.aI dx (ay "changes" (.int (c+1)) fs))) ro (.dK (putK kr (.inr z) (.int 0))) st=some (.dK ks):=by rw [ag (Ne.symm kM),ag n2]; exact Dj
 have n8:∀ b,b≠x->b≠ro->upd (upd H x (.ins T.aI dx (ay "changes" (.int (c+1)) fs))) ro (.dK (putK kr (.inr z) (.int 0))) b=H b:=fun b b1 b2=>by rw [ag b2,ag b1]
 generalize upd (upd H x (.ins T.aI dx (ay "changes" (.int (c+1)) fs))) ro (.dK (putK kr (.inr z) (.int 0)))=H1 at bo gQ Dd n8 ⊢;have lk:∀ f:Str,f ≠ "changes" -> (ay "changes" (.int (c+1)) fs).lookup f=fs.lookup f:=fun f hf=>by rw [dS,if_neg hf]
 left;refine ⟨x,dx,_,rfl,bo,(lk _ (by decide)).trans dP,x,dx,_,.int 0,rfl,bo,(lk _ (by decide)).trans kS,?_⟩;refine ⟨dx,_,c+1,st,ks,bo,by rw [f9 hc]; exact aW,by rw [dS,if_pos rfl],(lk _ (by decide)).trans aR,Dd,EG,?_⟩;refine q _ (c+1+1) _ (by rw [ag (Ne.symm n2),ax]) (by rw [f9 (u:=.int (c+1)) (by rw [dS,if_pos rfl]),f9 hc]; exact aW) (fun f=>?_) (by rw [ag kM,ag n1]; exact gQ) ax (fun b b1 b2 b3=>by rw [ag b3,ag b1]; exact n8 b b1 b2);rw [dS,dS,dS];by_cases e:f = "changes"
 ·rw [if_pos e,if_pos e]
 ·rw [if_neg e,if_neg e,if_neg e]
def Zv (CH CS CT:Addr):Sp:=o6 fun x m own H Q _=>A2 (m = "main") (X7 fun dx fs c t dt ml tr=>A9 (H x=some (.ins CH dx fs)) (fs.length<=40) (fs.lookup ("things" : Str)=some (.ref t)) (fs.lookup ("changes" : Str)=some (.int c)) (fs.lookup ("tree_roots" : Str)=some (.ref tr)) (fs.lookup ("add_folder" : Str)=none) (jI CS H t dt ml []) (H tr=some (.dK [])) (∀ th c8 nm pl fs' ks c' H',H th=none->H nm=none->H pl=none->H' x=some (.ins CH dx fs')->fs'.length<=fs.length->cW fs' (ay "changes" (.int c') fs)->jI CS H' t dt ml [.ref th]->H' th=some (.ins CT c8 ks)->ks.length<=40 ->
    cW ks (r6 (.int 0) (.str "folder") (.str own) (.str "lgw") (.str "lg") (.str "") (.ref nm) (.ref pl))->H' nm=some (.dK [])->H' pl=some (.dT [])->H' tr=some (.dK [(.inr "main",.int 0)])->Kp [x,t,ml,tr] H H'->Q (.int 0) H'))
theorem Xy:T.rQ.k P w mg base 5 (Zv T.aI T.aO T.aV):=by
 refine T.rQ.F.ok Kb (fun _ _ _ _ h=>jf h fun _ _ _ _=>rfl) fun ah A outer s H vs Q E hr h=>jf h fun x m own h=>?_;obtain ⟨rfl,dx,fs,c,t,dt,ml,tr,hx,aW,aF,hc,ig,gv,DG,jA,q⟩:=h;obtain ⟨gs,d,ht,cR,sg⟩:=DG.o;have iz:=DG.ml;refine ⟨_,((am (aQ 3 Kb.nd (bf T.bV T.nJ.h (Gu T) hr.m T.nJ.b .nil aw (ap T.aK T.eJ (ad 0)) (aa (ad 2) (aa bn (aa bn ae)))))
 (am (jT T.aK T.vo jO (ad 0) bi)
 (am (tD (f7 hr) (ap T.aK T.J4 (ad 0)) (ad 1) (ad 3))
 (aq (aN (ad 3))))))).h,?_⟩
 refine stI [some (V.ref x),some (V.str "main"),some (V.str own),none] ?_;have n1:t≠x\/True:=.inr trivial;refine ai ?_;left;refine ⟨x,dx,fs,.ref t,rfl,hx,aF,t,dt,gs,rfl,ht,(sg _).trans rfl,?_⟩;refine ⟨dt,ml,[],DG,by simp,?_⟩;intro th c8 nm pl ks H1 fth fnm fpl at1 hth1 hkl1 sk1 hnm1 DN ie;obtain ⟨gs',d',gT,LM,DL⟩:=at1.o;have kX:=at1.ml;have gd:x≠t:=fun e=>by
  rw [e,ht] at hx;injection hx with hx;injection hx with _ _ jC;rw [<- jC] at aF;have:=(sg "things").symm.trans aF;cases this
 have LK:x≠ml:=fun e=>by rw [e,iz] at hx; cases hx
 have NA:tr≠t:=fun e=>by rw [e,ht] at jA; cases jA
 have Ml:tr≠ml:=fun e=>by rw [e,iz] at jA; cases jA
 have Mv:tr≠x:=fun e=>by rw [e,hx] at jA; cases jA
 have bo:H1 x=some (.ins T.aI dx fs):=ie _ _ (by simp [gd,LK]) hx;have hTr1:H1 tr=some (.dK []):=ie _ _ (by simp [NA,Ml]) jA;refine ai ?_;left;refine ⟨x,dx,fs,.int c,rfl,bo,hc,_,_,rfl,rfl,dx,fs,bo,by omega,ai ?_⟩;left;refine ⟨x,dx,_,.ref tr,rfl,ax,by rw [dS,if_neg (by decide)]; exact ig,tr,_,rfl,iI.k (k:=.inr "main") (by rw [ag Mv]; exact hTr1) (by decide),?_⟩;left;have old:∀ b o,H1 b=some o->b≠x->b≠tr->upd (upd H1 x (.ins T.aI dx (ay "changes" (.int (c+1)) fs))) tr (.dK (putK [] (.inr "main") (.int 0))) b=some o:=fun b o e b1 b2=>by rw [ag b2,ag b1]; exact e
 have LJ:th≠x/\th≠tr:=⟨Ne.symm (aH hx fth),Ne.symm (aH jA fth)⟩;have Ny:nm≠x/\nm≠tr:=⟨Ne.symm (aH hx fnm),Ne.symm (aH jA fnm)⟩;have xK:pl≠x/\pl≠tr:=⟨Ne.symm (aH hx fpl),Ne.symm (aH jA fpl)⟩;refine q th c8 nm pl _ ks (c+1) _ fth fnm fpl (by rw [ag (Ne.symm Mv),ax]) (Nat.le_of_eq (f9 hc)) (cW.refl _) ⟨⟨gs',d',old _ _ gT (Ne.symm gd) (Ne.symm NA),LM,DL⟩,old _ _ kX (Ne.symm LK) (Ne.symm Ml)⟩ (old _ _ hth1 LJ.1 LJ.2) hkl1 sk1 (old _ _ hnm1 Ny.1 Ny.2) (old _ _ DN xK.1 xK.2) ax ?_;intro b o hb e;simp only [List.mem_cons,List.not_mem_nil,or_false,not_or] at hb;exact old _ _ (ie b o (by simp [hb.2.1,hb.2.2.1]) e) hb.1 hb.2.2.2
theorem lB:aB P w K mg base (bJ P w) 1 T.ef.f T.ef.d ["self","asker"] (Ku T.aI T.aO T.aV T.qj):=by
 refine T.ef.F.eN Yg (fun _ _ _ _ h=>wC h fun _ _ _=>rfl) fun ah A outer s H vs Q E hr h=>wC h fun x v h=>?_;obtain ⟨AA,L,M,i,rfl,⟨ty,cA⟩,q1,q2⟩:=h;obtain ⟨fs,c,hx,aW,sf⟩:=i.h;refine ⟨_,((aq (bB (hX (im (dB (cN (cC j0 T.gb gf (aa (ad 1) (aa (jF (.ty "str") T.oO pe rfl) ae))))) (lJ (Q9 (f7 hr) (ad 1) (ap T.aK T.o9 (ad 0)))))) (aq (Bx Ba rfl T.Xh T.TQ (aa bn ae))) cr))).h,?_⟩;refine stI [some (V.ref AA.a),some v] ?_;left;simp only [cA,CY cA];refine ⟨vK _ rfl,?_⟩;cases v with
 | str z =>
  simp only [wc,Bool.not_true,Bool.false_eq_true,if_false];refine ⟨AA.a,_,_,.ref AA.ro,rfl,hx,(sf _).trans rfl,AA.ro,_,rfl,dR.k (k:=.inr z) i.ro,?_⟩;cases hz:aP (sD M.ro) (.inr z) with
  | none=>exact bE ⟨fits (by simp),q2 fun z' e=>by cases e; exact hz⟩
  | some u=>exact bb (q1 z rfl (by rw [hz]; rfl))
 | _=>exact ⟨fits (by simp),q2 fun z' e=>by cases e⟩
section
variable {T:Tx K mg} {H:Hp} {A:Ad} {L:List Ta} {M:Hs}
theorem m4 {z:Str} {Q:VK} {E:XK} (i:aJ T.aI T.aO T.aV H A L M) (hz:(aP (sD M.ro) (.inr z)).isSome=true) (q:Q .au H):Ku T.aI T.aO T.aV T.qj [.ref A.a,.str z] H Q E :=
 ⟨A,L,M,i,rfl,⟨_,rfl⟩,fun _ _ _=>q,fun h=>by rw [h z rfl] at hz; cases hz⟩
end
theorem yH:T.jM.k P w mg base 2 (RB T.aI T.aO T.aV):=by
 refine T.jM.F.ok NQ (fun _ _ _ _ h=>eL h fun _ _ _=>rfl) fun ah A outer s H vs Q E hr h=>eL h fun x z h=>?_;obtain ⟨AA,L,M,r,i,rfl,hz,q⟩:=h;obtain ⟨fs,c,hx,aW,sf⟩:=i.h;refine ⟨_,((am (aY (cX T.aK T.ef.h (lB T) hr.m T.ef.b .nil dE (ad 0) (aa (ad 1) ae)))
 (aq (aN (uD (f7 hr) (ap T.aK T.o9 (ad 0)) (ad 1)))))).h,?_⟩
 refine stI [some (V.ref AA.a),some (V.str z)] ?_;refine ai ?_;left;refine (mI hx sf (m4 i (by rw [hz]; rfl) ?_));refine ⟨AA.a,_,_,.ref AA.ro,rfl,hx,(sf _).trans rfl,AA.ro,.int r,rfl,?_,q⟩;have:=dR.k (k:=.inr z) i.ro;rw [hz] at this;exact this
def Px (CH CS CT:Addr):Sp:=jl fun x z H Q _=>X4 fun A L M (r:Nat)=>A5 (aJ CH CS CT H A L M) (A.a=x) ((aP (sD M.ro) (.inr z)).isSome=true) (aP (sD M.st) (.inr z)=some (.int r)) (Q (.int r) H)
theorem Vh:T.rB.k P w mg base 2 (Px T.aI T.aO T.aV):=by
 refine T.rB.F.ok XZ (fun _ _ _ _ h=>eL h fun _ _ _=>rfl) fun ah A outer s H vs Q E hr h=>eL h fun x z h=>?_;obtain ⟨AA,L,M,r,i,rfl,hzr,hz,q⟩:=h;obtain ⟨fs,c,hx,aW,sf⟩:=i.h;refine ⟨_,((am (aY (cX T.aK T.ef.h (lB T) hr.m T.ef.b .nil dE (ad 0) (aa (ad 1) ae)))
 (aq (aN (uD (f7 hr) (ap T.aK T.yX (ad 0)) (ad 1)))))).h,?_⟩
 refine stI [some (V.ref AA.a),some (V.str z)] ?_;refine ai ?_;left;refine (mI hx sf (m4 i hzr ?_));refine ⟨AA.a,_,_,.ref AA.st,rfl,hx,(sf _).trans rfl,AA.st,.int r,rfl,?_,q⟩;have:=dR.k (k:=.inr z) i.st;rw [hz] at this;exact this
theorem Io:T.nq.k P w mg base 4 (O9 T.aI T.aO T.aV):=by
 refine T.nq.F.ok X0 (fun _ _ _ _ h=>pP h fun _ _ _ _=>rfl) fun ah A outer s H vs Q E hr h=>pP h fun x n z h=>?_;obtain ⟨AA,L,M,k,a,t,i,rfl,rfl,ha,aF,hn,hl,q⟩:=h;refine ⟨_,((am (aY (bv (zq T) hr.m T.hU.m T.hU.F.kp T.hU.b .nil aw (aa (ad 2) ae)))
 (aq (aN (bf T.bV T.nE.h (IU T) hr.m T.nE.b .nil aw (ap T.aK T.eJ (ad 0)) (aa (ad 1) (aa (ad 2) ae))))))).h,?_⟩
 refine stI [some (V.ref AA.a),some (V.int (k:Int)),some (V.str z)] ?_;refine ai ?_;left;refine ⟨⟨_,rfl⟩,hl,hn,fun H1 s1=>?_⟩;have i1:=i.same s1;obtain ⟨fs,c,hx,aW,sf⟩:=i1.h;obtain ⟨gs,c2,ht,cR,sg⟩:=i1.t;exact ⟨AA.a,_,_,.ref AA.t,rfl,hx,(sf _).trans rfl,AA.t,_,_,rfl,ht,(sg _).trans rfl,AA,L,M,k,a,t,i1,rfl,rfl,ha,aF,q H1 s1⟩
theorem uA:aB P w K mg base (bJ P w) 3 T.iJ.f T.iJ.d ["self","asker","number","right"] (Ke T.aI T.aO T.aV T.qj T.uk T.qp):=by
 refine T.iJ.F.eN S9 (fun _ _ _ _ h=>wX h fun _ _ _ _ _=>rfl) fun ah A outer s H vs Q E hr h=>wX h fun x wv v r h=>?_;obtain ⟨AA,L,M,i,rfl,hcw,hcv,hcr,q1,q2⟩:=h;obtain ⟨fs,c,hx,aW,sf⟩:=i.h;obtain ⟨gs,c2,ht,cR,sg⟩:=i.t;refine ⟨_,((am (aY (cX T.aK T.ef.h (lB T) hr.m T.ef.b .nil dO (ad 0) (aa (ad 1) ae)))
 (am (aY (eO (Ra T) hr.m T.oA.m T.oA.F.kp T.oA.b .nil dO (aa (ad 3) ae)))
 (aq (aN (em (vx (K:=K) rfl) (ad 3) (bf T.cL T.rE.h (XC T) hr.m T.rE.b .nil aw (cX T.bV T.cD.h (gH T) hr.m T.cD.b .nil dO (ap T.aK T.eJ (ad 0)) (aa (ad 2) ae)) (aa (ad 1) ae)))))))).h,?_⟩
 refine stI [some (V.ref AA.a),some wv,some v,some r] ?_;refine ai ?_;left;refine (mI hx sf ⟨AA,L,M,i,rfl,hcw,fun z ez hz=>?_,q1⟩);obtain ⟨q3,q4⟩:=q2 z ez hz;subst ez;refine ai ?_;left;refine ⟨hcr,fun h1=>?_,q3⟩;obtain ⟨st,rfl⟩:∃ st,r=.str st:=by
  unfold gW at h1;simp only [Bool.or_eq_true,decide_eq_true_eq] at h1;rcases h1 with (h1 | h1) | h1 <;> exact ⟨_,h1⟩
 obtain ⟨q5,q6⟩:=q4 st rfl h1;refine ⟨AA.a,_,_,.ref AA.t,rfl,hx,(sf _).trans rfl,AA.t,_,_,rfl,ht,(sg _).trans rfl,AA,L,M,i,rfl,hcv,fun k a t ev ha aF=>?_,q5⟩;have cb:=dW i ha aF;obtain ⟨ks,ho,fW,so⟩:=cb.o;exact (mI ho so ⟨a,k,t,cb,rfl,q6 k t ev aF⟩)
def M0 (z:Str):Hs:={ ts:=[{ kd := "folder",ow:=z,mi := "lgw",re := "lg",tx := "",aM:=[],bP:=[] }],ro:=[(z,0)],st:=[(z,0)],tr:=[("main",0)],ov:=[],un:=[] }
def Yt (CH CS CT:Addr):Sp:=jl fun x z H Q _=>A4 (∃ dx,H x=some (.ins CH dx [])) (z.length<=1000) (fb (.str z)=true) (∀ A L H',A.a=x->aJ CH CS CT H' A L (M0 z)->(∀ b∈A.w++L.flatMap Ta.l,b≠x->H b=none)->Kp [x] H H'->Q .au H')
structure iD (C dx x:Addr) (H H':Hp) (F:List (Str×V)) (W:List (Addr×HO)):Prop where
 k:Kp [x] H H'
 h:H' x=some (.ins C dx F)
 w:∀ e∈W,H' e.1=some e.2/\H e.1=none/\e.1≠x
 n:(W.map (·.1)).Nodup
section
variable {C dx x:Addr} {H H':Hp} {F:List (Str×V)} {W:List (Addr×HO)}
theorem iD.fresh (v:iD C dx x H H' F W) {p:Addr} (hp:H' p=none):H p=none/\p≠x:=by
 have hx:p≠x:=Ne.symm (aH v.h hp);refine ⟨?_,hx⟩;cases e:H p with
 | none=>rfl
 | some o=>rw [v.k p o (by simp [hx]) e] at hp; cases hp
theorem iD.set (v:iD C dx x H H' F W) (f:Str) (u:V):iD C dx x H (upd H' x (.ins C dx (ay f u F))) (ay f u F) W :=
 ⟨fun b o hb e=>by rw [ag (fun z=>hb (by simp [z]))]; exact v.k b o hb e,ax,fun e he=>let ⟨a,b,c⟩:=v.w e he; ⟨by rw [ag c]; exact a,b,c⟩,v.n⟩
theorem iD.y (v:iD C dx x H H' F W) {p:Addr} {o:HO} (hp:H' p=none):upd H' p o x=some (.ins C dx F):=by rw [ag (aH v.h hp)]; exact v.h
theorem iD.new (v:iD C dx x H H' F W) {p:Addr} (o:HO) (f:Str) (hp:H' p=none):iD C dx x H (upd (upd H' p o) x (.ins C dx (ay f (.ref p) F))) (ay f (.ref p) F) ((p,o)::W):=by
 obtain ⟨f0,nx⟩:=v.fresh hp;have old:∀ b u,b≠x->H' b=some u->upd (upd H' p o) x (.ins C dx (ay f (.ref p) F)) b=some u:=fun b u hb e=>by rw [ag hb,ag (aH e hp)]; exact e
 refine ⟨fun b u hb e=>old b u (fun z=>hb (by simp [z])) (v.k b u hb e),ax,fun e he=>?_,List.nodup_cons.mpr ⟨fun hm=>?_,v.n⟩⟩
 ·rcases List.mem_cons.mp he with rfl | he
  ·exact ⟨by rw [ag nx,ax],f0,nx⟩
  ·obtain ⟨a,b,c⟩:=v.w e he;exact ⟨old _ _ c a,b,c⟩
 ·obtain ⟨e,he,z⟩:=List.mem_map.mp hm;have:=(v.w e he).1;rw [show e.1=p from z,hp] at this;cases this
end
theorem P9:T.qO.k P w mg base 6 (Yt T.aI T.aO T.aV):=by
 refine T.qO.F.ok U5 (fun _ _ _ _ h=>eL h fun _ _ _=>rfl) fun ah A outer s H vs Q E hr h=>eL h fun x z h=>?_;obtain ⟨⟨dx,hx0⟩,kQ,hn,q⟩:=h;refine ⟨_,((am (aY (bv (zq T) hr.m T.hU.m T.hU.F.kp T.hU.b .nil aw (aa (ad 1) ae)))
 (am (bu T.aK T.eJ (ad 0) (XT T.TX (Tw T) hr.m T.V7 T.rh.b .nil aw))
 (am (bu T.aK T.vo (ad 0) bi)
 (am (bu T.aK T.o9 (ad 0) mM)
 (am (bu T.aK T.yX (ad 0) mM)
 (am (bu T.aK T.J4 (ad 0) mM)
 (am (bu T.aK T.C3 (ad 0) mM)
 (am (bu T.aK T.BG (ad 0) mM)
 (am (bu T.aK T.N6 (ad 0) mM)
 (am (bu T.aK T.P1 (ad 0) bi)
 (am (bu T.aK T.Bb (ad 0) (bf T.aK T.rQ.h (Xy T) hr.m T.rQ.b .nil aw (ad 0) (aa (dL (.str "main") T.Qt ⟨_,rfl⟩) (aa (ad 1) ae))))
 (aq (aY (bf T.aK T.nN.h (LB T) hr.m T.nN.b .nil aw (ad 0) (aa (ad 1) ae)))))))))))))))).h,?_⟩
 refine stI [some (V.ref x),some (V.str z)] ?_;refine ai ?_;left;refine ⟨⟨_,rfl⟩,kQ,hn,fun H1 s1=>?_⟩;have bo:=s1 _ _ hx0;refine ai ?_;left;intro t dt ht xJ kK;refine ⟨dt,ax,fun ml H2 iz nml fr2 hml2 gs cR sg ir=>⟨rfl,?_⟩⟩;have gd:x≠t:=aH bo ht;have nxd:x≠dt:=aH bo xJ;have hml':H1 ml=none:=by
  rw [ag nml] at iz;by_cases e:ml=dt
  ·rw [e,ax] at iz; cases iz
  ·rw [ag e] at iz; exact iz
 have s2:ao H1 H2:=fun b o e=>by
  rw [fr2 b (aH e ht) (aH e hml'),ag (aH e ht),ag (aH e xJ)]; exact e
 refine ⟨x,dx,_,rfl,s2 _ _ bo,by decide,ai ?_⟩;have V:iD T.aI dx x H (upd H2 x (.ins T.aI dx (ay "things" (.ref t) []))) (ay "things" (.ref t) []) [(t,.ins T.aO dt gs),(ml,.lst [])]:=⟨fun b o hb e=>by rw [ag (fun z=>hb (by simp [z]))]; exact s2 _ _ (s1 _ _ e),ax,fun e he=>?_,by simp [Ne.symm nml]⟩
 case refine_1 =>
  have fr:∀ {d},H1 d=none->H d=none:=fun {d} h=>by
   cases e:H d with
   | none=>rfl
   | some o=>rw [s1 _ _ e] at h; cases h
  simp only [List.mem_cons,List.not_mem_nil,or_false] at he;rcases he with rfl | rfl
  ·exact ⟨by rw [ag (Ne.symm gd)]; exact ir,fr ht,Ne.symm gd⟩
  ·exact ⟨by rw [ag (Ne.symm (aH bo hml'))]; exact hml2,fr hml',Ne.symm (aH bo hml')⟩
 clear fr2;generalize upd H2 x _=H3 at V ⊢;left;refine ⟨x,dx,_,rfl,V.h,by walk_at "f",ai ?_⟩
 replace V:=V.set "changes" (.int 0)
 generalize upd H3 x _=H4 at V ⊢;left;intro ro qh;refine ⟨x,dx,_,rfl,V.y qh,by walk_at "f",ai ?_⟩
 replace V:=V.new (.dK []) "roots" qh
 generalize upd (upd H4 ro _) x _=H5 at V ⊢;left;intro st aR;refine ⟨x,dx,_,rfl,V.y aR,by walk_at "f",ai ?_⟩
 replace V:=V.new (.dK []) "standings" aR
 generalize upd (upd H5 st _) x _=H6 at V ⊢;left;intro tr ig;refine ⟨x,dx,_,rfl,V.y ig,by walk_at "f",ai ?_⟩
 replace V:=V.new (.dK []) "tree_roots" ig
 generalize upd (upd H6 tr _) x _=H7 at V ⊢;left;intro ov hov;refine ⟨x,dx,_,rfl,V.y hov,by walk_at "f",ai ?_⟩
 replace V:=V.new (.dK []) "root_over" hov
 generalize upd (upd H7 ov _) x _=H8 at V ⊢;left;intro un hun;refine ⟨x,dx,_,rfl,V.y hun,by walk_at "f",ai ?_⟩
 replace V:=V.new (.dK []) "folder_under" hun
 generalize upd (upd H8 un _) x _=H9 at V ⊢;left;intro ho hho;refine ⟨x,dx,_,rfl,V.y hho,by walk_at "f",ai ?_⟩
 replace V:=V.new (.dK []) "holds" hho
 generalize upd (upd H9 ho _) x _=l7 at V ⊢;left;refine ⟨x,dx,_,rfl,V.h,by walk_at "f",ai ?_⟩
 replace V:=V.set "holds_given" (.int 0)
 generalize upd l7 x _=H11 at V ⊢;left;have mj:=V.h;have k11:=V.k;have hw:=V.w;have iu:=V.n;simp only [List.forall_mem_cons] at hw;simp only [List.map_cons,List.map_nil,List.nodup_cons,List.mem_cons,List.not_mem_nil,or_false,not_or,not_false_eq_true,List.nodup_nil,and_true] at iu;obtain ⟨⟨gho11,fr_ho,nho⟩,⟨my,fr_un,Ep⟩,⟨md,fr_ov,Ew⟩,⟨qD,Mz,Mm⟩,⟨gJ,Mw,D1⟩,⟨gS,Nf,Dz⟩,⟨fA,ft,n1⟩,⟨fw,MU,n2⟩,_⟩:=hw;obtain ⟨_,⟨unov,untr,unst,unro,_⟩,⟨ovtr,ovst,ovro,_⟩,⟨trst,trro,_⟩,⟨stro,_⟩,_⟩:=iu;have Mn:=Ne.symm stro;have Dm:=Ne.symm trro;have DJ:=Ne.symm trst;have NC:=Ne.symm ovro;have My:=Ne.symm ovst;have Mq:=Ne.symm ovtr;have MZ:=Ne.symm unro;have LY:=Ne.symm unst;have LQ:=Ne.symm untr;have eovun:=Ne.symm unov;have fresh:∀ {d:Addr},d≠x->H11 d=none->H d=none:=fun {d} _ h=>(V.fresh h).1;refine ⟨x,dx,_,rfl,mj,rfl,?_⟩;refine ⟨rfl,dx,_,0,t,dt,ml,tr,mj,by (repeat (refine bU ?_)); exact Nat.zero_le _,rfl,rfl,rfl,rfl,⟨⟨gs,0,fA,cR,sg⟩,fw⟩,qD,?_⟩;intro th c8 nm pl fs' ks c' H12 fth fnm fpl hxA hflA ER atA hthA hklA skA hnmA hplA htrA uh;obtain ⟨gs',d',htA,hglA,sgA⟩:=atA.o;have hmlA:=atA.ml;have lkA:=fun (f:Str) (hf:f ≠ "changes")=>(ER f).trans ((dS _ _ _ _).trans (if_neg hf));have qro:H12 ro=some (.dK []):=uh _ _ (by simp [Dz,bR gS fA (by nofun),bR gS fw (by nofun),Dm]) gS;have qst:H12 st=some (.dK []):=uh _ _ (by simp [D1,bR gJ fA (by nofun),bR gJ fw (by nofun),DJ]) gJ;have qun:H12 un=some (.dK []):=uh _ _ (by simp [Ep,bR my fA (by nofun),bR my fw (by nofun),Ne.symm LQ]) my;have qov:H12 ov=some (.dK []):=uh _ _ (by simp [Ew,bR md fA (by nofun),bR md fw (by nofun),Ne.symm Mq]) md;have ux:=fun (f:Str) (h1:f ≠ "first_root") (h2:f ≠ "changes")=>((dS "first_root" f (.int 0) fs').trans (if_neg h1)).trans (lkA f h2);refine ⟨x,dx,fs',rfl,hxA,Nat.lt_of_le_of_lt hflA (by walk_at "f"),?_⟩;refine ⟨x,dx,_,rfl,ax,(ux _ (by decide) (by decide)).trans rfl,?_⟩;refine ⟨dx,_,c',ro,st,[],[],ax,Nat.le_trans (bU (Nat.le_trans hflA (show _<=9 by (repeat (refine bU ?_)); exact Nat.zero_le _))) (by decide),by rw [dS,if_neg (by decide),ER,dS,if_pos rfl],(ux _ (by decide) (by decide)).trans rfl,(ux _ (by decide) (by decide)).trans rfl,by rw [dS,if_pos rfl],(ux _ (by decide) (by decide)).trans rfl,(ux _ (by decide) (by decide)).trans rfl,by rw [ag Dz]; exact qro,by decide,by rw [ag D1]; exact qst,by decide,Mn,?_⟩;intro gK c3 H13 hx13 gL du hro3 hst3 xv;have old:∀ b o,b≠x->b≠ro->b≠st->H12 b=some o->H13 b=some o:=fun b o b1 b2 b3 e=>by rw [xv b b1 b2 b3,ag b1]; exact e
 refine q ⟨x,dx,t,dt,ml,ro,st,tr,ov,un,ho⟩ [⟨th,c8,nm,pl⟩] H13 rfl ⟨⟨gK,c3,hx13,gL,fun f=>?_⟩,⟨gs',d',old _ _ (n1) (bR fA gS (by nofun)) (bR fA gJ (by nofun)) htA,hglA,sgA⟩,old _ _ (n2) (bR fw gS (by nofun)) (bR fw gJ (by nofun)) hmlA,rfl,fun j tt e=>?_,hro3,hst3,old _ _ (Mm) (Ne.symm Dm) (Ne.symm DJ) htrA,old _ _ (Ew) (Ne.symm NC) (Ne.symm My) qov,old _ _ (Ep) (Ne.symm MZ) (Ne.symm LY) qun,?_⟩ ?_ ?_
 ·rw [du f];refine ((ER.put "first_root" (.int 0)).put "changes" (.int c3) f).trans rfl
 ·have hj:j=0:=by
   have:=(List.getElem?_eq_some_iff.mp e).1;have h1:(M0 z).ts.length=1:=rfl;omega
  subst hj;cases e;exact ⟨_,rfl,⟨⟨ks,old _ _ (Ne.symm (aH mj fth)) (Ne.symm (aH gS fth)) (Ne.symm (aH gJ fth)) hthA,hklA,skA⟩,old _ _ (Ne.symm (aH mj fnm)) (Ne.symm (aH gS fnm)) (Ne.symm (aH gJ fnm)) hnmA,old _ _ (Ne.symm (aH mj fpl)) (Ne.symm (aH gS fpl)) (Ne.symm (aH gJ fpl)) hplA⟩⟩
 ·show List.Nodup [x,t,ml,ro,st,tr,ov,un,th,nm,pl];simp only [List.nodup_cons,List.mem_cons,List.not_mem_nil,or_false,not_or,not_false_eq_true,List.nodup_nil,and_true];exact ⟨⟨Ne.symm n1,Ne.symm n2,Ne.symm Dz,Ne.symm D1,Ne.symm Mm,Ne.symm Ew,Ne.symm Ep,aH mj fth,aH mj fnm,aH mj fpl⟩,⟨bR fA fw (by nofun),bR fA gS (by nofun),bR fA gJ (by nofun),bR fA qD (by nofun),bR fA md (by nofun),bR fA my (by nofun),aH fA fth,aH fA fnm,aH fA fpl⟩,⟨bR fw gS (by nofun),bR fw gJ (by nofun),bR fw qD (by nofun),bR fw md (by nofun),bR fw my (by nofun),aH fw fth,aH fw fnm,aH fw fpl⟩,⟨Mn,Dm,NC,MZ,aH gS fth,aH gS fnm,aH gS fpl⟩,⟨DJ,My,LY,aH gJ fth,aH gJ fnm,aH gJ fpl⟩,⟨Mq,LQ,aH qD fth,aH qD fnm,aH qD fpl⟩,⟨eovun,aH md fth,aH md fnm,aH md fpl⟩,⟨aH my fth,aH my fnm,aH my fpl⟩,⟨bR hthA hnmA (by nofun),bR hthA hplA (by nofun)⟩,bR hnmA hplA (by nofun)⟩
 ·intro b hb nY;have hb':b∈[x,t,ml,ro,st,tr,ov,un,th,nm,pl]:=hb;simp only [List.mem_cons,List.not_mem_nil,or_false] at hb';rcases hb' with rfl | rfl | rfl | rfl | rfl | rfl | rfl | rfl | rfl | rfl | rfl
  ·exact absurd rfl nY
  ·exact ft
  ·exact MU
  ·exact Nf
  ·exact Mw
  ·exact Mz
  ·exact fr_ov
  ·exact fr_un
  ·exact fresh nY fth
  ·exact fresh nY fnm
  ·exact fresh nY fpl
 ·intro b o hb e;have nY:b≠x:=fun z=>hb (by simp [z]);refine old b o nY (aH e Nf) (aH e Mw) (uh b o ?_ (k11 b o hb e));simp only [List.mem_cons,List.not_mem_nil,or_false,not_or];exact ⟨nY,aH e ft,aH e MU,aH e Mz⟩
def YG (CH CS CT:Addr):Sp:=jl fun x z H Q _=>X3 fun A L M=>A9 (aJ CH CS CT H A L M) (A.a=x) (z.length<=1000) (fb (.str z)=true) (M.ro.length<=30) (M.st.length<=30) (aP (sD M.ro) (.inr z)=none) (aP (sD M.st) (.inr z)=none) (∀ H',aJ CH CS CT H' A L { M with ro:=M.ro++[(z,0)],st:=M.st++[(z,0)] }->Kp [A.a,A.ro,A.st] H H'->Q .au H')
theorem Le:T.mY.k P w mg base 3 (YG T.aI T.aO T.aV):=by
 refine T.mY.F.ok Tf (fun _ _ _ _ h=>eL h fun _ _ _=>rfl) fun ah A outer s H vs Q E hr h=>eL h fun x z h=>?_;obtain ⟨AA,L,M,i,rfl,kQ,hn,dq,gN,Mi,hs0,q⟩:=h;refine ⟨_,((am (aY (bv (zq T) hr.m T.hU.m T.hU.F.kp T.hU.b .nil aw (aa (ad 1) ae)))
 (am (bB (AU (f7 hr) (ad 1) (ap T.aK T.o9 (ad 0))) (aq iA) cr)
 (aq (aY (bf T.aK T.nN.h (LB T) hr.m T.nN.b .nil aw (ad 0) (aa (ad 1) ae))))))).h,?_⟩
 refine stI [some (V.ref AA.a),some (V.str z)] ?_;refine ai ?_;left;refine ⟨⟨_,rfl⟩,kQ,hn,fun H1 s1=>?_⟩;have i1:=i.same s1;obtain ⟨fs,c,hx,aW,sf⟩:=i1.h;have nd:=i1.nd;rw [List.nodup_append] at nd;have C6:=nd.1;simp only [Ad.w,List.nodup_cons,List.mem_cons,List.not_mem_nil,or_false,not_or] at C6;refine ai ?_;left;refine ⟨AA.a,_,_,.ref AA.ro,rfl,hx,(sf _).trans rfl,AA.ro,_,rfl,dR.k (k:=.inr z) i1.ro,?_⟩;rw [Mi];refine bb ?_;left;refine (mI hx sf ⟨AA.dx,fs,c,AA.ro,AA.st,_,_,hx,aW,(sf _).trans rfl,(sf _).trans rfl,(sf _).trans rfl,(sf _).trans rfl,(sf _).trans rfl,(sf _).trans rfl,i1.ro,by unfold sD; rw [List.length_map]; omega,i1.st,by unfold sD; rw [List.length_map]; omega,C6.2.2.2.1.1,?_⟩);intro fs' c' H' hx' hfl' sf' hro' hst' fr';have e1:putK (sD M.ro) (.inr z) (.int 0)=sD (M.ro++[(z,0)]):=Al Mi;have e2:putK (sD M.st) (.inr z) (.int 0)=sD (M.st++[(z,0)]):=Al hs0;rw [e1] at hro';rw [e2] at hst';have kp:Kp [AA.a,AA.ro,AA.st] H1 H':=fun b o hb e=>by
  simp only [List.mem_cons,List.not_mem_nil,or_false,not_or] at hb;rw [fr' b hb.1 hb.2.1 hb.2.2]; exact e
 have uy:∀ b∈[AA.t,AA.ml,AA.tr,AA.ov,AA.un],b ∉ [AA.a,AA.ro,AA.st]:=by
  intro b hb hm;simp only [List.mem_cons,List.not_mem_nil,or_false] at hb hm;obtain ⟨⟨a1,a2,a3,a4,a5,a6,a7⟩,⟨b1,b2,b3,b4,b5,b6⟩,⟨c1,c2,c3,c4,c5⟩,⟨d1,d2,d3,d4⟩,⟨f1,f2,f3⟩,_⟩:=C6;rcases hb with rfl | rfl | rfl | rfl | rfl <;> rcases hm with h | h | h <;> first
   | exact a1 h.symm | exact a2 h.symm | exact a5 h.symm | exact a6 h.symm | exact a7 h.symm
   | exact b2 h | exact b3 h | exact c1' h | exact c1 h | exact c2 h | exact c3 h
   | exact d2 h.symm | exact d3 h.symm | exact d4 h.symm | exact f1 h.symm | exact f2 h.symm | exact f3 h.symm | exact b1 h | exact b4 h
 refine q H' ⟨⟨fs',c',hx',hfl',fun f=>?_⟩,?_,kp _ _ (uy _ (by simp)) i1.ml,i1.len,fun j t e=>?_,hro',hst',kp _ _ (uy _ (by simp)) i1.tr,kp _ _ (uy _ (by simp)) i1.ov,kp _ _ (uy _ (by simp)) i1.un,i1.nd⟩ (fun b o hb e=>kp b o hb (s1 b o e))
 ·rw [sf' f,dS,sf f];by_cases e:f = "changes"
  ·rw [if_pos e,e]; rfl
  ·rw [if_neg e];exact Qd e
 ·obtain ⟨gs,d,e,r⟩:=i1.t;exact ⟨gs,d,kp _ _ (uy _ (by simp)) e,r⟩
 ·obtain ⟨a,e1,h1⟩:=i1.th j t e;refine ⟨a,e1,h1.keep kp fun b hb hm=>?_⟩;have:=i1.tX e1;simp only [List.mem_cons,List.not_mem_nil,or_false] at hm;rcases hm with rfl | rfl | rfl
  ·exact this _ (by simp [Ad.w]) _ hb rfl
  ·exact this _ (by simp [Ad.w]) _ hb rfl
  ·exact this _ (by simp [Ad.w]) _ hb rfl
def ke (M:Hs):Nat->Nat->Nat->Prop
 | 0,k,b=>aP (nD M.un) (.inl (k:Int))=none/\b=k
 | n+1,k,b=>∃ k':Nat,aP (nD M.un) (.inl (k:Int))=some (.int (k':Int))/\ke M n k' b
def jc (M:Hs):Nat->Nat->List Nat->Prop
 | 0,k,l=>aP (nD M.ov) (.inl (k:Int))=none/\l=[]
 | n+1,k,l=>∃ (k':Nat) (r:List Nat),aP (nD M.ov) (.inl (k:Int))=some (.int (k':Int))/\jc M n k' r/\l=k'::r
def da (M:Hs) (k b:Nat) (r:List Nat):Prop:=(∃ n,ke M n k b)/\∃ n,jc M n b r/\n<=100
theorem jc.len {M:Hs}:∀ {n k:Nat} {l:List Nat},jc M n k l->l.length=n
 | 0,_,_,h=>by rw [h.2]; rfl
 | n+1,_,_,h=>by obtain ⟨k',r,_,h2,rfl⟩:=h; simp [h2.len]
abbrev nV (l:List Nat):List V:=l.map fun n:Nat=>V.int (n:Int)
def dk (b:Nat) (r:List Nat):Nat:=(b::r).getLast (by simp)
def Zk (CH CS CT:Addr):Sp:=jg fun x n H Q _=>X7 fun A L M (k:Nat) (b:Nat) a t=>A7 (aJ CH CS CT H A L M) (A.a=x) (n=(k:Int)) (L[k]?=some a) (M.ts[k]?=some t) (∃ m,ke M m k b) (Q (.int (b:Int)) H)
def WX (CH CS CT:Addr):Sp:=jg fun x n H Q _=>X8 fun A L M (k:Nat) (b:Nat) r a t=>A7 (aJ CH CS CT H A L M) (A.a=x) (n=(k:Int)) (L[k]?=some a) (M.ts[k]?=some t) (da M k b r) (∀ l H',ao H H'->H l=none->H' l=some (.lst (nV (b::r)))->Q (.ref l) H')
def Q5 (CH CS CT:Addr):Sp:=jg fun x n H Q _=>X8 fun A L M (k:Nat) (b:Nat) r a t=>A7 (aJ CH CS CT H A L M) (A.a=x) (n=(k:Int)) (L[k]?=some a) (M.ts[k]?=some t) (da M k b r) (∀ H',ao H H'->Q (.int (dk b r:Nat)) H')
theorem ZY:T.pf.k P w base 4 (Zk T.aI T.aO T.aV):=by
 refine T.pf.F.ok B8 (fun _ _ _ _ h=>bW h fun _ _ _=>rfl) fun ah A outer s H vs Q E hr h=>bW h fun x n h=>?_;obtain ⟨AA,L,M,k,b,a,t,i,rfl,rfl,ha,aF,⟨m,hb⟩,q⟩:=h;obtain ⟨fs,c,hx,aW,sf⟩:=i.h;refine ⟨_,((am (aY (bf T.aK T.sx.h (Sb T) hr.m T.sx.b .nil aw (ad 0) (aa (ad 1) ae)))
 (am (aQ 2 B8.nd (ad 1))
 (am (rF PassesOwn.never (AU (f7 hr) (ad 2) (ap T.aK T.BG (ad 0))) (aq (aQ 2 B8.nd (uD (f7 hr) (ap T.aK T.BG (ad 0)) (ad 2)))))
 (aq (aN (ad 2))))))).h,?_⟩
 refine stI [some (V.ref AA.a),some (V.int (k:Int)),none] ?_;refine ai ?_;left;refine (mI hx sf ⟨AA,L,M,k,a,t,i,rfl,rfl,ha,aF,?_⟩);refine ai ?_;left;refine ai ⟨fun m σ' H'=>∃ j:Nat,σ'=[some (V.ref AA.a),some (V.int (k:Int)),some (V.int (j:Int))]/\H'=H/\ke M m j b,⟨m,k,rfl,rfl,hb⟩,?_⟩;rintro m σ' H' ⟨j,rfl,rfl,hj⟩;left;refine ⟨AA.a,_,_,.ref AA.un,rfl,hx,(sf _).trans rfl,AA.un,_,rfl,dR.k (k:=.inl (j:Int)) i.un,?_⟩;cases m with
 | zero =>
  obtain ⟨h0,rfl⟩:=hj;rw [h0];exact bb q
 | succ m =>
  obtain ⟨k',h0,h1⟩:=hj;rw [h0];refine bE ⟨fun σ' H''=>∃ j:Nat,σ'=[some (V.ref AA.a),some (V.int (k:Int)),some (V.int (j:Int))]/\H''=H'/\ke M m j b,fun σ' H' z=>⟨m,Nat.lt_succ_self m,z⟩,?_⟩;left;refine ⟨AA.a,_,_,.ref AA.un,rfl,hx,(sf _).trans rfl,AA.un,.int (k':Int),rfl,?_,k',rfl,by trivial,h1⟩;have:=dR.k (k:=.inl (j:Int)) i.un;rw [h0] at this;exact this
theorem nk {a b:List Nat}:nV (a++b)=nV a++nV b:=List.map_append
theorem pB:T.dN.k P w base 5 (WX T.aI T.aO T.aV):=by
 refine T.dN.F.ok J6 (fun _ _ _ _ h=>bW h fun _ _ _=>rfl) fun ah A outer s H vs Q E hr h=>bW h fun x n h=>?_;obtain ⟨AA,L,M,k,b,r,a,t,i,rfl,rfl,ha,aF,⟨hb,⟨m,hu,hm⟩⟩,q⟩:=h;have hlen:=hu.len;refine ⟨_,((am (aQ 2 J6.nd (db (aa (bv (ZY T) hr.m T.pf.m T.pf.F.kp T.pf.b .nil aw (aa (ad 0) (aa (ad 1) ae))) ae)))
 (am (rF PassesOwn.never (AU (f7 hr) (ci (bG (K:=K) rfl) (ad 2) (ii iU bi)) (ap T.aK T.C3 (ad 0))) (aq (aY (iB PySem.F.slot_list_append PySem.F.type_list_append lz (ad 2) (aa (uD (f7 hr) (ap T.aK T.C3 (ad 0)) (ci (bG (K:=K) rfl) (ad 2) (ii iU bi))) ae)))))
 (aq (aN (ad 2)))))).h,?_⟩
 refine stI [some (V.ref AA.a),some (V.int (k:Int)),none] ?_;refine ai ?_;left;refine ⟨AA,L,M,k,b,a,t,i,rfl,rfl,ha,aF,hb,fits (by simp),fun l hl=>?_⟩;refine eF (o:=.lst [V.int (b:Int)]) hl fun H1 s1 b1=>?_;refine ai ⟨fun m σ' H'=>ao H H'/\∃ (pre:List Nat) (j:Nat) (r':List Nat),σ'=[some (V.ref AA.a),some (V.int (k:Int)),some (V.ref l)]/\H' l=some (.lst (nV pre++[V.int (j:Int)]))/\jc M m j r'/\pre++j::r'=b::r,⟨m,s1,[],b,r,rfl,b1,hu,rfl⟩,?_⟩;rintro m σ' H' ⟨s',pre,j,r',rfl,hl',hj,hp⟩;have i1:=i.same s';obtain ⟨fs,c,hx,aW,sf⟩:=i1.h;left;simp only [bS,hl',nj];refine ⟨AA.a,_,_,.ref AA.ov,rfl,hx,(sf _).trans rfl,AA.ov,_,rfl,dR.k (k:=.inl (j:Int)) i1.ov,?_⟩;cases m with
 | zero =>
  obtain ⟨h0,rfl⟩:=hj;rw [h0];refine bb (q l H' s' hl ?_);rw [hl',<- hp,nk];rfl
 | succ m =>
  obtain ⟨k',r2,h0,h1,rfl⟩:=hj;rw [h0];refine bE ⟨fun σ' H'=>ao H H'/\∃ (pre:List Nat) (j:Nat) (r':List Nat),σ'=[some (V.ref AA.a),some (V.int (k:Int)),some (V.ref l)]/\H' l=some (.lst (nV pre++[V.int (j:Int)]))/\jc M m j r'/\pre++j::r'=b::r,fun σ' H' z=>⟨m,Nat.lt_succ_self m,z⟩,?_⟩;left;refine ⟨AA.a,_,_,.ref AA.ov,rfl,hx,(sf _).trans rfl,AA.ov,.int (k':Int),rfl,?_,?_⟩
  ·have:=dR.k (k:=.inl (j:Int)) i1.ov;rw [h0] at this;exact this
  have bt:(pre++[j]).length<=102:=by
   have:=congrArg List.length hp;simp at this ⊢;omega
  refine ⟨lQ (by simp at bt ⊢; omega),s'.fM hl,pre++[j],k',r2,by trivial,?_,h1,?_⟩
  ·rw [ax,nk]; rfl
  ·rw [<- hp]; simp
theorem HN {b:Nat} {r:List Nat}:∃ pre,b::r=pre++[dk b r]:=⟨(b::r).dropLast,by unfold dk; exact (List.dropLast_concat_getLast (by simp)).symm⟩
theorem wO:T.fO.k P w base 6 (Q5 T.aI T.aO T.aV):=by
 refine T.fO.F.ok Pm (fun _ _ _ _ h=>bW h fun _ _ _=>rfl) fun ah A outer s H vs Q E hr h=>bW h fun x n h=>?_;obtain ⟨AA,L,M,k,b,r,a,t,i,rfl,rfl,ha,aF,hs,q⟩:=h;refine ⟨_,((aq (aN (ci (bG (K:=K) rfl) (bv (pB T) hr.m T.dN.m T.dN.F.kp T.dN.b .nil aw (aa (ad 0) (aa (ad 1) ae))) (ii iU bi))))).h,?_⟩;refine stI [some (V.ref AA.a),some (V.int (k:Int))] ?_;left;refine ⟨AA,L,M,k,b,r,a,t,i,rfl,rfl,ha,aF,hs,fun l H' s' _ hl=>?_⟩;dsimp only;obtain ⟨pre,hp⟩:=HN (b:=b) (r:=r);rw [hp,nk] at hl;simp only [bS,hl,List.map_cons,List.map_nil,nj];exact q _ s'
def fN (r:Nat) (l:List Nat):Bool:=l.any (· == r)
theorem sM {r:Nat}:∀ {l:List Nat},gE (V.int (r:Int)) (nV l)=fN r l
 | []=>rfl
 | x::l=>by
  have ih:=sM (r:=r) (l:=l);unfold gE at ih ⊢;unfold fN at ih ⊢;simp only [nV,List.map_cons,List.any_cons] at ih ⊢;rw [ih]
  congr 1
  unfold ff;by_cases e:x=r
  ·subst e; simp
  ·rw [beq_eq_false_iff_ne.mpr e]
   first | exact beq_eq_false_iff_ne.mpr (by omega) | (simp; omega)
def jL (M:Hs) (L:List Ta) (root:Nat):Nat->Nat->Bool->Prop
 | n,k,v=>∃ b r a t,L[k]?=some a/\M.ts[k]?=some t/\da M k b r /\
  if k=dk b r then
   if fN root (b::r)=true then v=true
   else ∃ ab tb,L[b]?=some ab/\M.ts[b]?=some tb/\((tb.bP=[]/\v=false)\/∃ f z,tb.bP=[(f,z)]/\match n with | 0=>False | n+1=>jL M L root n f v)
  else v=false
def QN (CH CS CT:Addr):Sp:=qZ fun x z n H Q _=>X6 fun A L M (k:Nat) (root:Nat) v=>A6 (aJ CH CS CT H A L M) (A.a=x) (n=(k:Int)) (aP (sD M.ro) (.inr z)=some (.int (root:Int))) (∃ m,jL M L root m k v) (∀ H',ao H H'->Q (.bl v) H')
theorem TC:T.oF.k P w base 6 (QN T.aI T.aO T.aV):=by
 refine T.oF.F.ok m7 (fun _ _ _ _ h=>jb h fun _ _ _ _=>rfl) fun ah A outer s H vs Q E hr h=>jb h fun x z n h=>?_;obtain ⟨AA,L,M,k,root,v,i,rfl,rfl,hz,⟨m,hm⟩,q⟩:=h;obtain ⟨fs,c,hx,aW,sf⟩:=i.h;refine bK (b:=aS Bg) ((am (aQ 3 m7.nd (bf T.aK T.jM.h (yH T) hr.m T.jM.b .nil aw (ad 0) (aa (ad 1) ae)))
 (am (aQ 4 m7.nd (ad 2))
 (am (aQ 5 m7.nd (bv (pB T) hr.m T.dN.m T.dN.F.kp T.dN.b .nil aw (aa (ad 0) (aa (ad 4) ae))))
 (am (rF PassesOwn.never (bY iE (ad 4) (ci (bG (K:=K) rfl) (ad 5) (ii iU bi))) (am (bB (bY (vx (K:=K) rfl) (ad 3) (ad 5)) (aq (aN ge)) cr)
 (am (aQ 6 m7.nd (bf T.aK T.jQ.h (zZ T) hr.m T.jQ.b .nil aw (ad 0) (aa (ci (bG (K:=K) rfl) (ad 5) bi) ae)))
 (am (bB (bY vU (ad 6) au) (aq (aN ge)) cr)
 (am (aQ 4 m7.nd (ci (bG (K:=K) rfl) (ad 6) bi))
 (aq (aQ 5 m7.nd (bv (pB T) hr.m T.dN.m T.dN.F.kp T.dN.b .nil aw (aa (ad 0) (aa (ad 4) ae))))))))))
 (aq (aN ge))))))) ?_
 refine stI [some (V.ref AA.a),some (V.str z),some (V.int (k:Int)),none,none,none,none] ?_;refine ai ?_;left;refine (mI hx sf ⟨AA,L,M,root,i,rfl,hz,?_⟩);refine ai ?_;left;refine ai ?_;left;obtain ⟨b,r,a,t,ha,ht,aR,dH⟩:=(by unfold jL at hm; exact hm:∃ b r a t,L[k]?=some a/\M.ts[k]?=some t/\da M k b r/\_);refine ⟨AA,L,M,k,b,r,a,t,i,rfl,rfl,ha,ht,aR,fun l H1 s1 hl0 hl=>?_⟩;refine ai ⟨fun m σ' H'=>ao H H'/\∃ (j:Nat) (l:Addr) (b:Nat) (r:List Nat) (pv:Option V),σ'=[some (V.ref AA.a),some (V.str z),some (V.int (k:Int)),some (V.int (root:Int)),some (V.int (j:Int)),some (V.ref l),pv]/\H' l=some (.lst (nV (b::r)))/\da M j b r /\
  (if j=dk b r then
   if fN root (b::r)=true then v=true
   else ∃ ab tb,L[b]?=some ab/\M.ts[b]?=some tb/\((tb.bP=[]/\v=false)\/∃ f z,tb.bP=[(f,z)]/\match m with | 0=>False | n+1=>jL M L root n f v)
  else v=false),⟨m,s1,k,l,b,r,none,rfl,hl,aR,dH⟩,?_⟩
 clear dH ha ht aR hl hl0 s1 hm;rintro m σ' H' ⟨s',j,l,b,r,pv,rfl,hl,aR,dH⟩;have i':=i.same s';obtain ⟨pre,hp⟩:=HN (b:=b) (r:=r);have cw:=hl;rw [hp,nk] at cw;left;simp only [bS,cw,List.map_cons,List.map_nil,nj];by_cases hj:j=dk b r
 ·rw [if_pos hj] at dH;rw [decide_eq_true (by rw [hj])];refine bE ⟨_,fun _ _ h=>h,?_⟩;refine ai ?_;left;simp only [bS,hl];refine ⟨rfl,by simp [cx],?_⟩;rw [sM];cases hmem:fN root (b::r) with
  | true =>
   rw [if_pos hmem] at dH;subst dH;exact bE (q _ s')
  | false =>
   rw [if_neg (by rw [hmem]; nofun)] at dH;obtain ⟨ab,tb,dG,kN,bt⟩:=dH;refine bb ?_;refine ai ?_;obtain ⟨fs,c,hx,aW,sf⟩:=i'.h;left;simp only [bS,hl,nV,List.map_cons,gX];refine (mI hx sf ⟨AA,L,M,b,ab,tb,i',rfl,rfl,dG,kN,?_⟩);rcases bt with ⟨bt,rfl⟩ | ⟨f,zz,bt,hn⟩
   ·refine .inl ⟨bt,?_⟩;refine ai ?_;left;exact ⟨by trivial,bE (q _ s')⟩
   ·refine .inr ⟨f,zz,bt,fun p hp=>?_⟩;refine ai ?_;left;refine ⟨by trivial,?_⟩;rw [decide_eq_false (by nofun)];refine bb ?_;refine ai ?_;left;simp only [bS,hp,gX];cases m with
    | zero=>exact hn.elim
    | succ m =>
     obtain ⟨b2,r2,a2,t2,EV,ir,xG,DZ⟩:=(by unfold jL at hn; exact hn:∃ b r a t,L[f]?=some a/\M.ts[f]?=some t/\da M f b r/\_);refine ⟨AA,L,M,f,b2,r2,a2,t2,i',rfl,rfl,EV,ir,xG,fun l2 H2 s2 hl0 cw=>?_⟩;exact ⟨m,Nat.lt_succ_self m,s'.trans s2,f,l2,b2,r2,some (V.ref p),rfl,cw,xG,DZ⟩
 ·rw [if_neg hj] at dH;rw [decide_eq_false (by omega)];subst dH;refine bb ?_;left;exact q _ s'
abbrev aap (M:Hs):List Str:=di (M.tr.map (·.1))
section
variable {CH CS CT:Addr} {H H':Hp} {A:Ad} {L:List Ta} {M:Hs}
end
def Cy (C:Addr) (f1 f2:Str):Sp:=BY fun x v1 v2 H Q _=>X1 fun dx=>A2 (H x=some (.ins C dx [])) (Q .au (upd H x (.ins C dx (ay f2 v2 (ay f1 v1 [])))))
theorem Yd:T.sR.k P w mg base 1 (Cy T.dv "number" "way"):=by
 refine T.sR.F.ok ZI (fun _ _ _ _ h=>l6 h fun _ _ _ _=>rfl) fun ah A outer s H vs Q E hr h=>l6 h fun x v1 v2 h=>?_;obtain ⟨dx,hx,q⟩:=h;refine ⟨_,((am (bu T.gU T.tY (ad 0) (ad 1))
 (aq (bu T.gU T.GO (ad 0) (ad 2))))).h,?_⟩
 refine stI [some (V.ref x),some v1,some v2] ?_;refine ai ?_;left;refine ⟨x,dx,_,rfl,hx,by decide,?_⟩;refine ⟨x,dx,_,rfl,ax,by walk_at "f",?_⟩;rw [lb];exact q
theorem W8:T.rk.k P w mg base 1 (Cy T.kY "folder" "name"):=by
 refine T.rk.F.ok ZU (fun _ _ _ _ h=>l6 h fun _ _ _ _=>rfl) fun ah A outer s H vs Q E hr h=>l6 h fun x v1 v2 h=>?_;obtain ⟨dx,hx,q⟩:=h;refine ⟨_,((am (bu T.ny T.wI (ad 0) (ad 1))
 (aq (bu T.ny T.xV (ad 0) (ad 2))))).h,?_⟩
 refine stI [some (V.ref x),some v1,some v2] ?_;refine ai ?_;left;refine ⟨x,dx,_,rfl,hx,by decide,?_⟩;refine ⟨x,dx,_,rfl,ax,by walk_at "f",?_⟩;rw [lb];exact q
theorem YB:T.rm.k P w mg base 1 (Cy T.dQ "step" "reason"):=by
 refine T.rm.F.ok Sa (fun _ _ _ _ h=>l6 h fun _ _ _ _=>rfl) fun ah A outer s H vs Q E hr h=>l6 h fun x v1 v2 h=>?_;obtain ⟨dx,hx,q⟩:=h;refine ⟨_,((am (bu T.iH T.yl (ad 0) (ad 1))
 (aq (bu T.iH T.AB (ad 0) (ad 2))))).h,?_⟩
 refine stI [some (V.ref x),some v1,some v2] ?_;refine ai ?_;left;refine ⟨x,dx,_,rfl,hx,by decide,?_⟩;refine ⟨x,dx,_,rfl,ax,by walk_at "f",?_⟩;rw [lb];exact q
def qK (h:Addr) (z:Str) (last:Bool) (root here:Int) (place:V) (step:Int) (av lf rd:Addr) (lr lu:Int) (told:V):List (Str×V):=[("house",.ref h),("asker",.str z),("last",.bl last),("root",.int root),("here",.int here),("place",place),("step",.int step),("asked",.ref av),("left",.ref lf),("reading",.ref rd),("leads_read",.int lr),("looked_up",.int lu),("told",told)]
structure Ws where
 here:Nat
 place:Option (Nat×Str)
 step:Nat
 asked:List Nat
 left:List (Sum Nat Str)
 bx:List Nat
 read:Nat
 look:Nat
def c9:Sum Nat Str->V
 | .inl n=>.int (n:Int)
 | .inr z=>.str z
def jn (H0 H:Hp):Option (Nat×Str)->V->Prop
 | none,v=>v=.au
 | some (k,nm),v=>∃ p,v=.ref p/\H0 p=none/\H p=some (.tup [.int (k:Int),.str nm])
structure Cn where
 CH:Addr
 CS:Addr
 CT:Addr
 CW:Addr
 CF:Addr
 CG:Addr
 CR:Addr
 CN:Addr
 CD:Addr
 CE:Addr
abbrev Tx.cn (T:Tx K mg):Cn:=⟨T.aI,T.aO,T.aV,T.bg,T.dQ,T.dv,T.fz,T.eR,T.eP,T.kY⟩
structure Wd where
 L:List Ta
 M:Hs
 z:Str
 last:Bool
 root:Nat
structure Wc extends Wd where
 H0:Hp
 A:Ad
 x:Addr
 dx:Addr
 av:Addr
 rd:Addr
structure aU (N:Cn) (c:Wc) (S:Ws) (H:Hp) (lf:Addr) (told:V):Prop where
 i:aJ N.CH N.CS N.CT c.H0 c.A c.L c.M
 s:ao c.H0 H
 x0:c.H0 c.x=none
 a0:c.H0 c.av=none
 l0:c.H0 lf=none
 r0:c.H0 c.rd=none
 o:∃ fs pv,H c.x=some (.ins N.CW c.dx fs)/\fs.length<=40/\jn c.H0 H S.place pv/\cW fs (qK c.A.a c.z c.last c.root S.here pv S.step c.av lf c.rd S.read S.look told)
 oa:H c.av=some (.lst (nV S.asked))
 ol:H lf=some (.lst (S.left.map c9))
 od:H c.rd=some (.lst (nV S.bx))
 n1:c.av≠lf
 n2:c.av≠c.rd
 n3:lf≠c.rd
 hz:aP (sD c.M.ro) (.inr c.z)=some (.int (c.root:Int))
section
variable {N:Cn} {c:Wc} {S:Ws} {H0 H H':Hp} {lf:Addr} {told:V}
theorem jn.same {p:Option (Nat×Str)} {v:V} (h:jn H0 H p v) (s:ao H H'):jn H0 H' p v:=by
 match p,h with
 | none,h=>exact h
 | some (k,nm),⟨q,e,e0,e1⟩=>exact ⟨q,e,e0,s _ _ e1⟩
theorem aU.same (v:aU N c S H lf told) (s:ao H H'):aU N c S H' lf told :=
 ⟨v.i,v.s.trans s,v.x0,v.a0,v.l0,v.r0,let ⟨fs,pv,e,l,p,f⟩:=v.o; ⟨fs,pv,s _ _ e,l,p.same s,f⟩,s _ _ v.oa,s _ _ v.ol,s _ _ v.od,v.n1,v.n2,v.n3,v.hz⟩
theorem aU.m (v:aU N c S H lf told):aJ N.CH N.CS N.CT H c.A c.L c.M:=v.i.same v.s
theorem aU.xa (v:aU N c S H lf told):c.x≠c.av/\c.x≠lf/\c.x≠c.rd:=by
 obtain ⟨fs,pv,e,_⟩:=v.o;exact ⟨bR e v.oa (by nofun),bR e v.ol (by nofun),bR e v.od (by nofun)⟩
theorem jn.put {p:Option (Nat×Str)} {v:V} {fs:List (Str×V)} {x dx CW:Addr} (h:jn H0 H p v) (hx:∃ gs,H x=some (.ins CW dx gs)):jn H0 (upd H x (.ins CW dx fs)) p v:=by
 match p,h with
 | none,h=>exact h
 | some (k,nm),⟨q,e,e0,e1⟩ =>
  obtain ⟨gs,hx⟩:=hx;exact ⟨q,e,e0,by rw [ag (Ne.symm (bR hx e1 (by nofun)))]; exact e1⟩
theorem aU.put (f:Str) (u:V) (S':Ws) (told':V) (v:aU N c S H lf told) (w:V) (hw:∀ pv,List.lookup f (qK c.A.a c.z c.last c.root S.here pv S.step c.av lf c.rd S.read S.look told)=some w:=by exact fun _=>rfl)
  (hp:S'.place=S.place:=by rfl) (ha:S'.asked=S.asked:=by rfl) (hl:S'.left=S.left:=by rfl) (hr:S'.bx=S.bx:=by rfl)
  (e:∀ pv g,List.lookup g (ay f u (qK c.A.a c.z c.last c.root S.here pv S.step c.av lf c.rd S.read S.look told))=List.lookup g (qK c.A.a c.z c.last c.root S'.here pv S'.step c.av lf c.rd S'.read S'.look told'):=by exact fun _ _=>rfl) :
  ∃ fs,H c.x=some (.ins N.CW c.dx fs)/\fs.length < 1000/\List.lookup f fs=some w/\aU N c S' (upd H c.x (.ins N.CW c.dx (ay f u fs))) lf told':=by
 obtain ⟨fs,pv,e1,l,p,sf⟩:=v.o;have hf:List.lookup f fs=some w:=(sf f).trans (hw pv);exact ⟨fs,e1,by omega,hf,⟨v.i,v.s.fM v.x0,v.x0,v.a0,v.l0,v.r0,⟨_,pv,ax,by rw [f9 hf]; exact l,by rw [hp]; exact p.put ⟨fs,e1⟩,fun g=>((sf.put f u) g).trans (e pv g)⟩,by rw [ag (Ne.symm v.xa.1),ha]; exact v.oa,by rw [ag (Ne.symm v.xa.2.1),hl]; exact v.ol,by rw [ag (Ne.symm v.xa.2.2),hr]; exact v.od,v.n1,v.n2,v.n3,v.hz⟩⟩
theorem jn.off {p:Option (Nat×Str)} {v:V} {y:Addr} {o o':HO} (h:jn H0 H p v) (hy:H y=some o) (ht:∀ xs,o≠.tup xs):jn H0 (upd H y o') p v:=by
 match p,h with
 | none,h=>exact h
 | some (k,nm),⟨q,e,e0,e1⟩ =>
  refine ⟨q,e,e0,?_⟩;rw [ag (fun z=>?_)]
  ·exact e1
  ·rw [z,hy] at e1;exact ht _ (Option.some.inj e1)
theorem aU.off {y:Addr} {o o':HO} (v:aU N c S H lf told) (y0:c.H0 y=none) (hy:H y=some o) (nx:c.x≠y) (na:c.av≠y) (nl:lf≠y) (nr:c.rd≠y) (ht:∀ xs,o≠.tup xs):aU N c S (upd H y o') lf told:=by
 obtain ⟨gs,pv,e,l,p,f⟩:=v.o;exact ⟨v.i,v.s.fM y0,v.x0,v.a0,v.l0,v.r0,⟨gs,pv,by rw [ag nx]; exact e,l,p.off hy ht,f⟩,by rw [ag na]; exact v.oa,by rw [ag nl]; exact v.ol,by rw [ag nr]; exact v.od,v.n1,v.n2,v.n3,v.hz⟩
theorem aU.UZ (v:aU N c S H lf told) (ks:List Nat):aU N c { S with asked:=ks } (upd H c.av (.lst (nV ks))) lf told:=by
 obtain ⟨gs,pv,e,l,p,f⟩:=v.o;exact ⟨v.i,v.s.fM v.a0,v.x0,v.a0,v.l0,v.r0,⟨gs,pv,by rw [ag v.xa.1]; exact e,l,p.off v.oa (by nofun),f⟩,ax,by rw [ag (Ne.symm v.n1)]; exact v.ol,by rw [ag (Ne.symm v.n2)]; exact v.od,v.n1,v.n2,v.n3,v.hz⟩
theorem aU.ra (v:aU N c S H lf told) (ts:List (Sum Nat Str)):aU N c { S with left:=ts } (upd H lf (.lst (ts.map c9))) lf told:=by
 obtain ⟨gs,pv,e,l,p,f⟩:=v.o;exact ⟨v.i,v.s.fM v.l0,v.x0,v.a0,v.l0,v.r0,⟨gs,pv,by rw [ag v.xa.2.1]; exact e,l,p.off v.ol (by nofun),f⟩,by rw [ag v.n1]; exact v.oa,ax,by rw [ag (Ne.symm v.n3)]; exact v.od,v.n1,v.n2,v.n3,v.hz⟩
theorem aU.J5 (v:aU N c S H lf told) (ks:List Nat):aU N c { S with bx:=ks } (upd H c.rd (.lst (nV ks))) lf told:=by
 obtain ⟨gs,pv,e,l,p,f⟩:=v.o;exact ⟨v.i,v.s.fM v.r0,v.x0,v.a0,v.l0,v.r0,⟨gs,pv,by rw [ag v.xa.2.2]; exact e,l,p.off v.od (by nofun),f⟩,by rw [ag v.n2]; exact v.oa,by rw [ag v.n3]; exact v.ol,ax,v.n1,v.n2,v.n3,v.hz⟩
theorem aU.N5 (v:aU N c S H lf told) (k:Nat):aU N c { S with asked:=S.asked++[k] } (upd H c.av (.lst (nV S.asked++[.int (k:Int)]))) lf told:=by
 have:=v.UZ (S.asked++[k]); rw [nk] at this; exact this
theorem aU.ZF (v:aU N c S H lf told) (k:Nat):aU N c { S with bx:=S.bx++[k] } (upd H c.rd (.lst (nV S.bx++[.int (k:Int)]))) lf told:=by
 have:=v.J5 (S.bx++[k]); rw [nk] at this; exact this
theorem aU.WT (v:aU N c S H lf told) (k:Nat):aU N c { S with left:=S.left++[.inl k] } (upd H lf (.lst (S.left.map c9++[.int (k:Int)]))) lf told:=by
 have:=v.ra (S.left++[.inl k]); rw [List.map_append] at this; exact this
theorem aU.Rj (v:aU N c S H lf told) (ts:List (Sum Nat Str)):aU N c { S with left:=S.left++ts } (upd H lf (.lst (S.left.map c9++ts.map c9))) lf told:=by
 have:=v.ra (S.left++ts); rw [List.map_append] at this; exact this
theorem aU.fresh {y:Addr} (v:aU N c S H lf told) (hy:H y=none):c.H0 y=none:=by
 cases e:c.H0 y with
 | none=>rfl
 | some o=>rw [v.s y o e] at hy; cases hy
theorem aU.Tq {l:Addr} {ts:List (Sum Nat Str)} (v:aU N c S H lf told) (l0:c.H0 l=none) (hl:H l=some (.lst (ts.map c9))) (n1:c.av≠l) (n3:l≠c.rd):∃ fs,H c.x=some (.ins N.CW c.dx fs)/\fs.length < 1000/\aU N c { S with left:=ts } (upd H c.x (.ins N.CW c.dx (ay "left" (.ref l) fs))) l told:=by
 obtain ⟨fs,pv,e,le,p,f⟩:=v.o;have nx:c.x≠l:=bR e hl (by nofun);exact ⟨fs,e,by omega,⟨v.i,v.s.fM v.x0,v.x0,v.a0,l0,v.r0,⟨_,pv,ax,by rw [f9 (u:=.ref lf) ((f _).trans rfl)]; exact le,p.put ⟨fs,e⟩,fun g=>((f.put "left" (.ref l)) g).trans rfl⟩,by rw [ag (Ne.symm v.xa.1)]; exact v.oa,by rw [ag (Ne.symm nx)]; exact hl,by rw [ag (Ne.symm v.xa.2.2)]; exact v.od,n1,v.n2,n3,v.hz⟩⟩
theorem aU.fld (v:aU N c S H lf told):∃ fs pv,H c.x=some (.ins N.CW c.dx fs)/\fs.length < 1000/\cW fs (qK c.A.a c.z c.last c.root S.here pv S.step c.av lf c.rd S.read S.look told):=by
 obtain ⟨fs,pv,e,l,p,f⟩:=v.o;exact ⟨fs,pv,e,by omega,f⟩
theorem aU.placed {p:Addr} {k:Nat} {nm:Str} (v:aU N c S H lf told) (p0:c.H0 p=none) (hp:H p=some (.tup [.int (k:Int),.str nm])):∃ fs,H c.x=some (.ins N.CW c.dx fs)/\fs.length < 1000/\aU N c { S with place:=some (k,nm) } (upd H c.x (.ins N.CW c.dx (ay "place" (.ref p) fs))) lf told:=by
 obtain ⟨fs,pv,e,l,_,f⟩:=v.o;exact ⟨fs,e,by omega,⟨v.i,v.s.fM v.x0,v.x0,v.a0,v.l0,v.r0,⟨_,.ref p,ax,by rw [f9 (u:=pv) ((f _).trans rfl)]; exact l,⟨p,rfl,p0,by rw [ag (Ne.symm (bR e hp (by nofun)))]; exact hp⟩,fun g=>((f.put "place" (.ref p)) g).trans rfl⟩,by rw [ag (Ne.symm v.xa.1)]; exact v.oa,by rw [ag (Ne.symm v.xa.2.1)]; exact v.ol,by rw [ag (Ne.symm v.xa.2.2)]; exact v.od,v.n1,v.n2,v.n3,v.hz⟩⟩
end
def T2 (N:Cn):Sp:=K9 fun x h z last H Q _=>X6 fun A L M dx H0 (root:Nat)=>A7 (aJ N.CH N.CS N.CT H0 A L M) (A.a=h) (H x=some (.ins N.CW dx [])) (ao H0 H) (H0 x=none) (aP (sD M.ro) (.inr z)=some (.int (root:Int))) (∀ av lf rd H',aU N ⟨⟨L,M,z,last,root⟩,H0,A,x,dx,av,rd⟩ ⟨root,none,0,[],[],[],0,0⟩ H' lf .au->Q .au H')
theorem Y4:T.rG.k P w mg base 3 (T2 T.cn):=by
 refine T.rG.F.ok VN (fun _ _ _ _ h=>HC h fun _ _ _ _ _=>rfl) fun ah A outer s H vs Q E hr h=>HC h fun x hh z last h=>?_;obtain ⟨AA,L,M,dx,H0,root,i,rfl,hx,s0,x0,hz,q⟩:=h;refine bK (b:=aS Ah) ((am (bu T.aG T.fm (ad 0) (ad 1))
 (am (bu T.aG T.rf (ad 0) (ad 2))
 (am (bu T.aG T.Kx (ad 0) (ad 3))
 (am (bu T.aG T.sZ (ad 0) (bf T.aK T.jM.h (yH T) hr.m T.jM.b .nil aw (ad 1) (aa (ad 2) ae)))
 (am (bu T.aG T.fo (ad 0) (ap T.aG T.sZ (ad 0)))
 (am (bu T.aG T.wZ (ad 0) au)
 (am (bu T.aG T.zA (ad 0) bi)
 (am (bu T.aG T.Bq (ad 0) (db ae))
 (am (bu T.aG T.ni (ad 0) (db ae))
 (am (bu T.aG T.px (ad 0) (db ae))
 (am (bu T.aG T.B6 (ad 0) bi)
 (am (bu T.aG T.KU (ad 0) bi)
 (aq (bu T.aG T.lP (ad 0) au))))))))))))))) ?_
 refine stI [some (V.ref x),some (V.ref AA.a),some (V.str z),some (V.bl last)] ?_;refine ai ?_;left;refine ⟨x,dx,_,rfl,hx,by decide,ai ?_⟩;left;refine ⟨x,dx,_,rfl,ax,by walk_at "f",ai ?_⟩;left;refine ⟨x,dx,_,rfl,ax,by walk_at "f",ai ?_⟩;simp only [lb];left;have s1:=s0.fM (o:=.ins T.bg dx (ay "last" (.bl last) (ay "asker" (.str z) (ay "house" (.ref AA.a) [])))) x0;have b1:upd H x (.ins T.bg dx (ay "last" (.bl last) (ay "asker" (.str z) (ay "house" (.ref AA.a) [])))) x=some (.ins T.bg dx (ay "last" (.bl last) (ay "asker" (.str z) (ay "house" (.ref AA.a) [])))):=ax;generalize upd H x (.ins T.bg dx (ay "last" (.bl last) (ay "asker" (.str z) (ay "house" (.ref AA.a) []))))=H1 at s1 b1 ⊢;have i1:=i.same s1;obtain ⟨fs,c,bo,aW,sf⟩:=i1.h;refine (mI bo sf ⟨AA,L,M,root,i1,rfl,hz,?_⟩);refine ⟨x,dx,_,rfl,b1,by walk_at "f",ai ?_⟩;left;refine ⟨x,dx,_,_,rfl,ax,rfl,x,dx,_,rfl,ax,by walk_at "f",ai ?_⟩;left;refine ⟨x,dx,_,rfl,ax,by walk_at "f",ai ?_⟩;left;refine ⟨x,dx,_,rfl,ax,by walk_at "f",ai ?_⟩;simp only [lb];left;have Ni:cW (ay "step" (.int 0) (ay "place" .au (ay "here" (.int (root:Int)) (ay "root" (.int (root:Int)) (ay "last" (.bl last) (ay "asker" (.str z) (ay "house" (.ref AA.a) []))))))) [("house",.ref AA.a),("asker",.str z),("last",.bl last),("root",.int (root:Int)),("here",.int (root:Int)),("place",.au),("step",.int 0)]:=fun f=>rfl;have LX:(ay "step" (.int 0) (ay "place" .au (ay "here" (.int (root:Int)) (ay "root" (.int (root:Int)) (ay "last" (.bl last) (ay "asker" (.str z) (ay "house" (.ref AA.a) []))))))).length<=10:=by (repeat (refine bU ?_)); exact Nat.zero_le _
 generalize (ay "step" (.int 0) (ay "place" .au (ay "here" (.int (root:Int)) (ay "root" (.int (root:Int)) (ay "last" (.bl last) (ay "asker" (.str z) (ay "house" (.ref AA.a) [])))))))=F7 at Ni LX ⊢;have s2:=s1.fM (o:=.ins T.bg dx F7) x0;have b2:upd H1 x (.ins T.bg dx F7) x=some (.ins T.bg dx F7):=ax;generalize upd H1 x (.ins T.bg dx F7)=H2 at s2 b2 ⊢;have bF:∀ {J:Hp} {d:Addr},ao H0 J->J d=none->H0 d=none:=fun {J d} k hn=>by
  cases e:H0 d with
  | none=>rfl
  | some o=>rw [k d o e] at hn; cases hn
 refine ⟨fits (by simp),fun av il=>?_⟩;refine ⟨x,dx,_,rfl,by rw [ag (aH b2 il)]; exact b2,by omega,ai ?_⟩;obtain ⟨b3,o3,old3,n3⟩:=BM (o:=.lst []) (O:=.ins T.bg dx (ay "asked" (.ref av) F7)) il b2;have s3:=(s2.trans (ao.upd (o:=.lst []) il)).fM (o:=.ins T.bg dx (ay "asked" (.ref av) F7)) x0;have av0:=bF s2 il;generalize upd (upd H2 av (.lst [])) x (.ins T.bg dx (ay "asked" (.ref av) F7))=H3 at b3 o3 old3 s3 ⊢;left;refine ⟨fits (by simp),fun lf hlf=>?_⟩;have l1:(ay "asked" (.ref av) F7).length<=11:=bU LX;refine ⟨x,dx,_,rfl,by rw [ag (aH b3 hlf)]; exact b3,by omega,ai ?_⟩;obtain ⟨b4,o4,LR,n4⟩:=BM (o:=.lst []) (O:=.ins T.bg dx (ay "left" (.ref lf) (ay "asked" (.ref av) F7))) hlf b3;have s4:=(s3.trans (ao.upd (o:=.lst []) hlf)).fM (o:=.ins T.bg dx (ay "left" (.ref lf) (ay "asked" (.ref av) F7))) x0;have lf0:=bF s3 hlf;have xM:av≠lf:=aH o3 hlf;have Dx:=LR av _ n3 o3;generalize upd (upd H3 lf (.lst [])) x (.ins T.bg dx (ay "left" (.ref lf) (ay "asked" (.ref av) F7)))=H4 at b4 o4 LR s4 Dx ⊢;left;refine ⟨fits (by simp),fun rd gq=>?_⟩;have l2:(ay "left" (.ref lf) (ay "asked" (.ref av) F7)).length<=12:=bU l1;refine ⟨x,dx,_,rfl,by rw [ag (aH b4 gq)]; exact b4,by omega,ai ?_⟩;obtain ⟨b5,o5,EE,n5⟩:=BM (o:=.lst []) (O:=.ins T.bg dx (ay "reading" (.ref rd) (ay "left" (.ref lf) (ay "asked" (.ref av) F7)))) gq b4;have s5:=(s4.trans (ao.upd (o:=.lst []) gq)).fM (o:=.ins T.bg dx (ay "reading" (.ref rd) (ay "left" (.ref lf) (ay "asked" (.ref av) F7)))) x0;have Nt:=EE av _ n3 Dx;have M4:=EE lf _ n4 o4;have rd0:=bF s4 gq;have nar:av≠rd:=aH Dx gq;have EI:lf≠rd:=aH o4 gq;generalize upd (upd H4 rd (.lst [])) x (.ins T.bg dx (ay "reading" (.ref rd) (ay "left" (.ref lf) (ay "asked" (.ref av) F7))))=H5 at b5 o5 EE s5 Nt M4 ⊢;have l3:(ay "reading" (.ref rd) (ay "left" (.ref lf) (ay "asked" (.ref av) F7))).length<=13:=bU l2;left;refine ⟨x,dx,_,rfl,b5,by omega,ai ?_⟩;have l4:(ay "leads_read" (.int 0) (ay "reading" (.ref rd) (ay "left" (.ref lf) (ay "asked" (.ref av) F7)))).length<=14:=bU l3;left;refine ⟨x,dx,_,rfl,ax,by omega,?_⟩;have l5:(ay "looked_up" (.int 0) (ay "leads_read" (.int 0) (ay "reading" (.ref rd) (ay "left" (.ref lf) (ay "asked" (.ref av) F7))))).length<=15:=bU l4;refine ⟨x,dx,_,rfl,ax,by omega,?_⟩;simp only [lb];refine q av lf rd _ ⟨i,s5.fM x0,x0,av0,lf0,rd0,⟨_,.au,ax,Nat.le_trans (bU l5) (by decide),rfl,fun f=>?_⟩,by rw [ag n3]; exact Nt,by rw [ag n4]; exact M4,by rw [ag n5]; exact o5,xM,nar,EI,hz⟩;exact ((((((Ni.put "asked" (.ref av)).put "left" (.ref lf)).put "reading" (.ref rd)).put "leads_read" (.int 0)).put "looked_up" (.int 0)).put "told" .au f).trans rfl
abbrev BA (k:Nat) (r:Str):List (Str×V):=ay "reason" (.str r) (ay "step" (.int (k:Int)) [])
inductive Tl
 | fail (y:Str)
 | ring (ns:List Nat)
def tE (N:Cn) (H0 H:Hp) (step:Nat) (fd:Addr):Tl->Prop
 | .fail y=>H0 fd=none/\∃ bh,H fd=some (.ins N.CF bh (BA step y))
 | .ring ns=>H0 fd=none/\∃ bh rl,H fd=some (.ins N.CR bh (ay "leads" (.ref rl) []))/\H rl=some (.lst (nV ns))
structure rj (N:Cn) (c:Wc) (S:Ws) (lf:Addr) (o:Option Tl) (R:Hp->Prop):Prop where
 n:o=none->∀ H',aU N c S H' lf .au->R H'
 y:∀ t,o=some t->∀ fd H',aU N c S H' lf (.ref fd)->tE N c.H0 H' S.step fd t->R H'
def O0 (N:Cn):Sp:=jl fun x r H Q _=>X3 fun c S lf=>A3 (c.x=x) (aU N c S H lf .au) (rj N c S lf (some (.fail r)) (Q .au))
theorem aU.tells {N:Cn} {c:Wc} {S:Ws} {H H4:Hp} {lf fd bh C:Addr} {F:List (Str×V)} {t:Tl} (v:aU N c S H lf .au) (bc:H fd=none) (s4:ao H H4) (b4:H4 fd=some (.ins C bh [])) :
  ∃ fs,upd H4 fd (.ins C bh F) c.x=some (.ins N.CW c.dx fs)/\fs.length < 1000/\aU N c S (upd (upd H4 fd (.ins C bh F)) c.x (.ins N.CW c.dx (ay "told" (.ref fd) fs))) lf (.ref fd)/\c.H0 fd=none/\c.x≠fd:=by
 obtain ⟨fs,pv,hx,aW,sf⟩:=v.fld;have f0:=v.fresh bc;have nx:c.x≠fd:=aH hx bc;have v5:=(v.same s4).off (o':=.ins C bh F) f0 b4 nx (aH v.oa bc) (aH v.ol bc) (aH v.od bc) (by nofun);obtain ⟨qB,iT,fV,_,v6⟩:=v5.put "told" (.ref fd) S (.ref fd) .au;exact ⟨qB,iT,fV,v6,f0,nx⟩
theorem tL:T.gI.k P w mg base 3 (O0 T.cn):=by
 refine T.gI.F.ok Wr (fun _ _ _ _ h=>eL h fun _ _ _=>rfl) fun ah A outer s H vs Q E hr h=>eL h fun x r h=>?_;obtain ⟨c,S,lf,rfl,v,q⟩:=h;refine bK (b:=aS Ay) ((aq (bu T.aG T.lP (ad 0) (io T.Ux (YB T) hr.m T.yj T.rm.b .nil aw (aa (ap T.aG T.zA (ad 0)) (aa (ad 1) ae)))))) ?_;refine stI [some (V.ref c.x),some (V.str r)] ?_;obtain ⟨fs,pv,hx,aW,sf⟩:=v.fld;left;refine (fI hx sf rfl (fun fd bh bc hdfd nfd=>?_));have s4:=(ao.upd (o:=.own fd) hdfd).trans (ao.upd (p:=fd) (o:=.ins T.dQ bh []) (by rw [ag (Ne.symm nfd)]; exact bc));have b4:upd (upd H bh (.own fd)) fd (.ins T.dQ bh []) fd=some (.ins T.dQ bh []):=ax;generalize upd (upd H bh (.own fd)) fd (.ins T.dQ bh [])=H4 at s4 b4 ⊢;refine ⟨bh,b4,rfl,?_⟩;obtain ⟨qB,iT,fV,v6,f0,nx⟩:=v.tells (t:=.fail r) (F:=BA S.step r) bc s4 b4;exact ⟨c.x,_,_,rfl,iT,fV,q.y _ rfl fd _ v6 ⟨f0,bh,by rw [ag (Ne.symm nx)]; exact ax⟩⟩
def iF:List Nat->Nat
 | []=>0
 | [a]=>a
 | a::b::r=>min a (iF (b::r))
theorem yG:∀ {ns:List Nat},ns≠[]->iF ns∈ns
 | [],h=>absurd rfl h
 | [a],_=>by simp [iF]
 | a::b::r,_=>by
  have:=yG (ns:=b::r) (by simp);unfold iF;rcases Nat.le_total a (iF (b::r)) with h | h
  ·rw [Nat.min_eq_left h]; simp
  ·rw [Nat.min_eq_right h]; exact List.mem_cons_of_mem _ this
theorem Ln:∀ {ns:List Nat} {k:Nat},k∈ns->iF ns<=k
 | [a],k,h=>by rw [List.mem_singleton.mp h]; exact Nat.le_refl _
 | a::b::r,k,h=>by
  unfold iF;rcases List.mem_cons.mp h with rfl | h
  ·exact Nat.min_le_left _ _
  ·exact Nat.le_trans (Nat.min_le_right _ _) (Ln h)
def lK (ns:List Nat):List Nat:=ns.drop (ns.idxOf (iF ns))++ns.take (ns.idxOf (iF ns))
theorem FN (ns:List Nat):nV ns=(ns.map (fun k:Nat=>(k:Int))).map V.int:=by
 unfold nV; rw [List.map_map]; rfl
theorem y1 (k:Nat):∀ ns:List Nat,(ns.map (fun k:Nat=>(k:Int))).idxOf (k:Int)=ns.idxOf k
 | []=>rfl
 | a::r=>by
  have h:((a:Int) == (k:Int))=(a == k):=by
   rw [Bool.eq_iff_iff,beq_iff_eq,beq_iff_eq]; omega
  rw [List.map_cons,List.idxOf_cons,List.idxOf_cons,y1 k r,h]
theorem mem_cast {k:Nat} {ns:List Nat} (h:k∈ns):(k:Int)∈ns.map (fun k:Nat=>(k:Int)):=List.mem_map.mpr ⟨k,h,rfl⟩
def Sn:Sp:=fZ fun l H Q _=>X1 fun (ns:List Nat)=>A4 (H l=some (.lst (nV ns))) (ns≠[]) (ns.length<=500) (∀ l' H',ao H H'->H l'=none->H' l'=some (.lst (nV (lK ns)))->Q (.ref l') H')
theorem VO:T.pT.k P w base 1 Sn:=by
 refine T.pT.F.ok IP (fun _ _ _ _ h=>cI h fun _ _=>rfl) fun ah A outer s H vs Q E hr h=>cI h fun l h=>?_;obtain ⟨ns,hl,dF,hlen,q⟩:=h;refine bK (b:=aS yq) ((am (aQ 1 IP.nd (iB PySem.F.slot_list_index PySem.F.type_list_index (Fi (K:=K) rfl) (ad 0) (aa (cC (Zj (K:=K) rfl rfl) T.Cd Lz (aa (ad 0) ae)) ae)))
 (aq (aN (dl gD (jp (m8 (K:=K) rfl) (ad 0) (lT (ad 1)) pE) (jp (m8 (K:=K) rfl) (ad 0) pE (lT (ad 1)))))))) ?_
 refine stI [some (V.ref l),none] ?_;refine ai ?_;left;simp only [hl];have hS:aC K H l ((ns.map (fun k:Nat=>(k:Int))).map V.int):=aC.of (by rw [hl,FN]);refine ⟨_,_,hS,mem_cast (yG dF),fun k hk=>?_,_,hS,mem_cast (yG dF),nV ns,aC.of hl,fun p hp=>?_⟩
 ·obtain ⟨k',hk',rfl⟩:=List.mem_map.mp hk;have:=Ln hk';omega
 rw [y1,G0];refine eF (o:=.lst (List.drop (ns.idxOf (iF ns)) (nV ns))) hp fun H1 s1 b1=>?_;refine ⟨nV ns,aC.of (s1 _ _ hl),fun p2 dP=>?_⟩;rw [Su];refine eF (o:=.lst (List.take (ns.idxOf (iF ns)) (nV ns))) dP fun H2 s2 b2=>?_;simp only [s2 _ _ b1,b2];refine ⟨fits (by simp [nV]; omega),fun p3 eD=>?_⟩;refine q p3 _ ((s1.trans s2).trans (ao.upd eD)) ?_ ?_
 ·cases e:H p3 with
  | none=>rfl
  | some o=>rw [(s1.trans s2) _ _ e] at eD; cases eD
 ·rw [ax];unfold lK nV;rw [List.map_append,List.map_drop,List.map_take]
def P0 (C:Addr):Sp:=tF fun x l H Q _=>X2 fun dx ns=>A3 (H x=some (.ins C dx [])) (H l=some (.lst (nV ns))) (∀ rl,H rl=none->Q .au (upd (upd H rl (.lst (nV ns))) x (.ins C dx (ay "leads" (.ref rl) []))))
theorem XR:T.sP.k P w mg base 1 (P0 T.fz):=by
 refine T.sP.F.ok SS (fun _ _ _ _ h=>lF h fun _ _ _=>rfl) fun ah A outer s H vs Q E hr h=>lF h fun x l h=>?_;obtain ⟨dx,ns,hx,hl,q⟩:=h;refine bK (b:=aS yo) ((aq (bu T.m3 T.JS (ad 0) (ye (TH (K:=K) rfl) T.rp GB (aa (ad 1) ae))))) ?_;refine stI [some (V.ref x),some (V.ref l)] ?_;left;simp only [bS,hl];exact fun rl dq=>⟨x,dx,_,rfl,by rw [ag (aH hx dq)]; exact hx,by decide,q rl dq⟩
def cP (ps:List Str):List (Sum Nat Str):=(ps.map Sum.inr).reverse
theorem KR (ps:List Str):(cP ps).map c9=(ps.map V.str).reverse:=by
 unfold cP;rw [List.map_reverse,List.map_map]; rfl
def V4 (N:Cn):Sp:=Hj fun x fr lp H Q _=>Lx fun c S lf (st:Nat) (b:Nat) (ps:List Str) (r:List Nat) (a:Ta) (t:Th) (sn:Bool)=>uH (c.x=x) (aU N c S H lf .au) (H lp=some (.lst (ps.map V.str))) (fr=true/\st=c.root\/fr=false/\aP (sD c.M.st) (.inr c.z)=some (.int (st:Int))) (c.L[st]?=some a) (c.M.ts[st]?=some t) (da c.M st b r) (∃ m,jL c.M c.L c.root m (dk b r) sn) (sn=true->∀ lf' H',aU N c { S with here:=dk b r,left:=cP ps } H' lf' .au->Q .au H') (sn=false->rj N c { S with here:=dk b r } lf (some (.fail "outside")) (Q .au))
theorem XU:T.rZ.k P w mg base 7 (V4 T.cn):=by
 refine T.rZ.F.ok Jg (fun _ _ _ _ h=>FV h fun _ _ _ _=>rfl) fun ah A outer s H vs Q E hr h=>FV h fun x fr lp h=>?_;obtain ⟨c,S,lf,st,b,ps,r,a,t,sn,rfl,v,nZ,aR,ha,ht,um,xy,q1,q2⟩:=h;obtain ⟨fs,pv,hx,aW,sf⟩:=v.fld;refine bK (b:=aS zQ) ((am (aQ 3 Jg.nd (Il (cN (ad 1)) (ap T.aG T.sZ (ad 0)) (bf T.aK T.rB.h (Vh T) hr.m T.rB.b .nil aw (ap T.aG T.fm (ad 0)) (aa (ap T.aG T.rf (ad 0)) ae))))
 (am (bu T.aG T.fo (ad 0) (bv (wO T) hr.m T.fO.m T.fO.F.kp T.fO.b .nil aw (aa (ap T.aG T.fm (ad 0)) (aa (ad 3) ae))))
 (aq (bB (cN (bv (TC T) hr.m T.oF.m T.oF.F.kp T.oF.b .nil aw (aa (ap T.aG T.fm (ad 0)) (aa (ap T.aG T.rf (ad 0)) (aa (ap T.aG T.fo (ad 0)) ae))))) (aq (bu T.aG T.ni (ad 0) (Dv.listRev (K:=K) rfl rfl T.rp T.zB (ad 2)))) (aq (aY (bf T.aG T.gI.h (tL T) hr.m T.gI.b .nil aw (ad 0) (aa bn ae))))))))) ?_
 refine stI [some (V.ref c.x),some (V.bl fr),some (V.ref lp),none] ?_;refine js (fun σ' H'=>σ'=[some (V.ref c.x),some (V.bl fr),some (V.ref lp),some (V.int (st:Int))]/\H'=H) ?_ ?_
 ·left;rcases aR with ⟨rfl,rfl⟩ | ⟨rfl,aR⟩
  ·exact bE (fI hx sf rfl ⟨rfl,by trivial⟩)
  ·obtain ⟨jC,hc,hh,qd,gP⟩:=v.m.h;exact bb (fI hx sf rfl (mI hh gP (fI hx sf rfl ⟨c.A,c.L,c.M,st,v.m,rfl,by rw [v.hz]; rfl,aR,rfl,by first | rfl | trivial⟩)))
 rintro σ' H' ⟨rfl,rfl⟩;refine ai ?_;left;refine (fI hx sf rfl ⟨c.A,c.L,c.M,st,b,r,a,t,v.m,rfl,rfl,ha,ht,um,fun H1 s1=>?_⟩);have v1:=v.same s1;obtain ⟨gj,bo,iN,_,v2⟩:=v1.put "here" (.int ((dk b r:Nat):Int)) { S with here:=dk b r } .au _;refine ⟨c.x,_,_,rfl,bo,by first | exact iN | exact nT | omega,?_⟩;have hlp1:=s1 _ _ nZ;have DP:lp≠c.x:=fun e=>by rw [e,hx] at nZ; cases nZ
 have Nm:upd H1 c.x (.ins T.bg c.dx (ay "here" (.int ((dk b r:Nat):Int)) gj)) lp=some (.lst (ps.map V.str)):=by rw [ag DP]; exact hlp1
 generalize upd H1 c.x (.ins T.bg c.dx (ay "here" (.int ((dk b r:Nat):Int)) gj))=H2 at v2 Nm ⊢;obtain ⟨ik,n9,bO,iR,bQ⟩:=v2.fld;left;refine (fI bO bQ rfl (fI bO bQ rfl (fI bO bQ rfl ⟨c.A,c.L,c.M,dk b r,c.root,sn,v2.m,rfl,rfl,v2.hz,xy,fun H3 s3=>?_⟩)));have v3:=v2.same s3;cases sn
 ·obtain ⟨gK,oi,c7,gL,du⟩:=v3.fld;exact bb (mI c7 du ⟨c,_,lf,rfl,v3,q2 rfl⟩)
 ·refine bE ?_;refine ⟨lp,ps.map V.str,rfl,aC.of (s3 _ _ Nm),fun l hl=>?_⟩;have v4:=v3.same (ao.upd (o:=.lst (ps.map V.str).reverse) hl);have b4:upd H3 l (.lst (ps.map V.str).reverse) l=some (.lst ((cP ps).map c9)):=by rw [ax,KR]
  have l0:=v3.fresh hl;have xM:c.av≠l:=aH v3.oa hl;have EI:l≠c.rd:=Ne.symm (aH v3.od hl);generalize upd H3 l (.lst (ps.map V.str).reverse)=H4 at v4 b4 ⊢;obtain ⟨qu,iP,nT,v5⟩:=v4.Tq l0 b4 xM EI;exact ⟨c.x,_,_,rfl,iP,by first | exact iN | exact nT | omega,q1 rfl l _ v5⟩
def iZ (M:Hs) (L:List Ta) (root:Nat):Nat->Nat->List Str->Prop
 | n,k,ns=>∃ b r a t,L[k]?=some a/\M.ts[k]?=some t/\da M k b r /\
  if fN root (b::r)=true then ns=[]
  else ∃ ab tb f z,L[b]?=some ab/\M.ts[b]?=some tb/\tb.bP=[(f,z)]/\match n with | 0=>False | n+1=>∃ ns',ns=ns'++[z]/\iZ M L root n f ns'
def XE (CH CS CT:Addr):Sp:=qZ fun x z n H Q _=>X6 fun A L M (k:Nat) (root:Nat) ns=>A7 (aJ CH CS CT H A L M) (A.a=x) (n=(k:Int)) (aP (sD M.ro) (.inr z)=some (.int (root:Int))) (∃ m,iZ M L root m k ns) (ns.length<=500) (∀ l H',ao H H'->H' l=some (.lst (ns.map V.str))->Q (.ref l) H')
theorem ZM:T.pS.k P w base 6 (XE T.aI T.aO T.aV):=by
 refine T.pS.F.ok pL (fun _ _ _ _ h=>jb h fun _ _ _ _=>rfl) fun ah A outer s H vs Q E hr h=>jb h fun x z n h=>?_;obtain ⟨AA,L,M,k,root,ns,i,rfl,rfl,hz,⟨m,hm⟩,hlen,q⟩:=h;obtain ⟨fs,c,hx,aW,sf⟩:=i.h;refine bK (b:=aS ym) ((am (aQ 3 pL.nd (bf T.aK T.jM.h (yH T) hr.m T.jM.b .nil aw (ad 0) (aa (ad 1) ae)))
 (am (aQ 4 pL.nd (db ae))
 (am (aQ 5 pL.nd (bv (pB T) hr.m T.dN.m T.dN.F.kp T.dN.b .nil aw (aa (ad 0) (aa (ad 2) ae))))
 (am (rF PassesOwn.never (bY (yL (K:=K) rfl) (ad 3) (ad 5)) (am (aQ 6 pL.nd (bf T.aK T.jQ.h (zZ T) hr.m T.jQ.b .nil aw (ad 0) (aa (ci (bG (K:=K) rfl) (ad 5) bi) ae)))
 (am (aY (iB PySem.F.slot_list_append PySem.F.type_list_append lz (ad 4) (aa (ci (bG (K:=K) rfl) (ad 6) bi) ae)))
 (aq (aQ 5 pL.nd (bv (pB T) hr.m T.dN.m T.dN.F.kp T.dN.b .nil aw (aa (ad 0) (aa (ci (bG (K:=K) rfl) (ad 6) bi) ae))))))))
 (aq (aN (Dv.listRev (K:=K) rfl rfl T.rp T.zB (ad 4))))))))) ?_
 refine stI [some (V.ref AA.a),some (V.str z),some (V.int (k:Int)),none,none,none,none] ?_;refine ai ?_;left;refine (mI hx sf ⟨AA,L,M,root,i,rfl,hz,?_⟩);refine ai ?_;left;refine ⟨fits (by simp),fun ln xO=>?_⟩;refine eF (o:=.lst []) xO fun H1 s1 b1=>?_;have i1:=i.same s1;refine ai ?_;left;obtain ⟨b,r,a,t,ha,ht,aR,dH⟩:=(by unfold iZ at hm; exact hm:∃ b r a t,L[k]?=some a/\M.ts[k]?=some t/\da M k b r/\_);refine ⟨AA,L,M,k,b,r,a,t,i1,rfl,rfl,ha,ht,aR,fun l2 H2 s2 hl20 cw=>?_⟩;have qC:=s1.trans s2;have c1:=s2 _ _ b1;obtain ⟨PV,kJ⟩:∃ PV:Nat->St->Hp->Prop,PV=fun m σ' H'=>ao H H'/\∃ (ls:Addr) (b:Nat) (r:List Nat) (cs ns':List Str) (pv:Option V),σ'=[some (V.ref AA.a),some (V.str z),some (V.int (k:Int)),some (V.int (root:Int)),some (V.ref ln),some (V.ref ls),pv]/\H' ls=some (.lst (nV (b::r)))/\H' ln=some (.lst (cs.map V.str))/\ns=ns'++cs.reverse /\
  (if fN root (b::r)=true then ns'=[]
   else ∃ ab tb f z,L[b]?=some ab/\M.ts[b]?=some tb/\tb.bP=[(f,z)]/\match m with | 0=>False | n+1=>∃ ns'',ns'=ns''++[z]/\iZ M L root n f ns''):=⟨_,rfl⟩
 refine ai ⟨PV,⟨m,by rw [kJ]; exact ⟨qC,l2,b,r,[],ns,none,rfl,cw,c1,by simp,dH⟩⟩,?_⟩;clear dH ha ht aR cw hl20 c1 hm qC s2;intro m σ' H' hI;rw [kJ] at hI;obtain ⟨s',ls,b,r,cs,ns',pv,rfl,ML,hln',eC,dH⟩:=hI;have i':=i.same s';obtain ⟨fs',c',hx',hfl',sf'⟩:=i'.h;left;refine ⟨_,.inl (aC.of ML),rfl,by simp [cx],?_⟩;rw [sM];cases hmem:fN root (b::r) with
 | true =>
  rw [if_pos hmem] at dH;subst dH;refine bb ?_;left;refine ⟨ln,_,rfl,aC.of hln',fun l hl=>?_⟩;refine q l _ (s'.trans (ao.upd hl)) ?_;rw [ax,eC,List.nil_append,List.map_reverse]
 | false =>
  rw [if_neg (by rw [hmem]; nofun)] at dH;obtain ⟨ab,tb,f,zz,dG,kN,bt,hn⟩:=dH;refine bE ⟨fun σ' H'=>∃ m',m' < m/\PV m' σ' H',fun σ' H' h=>h,?_⟩;refine ai ?_;left;simp only [bS,ML,nV,List.map_cons,gX];refine ⟨AA.a,_,_,rfl,hx',(sf' _).trans rfl,AA,L,M,b,ab,tb,i',rfl,rfl,dG,kN,.inr ⟨f,zz,bt,fun p hp=>?_⟩⟩;refine ai ?_;left;simp only [hln',bS,hp,wj];cases m with
  | zero=>exact hn.elim
  | succ m =>
   obtain ⟨ns2,hns2,hn⟩:=hn;have kR:cs.length<=500:=by
    have:=congrArg List.length eC;simp at this;omega
   refine ⟨lQ (by rw [List.length_map]; omega),?_⟩;have DP:p≠ln:=bR hp hln' (by nofun);have s4:=s'.fM (o:=.lst (List.map V.str cs++[V.str zz])) xO;have b4:upd H' ln (.lst (List.map V.str cs++[V.str zz])) ln=some (.lst ((cs++[zz]).map V.str)):=by rw [ax,List.map_append]; rfl
   have qE:upd H' ln (.lst (List.map V.str cs++[V.str zz])) p=some (.tup [V.int (f:Int),V.str zz]):=by rw [ag DP]; exact hp
   generalize upd H' ln (.lst (List.map V.str cs++[V.str zz]))=H4 at s4 b4 qE ⊢;left;simp only [bS,qE,gX];obtain ⟨b2,r2,a2,t2,EV,ir,xG,DZ⟩:=(by unfold iZ at hn; exact hn:∃ b r a t,L[f]?=some a/\M.ts[f]?=some t/\da M f b r/\_);refine ⟨AA,L,M,f,b2,r2,a2,t2,i.same s4,rfl,rfl,EV,ir,xG,fun l5 H5 s5 hl50 fV=>⟨m,Nat.lt_succ_self m,?_⟩⟩;rw [kJ];refine ⟨s4.trans s5,l5,b2,r2,cs++[zz],ns2,_,rfl,fV,s5 _ _ b4,?_,DZ⟩;rw [eC,hns2];simp
theorem qR {a b:Nat} (h:(some (V.int (a:Int)):Option V)=some (V.int (b:Int))):a=b:=by
 have h1:=Option.some.inj h;injection h1 with h2;omega
theorem ke.uniq {M:Hs}:∀ {n m k a b:Nat},ke M n k a->ke M m k b->a=b
 | 0,0,_,_,_,h,h'=>by rw [h.2,h'.2]
 | 0,_+1,_,_,_,h,h'=>by obtain ⟨_,e,_⟩:=h'; rw [h.1] at e; cases e
 | _+1,0,_,_,_,h,h'=>by obtain ⟨_,e,_⟩:=h; rw [h'.1] at e; cases e
 | _+1,_+1,_,_,_,h,h'=>by
  obtain ⟨k1,e1,h1⟩:=h; obtain ⟨k2,e2,h2⟩:=h';rw [e1] at e2; cases qR e2; exact h1.uniq h2
theorem jc.uniq {M:Hs}:∀ {n m k:Nat} {a b:List Nat},jc M n k a->jc M m k b->a=b
 | 0,0,_,_,_,h,h'=>by rw [h.2,h'.2]
 | 0,_+1,_,_,_,h,h'=>by obtain ⟨_,_,e,_⟩:=h'; rw [h.1] at e; cases e
 | _+1,0,_,_,_,h,h'=>by obtain ⟨_,_,e,_⟩:=h; rw [h'.1] at e; cases e
 | _+1,_+1,_,_,_,h,h'=>by
  obtain ⟨k1,r1,e1,h1,rfl⟩:=h; obtain ⟨k2,r2,e2,h2,rfl⟩:=h';rw [e1] at e2; cases qR e2; rw [h1.uniq h2]
theorem da.uniq {M:Hs} {k b b':Nat} {r r':List Nat} (h:da M k b r) (h':da M k b' r'):b=b'/\r=r':=by
 obtain ⟨⟨_,h1⟩,_,h2,_⟩:=h; obtain ⟨⟨_,h3⟩,_,h4,_⟩:=h';obtain rfl:=h1.uniq h3;exact ⟨rfl,h2.uniq h4⟩
inductive wB (c:Wd) (h:Nat):Nat->Prop
 | gg {a t b r}:c.L[h]?=some a->c.M.ts[h]?=some t->da c.M h b r->fN c.root (b::r)=true->wB c h h
 | up {a t b r ab tb f zz af tf b' r'}:c.L[h]?=some a->c.M.ts[h]?=some t->da c.M h b r->fN c.root (b::r)=false->c.L[b]?=some ab->c.M.ts[b]?=some tb->tb.bP=[(f,zz)]->c.L[f]?=some af->c.M.ts[f]?=some tf->da c.M f b' r'->wB c h (dk b' r')
def Zw (N:Cn):Sp:=fZ fun x H Q _=>X4 fun c S lf h'=>A4 (c.x=x) (aU N c S H lf .au) (wB c.toWd S.here h') (∀ H',aU N c { S with here:=h' } H' lf .au->Q .au H')
theorem SJ:T.sQ.k P w mg base 7 (Zw T.cn):=by
 refine T.sQ.F.ok Lf (fun _ _ _ _ h=>cI h fun _ _=>rfl) fun ah A outer s H vs Q E hr h=>cI h fun x h=>?_;obtain ⟨c,S,lf,h',rfl,v,hu,q⟩:=h;obtain ⟨fs,pv,hx,aW,sf⟩:=v.fld;refine bK (b:=aS CZ) ((am (aQ 1 Lf.nd (bv (pB T) hr.m T.dN.m T.dN.F.kp T.dN.b .nil aw (aa (ap T.aG T.fm (ad 0)) (aa (ap T.aG T.fo (ad 0)) ae))))
 (aq (bB (bY (yL (K:=K) rfl) (ap T.aG T.sZ (ad 0)) (ad 1)) (aq (bu T.aG T.fo (ad 0) (bv (wO T) hr.m T.fO.m T.fO.F.kp T.fO.b .nil aw (aa (ap T.aG T.fm (ad 0)) (aa (ci (bG (K:=K) rfl) (bf T.aK T.jQ.h (zZ T) hr.m T.jQ.b .nil aw (ap T.aG T.fm (ad 0)) (aa (ci (bG (K:=K) rfl) (ad 1) bi) ae)) bi) ae))))) cr)))) ?_
 refine stI [some (V.ref c.x),none] ?_;obtain ⟨a,t,b,r,ha,aF,aR⟩:∃ a t b r,c.L[S.here]?=some a/\c.M.ts[S.here]?=some t/\da c.M S.here b r:=by
  cases hu <;> exact ⟨_,_,_,_,by assumption,by assumption,by assumption⟩
 refine ai ?_;left;refine (fI hx sf rfl (fI hx sf rfl ⟨c.A,c.L,c.M,S.here,b,r,a,t,v.m,rfl,rfl,ha,aF,aR,fun l H1 s1 hl0 hl=>?_⟩));have v1:=v.same s1;obtain ⟨gj,xD,bo,iN,cG⟩:=v1.fld;left;refine (fI bo cG rfl ⟨_,.inl (aC.of hl),rfl,by simp [cx],?_⟩);rw [sM];cases hu with
 | gg _ _ h1 hm =>
  obtain ⟨rfl,rfl⟩:=da.uniq h1 aR;rw [hm];exact bb (q _ v1)
 | up _ _ h1 hm dG kN bt gv bX hst' =>
  obtain ⟨rfl,rfl⟩:=da.uniq h1 aR;rw [hm];refine bE ?_;obtain ⟨jC,hc,hh,qd,gP⟩:=v1.m.h;simp only [bS,hl,nV,List.map_cons,gX];refine (fI bo cG rfl (fI bo cG rfl (mI hh gP ⟨c.A,c.L,c.M,_,_,_,v1.m,rfl,rfl,dG,kN,.inr ⟨_,_,bt,fun p hp=>?_⟩⟩)));simp only [hp,gX];refine ⟨c.A,c.L,c.M,_,_,_,_,_,v1.m,rfl,rfl,gv,bX,hst',fun H2 s2=>?_⟩;obtain ⟨ik,bO,iR,_,v2⟩:=(v1.same s2).put "here" _ { S with here:=dk _ _ } .au _;exact ⟨c.x,_,_,rfl,bO,iR,q _ v2⟩
theorem Gv:T.m9.k P w mg base 3 (gZ T.aI T.aO T.aV Ad.a Hb):=by
 refine T.m9.F.ok Sv (fun _ _ _ _ h=>bW h fun _ _ _=>rfl) fun ah A outer s H vs Q E hr h=>bW h fun x n h=>?_;obtain ⟨AA,L,M,k,a,t,i,rfl,rfl,ha,aF,q⟩:=h;obtain ⟨fs,c,hx,aW,sf⟩:=i.h;obtain ⟨gs,c2,ht,cR,sg⟩:=i.t;have cb:=dW i ha aF;obtain ⟨ks,ho,fW,so⟩:=cb.o;refine ⟨_,((aq (aN (ap T.cL T.Jv (cX T.bV T.cD.h (gH T) hr.m T.cD.b .nil dE (ap T.aK T.eJ (ad 0)) (aa (ad 1) ae)))))).h,?_⟩;refine stI [some (V.ref AA.a),some (V.int (k:Int))] ?_;left;exact ⟨AA.a,_,_,.ref AA.t,rfl,hx,(sf _).trans rfl,AA.t,_,_,rfl,ht,(sg _).trans rfl,ib i ha aF (fI ho so rfl q)⟩
theorem zR {n:Nat} (h:n<=9000):n<=sizeLine:=Nat.le_trans h (by decide)
theorem FZ (ps:List (List Nat)):PV ps=(ps.map Tx.S).map V.str:=by
 unfold PV
 first | rfl | simp [List.map_map,Function.comp_def]
def dY (t:List Nat):List Str:=(told (Tx.words 47 t) t).map Tx.S
def ia (S:Ws) (k:Nat) (ps:List Str) (h:Nat):Ws:={ S with read:=S.read+1,bx:=S.bx++[k],left:=(S.left++[.inl k])++cP ps,here:=h }
inductive rS (c:Wd) (S:Ws) (k:Nat):Ws->Prop
 | mk {a tc t ar tr b r}:c.L[k]?=some a->c.M.ts[k]?=some tc->tc.tx=Tx.S t->1<=t.length->t.length<=2000->(Tx.words 47 t).all cB=true->(dY t).length<=124->c.L[c.root]?=some ar->c.M.ts[c.root]?=some tr->da c.M c.root b r->rS c S k (ia S k (dY t) (if dC t=true then dk b r else S.here))
def Y6 (N:Cn):Sp:=jg fun x n H Q _=>X5 fun c S lf (k:Nat) S'=>A7 (c.x=x) (n=(k:Int)) (aU N c S H lf .au) (S.left.length<=8000) (S.bx.length<=900) (rS c.toWd S k S') (∀ H',aU N c S' H' lf .au->Q .au H')
theorem U6:T.qQ.k P w mg base 7 (Y6 T.cn):=by
 refine T.qQ.F.ok Ha (fun _ _ _ _ h=>bW h fun _ _ _=>rfl) fun ah A outer s H vs Q E hr h=>bW h fun x n h=>?_;obtain ⟨c,S,lf,k,S',rfl,rfl,v,hl,gq,hR,q⟩:=h;cases hR with
 | @mk a tc t ar tr b r ha ed EB h1 h2 kT gk qm ig aR =>
 refine bK (b:=aS Ci) ((am (aQ 2 Ha.nd (bv (kF T) hr.m T.cu.m T.cu.F.kp T.cu.b .nil aw (aa (bf T.aK T.m9.h (Gv T) hr.m T.m9.b .nil aw (ap T.aG T.fm (ad 0)) (aa (ad 1) ae)) ae)))
 (am (jT T.aG T.B6 jO (ad 0) bi)
 (am (aY (iB PySem.F.slot_list_append PySem.F.type_list_append lz (ap T.aG T.px (ad 0)) (aa (ad 1) ae)))
 (am (aY (iB PySem.F.slot_list_append PySem.F.type_list_append lz (ap T.aG T.ni (ad 0)) (aa (ad 1) ae)))
 (am (aY (iB PySem.F.slot_list_extend PySem.F.type_list_extend ZE (ap T.aG T.ni (ad 0)) (aa (Dv.listRev (K:=K) rfl rfl T.rp T.zB (ci (bG (K:=K) rfl) (ad 2) bi)) ae)))
 (aq (bB (cN (ci (bG (K:=K) rfl) (ad 2) bi)) (aq (bu T.aG T.fo (ad 0) (bv (wO T) hr.m T.fO.m T.fO.F.kp T.fO.b .nil aw (aa (ap T.aG T.fm (ad 0)) (aa (ap T.aG T.sZ (ad 0)) ae))))) cr)))))))) ?_
 refine stI [some (V.ref c.x),some (V.int (k:Int)),none] ?_;obtain ⟨fs,pv,hx,aW,sf⟩:=v.fld;obtain ⟨jC,hc,hh,qd,gP⟩:=v.m.h;refine ai ?_;left;refine (fI hx sf rfl (mI hh gP ⟨c.A,c.L,c.M,k,a,tc,v.m,rfl,rfl,ha,ed,?_⟩));simp only [Hb];refine ⟨t,EB,h1,h2,kT,fun H1 l p s1 hl0 kZ hp=>?_⟩;have v1:=v.same s1;obtain ⟨gj,bo,iN,kU,v2⟩:=v1.put "leads_read" (.int ((S.read:Int)+1)) { S with read:=S.read+1 } .au _;refine ai ?_;left;refine ⟨c.x,_,_,_,rfl,bo,kU,_,_,rfl,rfl,_,_,bo,iN,ai ?_⟩;have hpx:p≠c.x:=fun e=>by rw [e,bo] at hp; cases hp
 have hlx:l≠c.x:=fun e=>by rw [e,bo] at kZ; cases kZ
 have dP:upd H1 c.x (.ins T.bg c.dx (ay "leads_read" (.int ((S.read:Int)+1)) gj)) p=some (HO.tup [V.bl (dC t),V.ref l]):=by rw [ag hpx]; exact hp
 have cw:upd H1 c.x (.ins T.bg c.dx (ay "leads_read" (.int ((S.read:Int)+1)) gj)) l=some (.lst (PV (told (Tx.words 47 t) t))):=by rw [ag hlx]; exact kZ
 generalize upd H1 c.x (.ins T.bg c.dx (ay "leads_read" (.int ((S.read:Int)+1)) gj))=H2 at v2 dP cw ⊢;obtain ⟨ik,n9,bO,iR,bQ⟩:=v2.fld;left;refine (fI bO bQ rfl ?_);simp only [v2.od];have v3:=v2.ZF k;refine ⟨lQ (by simp; omega),ai ?_⟩;have nl0:l≠c.rd:=fun e=>by rw [e] at hl0; rw [v.od] at hl0; cases hl0
 have eD:upd H2 c.rd (.lst (nV S.bx++[V.int (k:Int)])) p=some (HO.tup [V.bl (dC t),V.ref l]):=by rw [ag (Ne.symm (bR v2.od dP (by nofun)))]; exact dP
 have iX:upd H2 c.rd (.lst (nV S.bx++[V.int (k:Int)])) l=some (.lst (PV (told (Tx.words 47 t) t))):=by rw [ag nl0]; exact cw
 dsimp only at v3;generalize upd H2 c.rd (.lst (nV S.bx++[V.int (k:Int)]))=H3 at v3 eD iX ⊢;obtain ⟨gK,oi,c7,gL,du⟩:=v3.fld;left;refine (fI c7 du rfl ?_);simp only [v3.ol];have v4:=v3.WT k;refine ⟨Nat.lt_of_lt_of_le (Nat.lt_succ_self _) (zR (by simp; omega)),ai ?_⟩;have qE:upd H3 lf (.lst (S.left.map c9++[V.int (k:Int)])) p=some (HO.tup [V.bl (dC t),V.ref l]):=by rw [ag (Ne.symm (bR v3.ol eD (by nofun)))]; exact eD
 have nll:l≠lf:=fun e=>by rw [e] at hl0; rw [v.ol] at hl0; cases hl0
 have xu:upd H3 lf (.lst (S.left.map c9++[V.int (k:Int)])) l=some (.lst (PV (told (Tx.words 47 t) t))):=by rw [ag nll]; exact iX
 dsimp only at v4;generalize upd H3 lf (.lst (S.left.map c9++[V.int (k:Int)]))=H4 at v4 qE xu ⊢;obtain ⟨qu,LI,iP,nT,nR⟩:=v4.fld;left;refine (fI iP nR rfl ?_);simp only [v4.ol];unfold BR;left;simp only [bS,qE,wj];refine ⟨l,_,rfl,aC.of xu,fun l5 fV=>?_⟩;rw [FZ,show (List.map V.str (List.map Tx.S (told (Tx.words 47 t) t))).reverse=(cP (dY t)).map c9 from (KR _).symm];refine eF (o:=.lst ((cP (dY t)).map c9)) fV fun H5 s5 b5=>?_;have v5:=v4.same s5;have e5:H5 lf=some (.lst ((S.left++[Sum.inl k]).map c9)):=v5.ol;simp only [e5,b5];have nZ:(cP (dY t)).length<=124:=by unfold cP; simpa using gk
 refine ⟨zR (by simp at hl nZ ⊢; omega),?_⟩;have v6:=v5.Rj (cP (dY t));have nU:=s5 _ _ qE;have xm:upd H5 lf (.lst ((S.left++[Sum.inl k]).map c9++(cP (dY t)).map c9)) p=some (HO.tup [V.bl (dC t),V.ref l]):=by rw [ag (Ne.symm (bR v5.ol nU (by nofun)))]; exact nU
 dsimp only at v6;generalize upd H5 lf (.lst ((S.left++[Sum.inl k]).map c9++(cP (dY t)).map c9))=H6 at v6 xm ⊢;simp only [xm,gX];cases hrt:dC t with
 | false =>
  rw [hrt] at q;exact bb (q _ v6)
 | true =>
  rw [hrt] at q;refine bE ?_;obtain ⟨fs6,pv6,xA,hfl6,xU⟩:=v6.fld;refine (fI xA xU rfl (fI xA xU rfl ⟨c.A,c.L,c.M,c.root,b,r,ar,tr,v6.m,rfl,rfl,qm,ig,aR,fun H7 s7=>?_⟩));obtain ⟨fs7,EH,hfl7,_,v7⟩:=(v6.same s7).put "here" _ (ia S k (dY t) (dk b r)) .au _;exact ⟨c.x,_,_,rfl,EH,hfl7,q _ v7⟩
theorem dZ {b:Bool} {A B:Prop} {i:Decidable (b=true)} (h:b=false) (hb:B):if b=true then A else B:=by rw [if_neg (by rw [h]; decide)]; exact hb
theorem eB {b:Bool} {A B:Prop} {i:Decidable (b=true)} (h:b=true) (hb:A):if b=true then A else B:=by rw [if_pos h]; exact hb
section
variable {T:Tx K mg} {H:Hp} {A:Ad} {L:List Ta} {M:Hs}
theorem uM {z s:Str} {k:Nat} {t:Th} {Q:VK} {E:XK} (i:aJ T.aI T.aO T.aV H A L M) (hz:(aP (sD M.ro) (.inr z)).isSome=true) (hs:gW (.str s)=true) (ht:M.ts[k]?=some t) (q:Q (.bl (dU s (cJ t z))) H):Ke T.aI T.aO T.aV T.qj T.uk T.qp [.ref A.a,.str z,.int k,.str s] H Q E:=by
 refine ⟨A,L,M,i,rfl,⟨_,rfl⟩,⟨_,rfl⟩,⟨_,rfl⟩,fun h=>(by rw [h z rfl] at hz; cases hz),fun z' e _=>?_⟩;cases e;refine ⟨fun h=>(by rw [hs] at h; cases h),fun s' e _=>?_⟩;cases e;have bL:=(List.getElem?_eq_some_iff.mp ht).1;refine ⟨fun h=>absurd bL (h k rfl),fun k' t' e ht'=>?_⟩;cases e;rw [ht] at ht';cases ht';exact q
end
theorem W4 {k:Nat} {l:List Nat} (h:k∈l):fN k l=true:=List.any_eq_true.mpr ⟨k,h,by simp⟩
theorem FF {k:Nat} {l:List Nat} (h:k ∉ l):fN k l=false:=by
 unfold fN;rw [List.any_eq_false];intro x hx e;exact h (by rw [<- eq_of_beq e]; exact hx)
inductive sW (c:Wd) (S:Ws) (k:Nat):Ws->Option Tl->Prop
 | ring:k∈S.bx->sW c S k S (some (.ring (lK (S.bx.drop (S.bx.idxOf k)))))
 | many:k ∉ S.bx->S.read=40->sW c S k S (some (.fail "many"))
 | read {S'}:k ∉ S.bx->S.read≠40->rS c S k S'->sW c S k S' none
def Q6 (N:Cn):Sp:=jg fun x n H Q _=>X6 fun c S lf (k:Nat) S' o=>A7 (c.x=x) (n=(k:Int)) (aU N c S H lf .au) (S.left.length<=8000) (S.bx.length<=400) (sW c.toWd S k S' o) (rj N c S' lf o (Q .au))
theorem NZ:T.tw.k P w mg base 8 (Q6 T.cn):=by
 refine T.tw.F.ok U9 (fun _ _ _ _ h=>bW h fun _ _ _=>rfl) fun ah A outer s H vs Q E hr h=>bW h fun x n h=>?_;obtain ⟨c,S,lf,k,S',o,rfl,rfl,v,hl,gq,hR,q⟩:=h;refine bK (b:=aS C4) ((aq (bB (bY (zV (K:=K) rfl) (ad 1) (ap T.aG T.px (ad 0))) (aq (bu T.aG T.lP (ad 0) (io T.UD (XR T) hr.m T.Xo T.sP.b .nil aw (aa (bv (VO T) hr.m T.pT.m T.pT.F.kp T.pT.b .nil aw (aa (jp (m8 (K:=K) rfl) (ap T.aG T.px (ad 0)) (lT (iB PySem.F.slot_list_index PySem.F.type_list_index (Fi (K:=K) rfl) (ap T.aG T.px (ad 0)) (aa (ad 1) ae))) pE) ae)) ae)))) (aq (bB (bY iE (ap T.aG T.B6 (ad 0)) (dL (.int 40) T.Z8 ⟨_,rfl⟩)) (aq (aY (bf T.aG T.gI.h (tL T) hr.m T.gI.b .nil aw (ad 0) (aa bn ae)))) (aq (aY (bf T.aG T.qQ.h (U6 T) hr.m T.qQ.b .nil aw (ad 0) (aa (ad 1) ae))))))))) ?_;refine stI [some (V.ref c.x),some (V.int (k:Int))] ?_;obtain ⟨fs,pv,hx,aW,sf⟩:=v.fld;left;refine (fI hx sf rfl ⟨_,.inl (aC.of v.od),rfl,by simp [cx],?_⟩);rw [sM];cases hR with
 | many hk hm =>
  rw [FF hk];refine bb (fI hx sf rfl ?_);refine eB (decide_eq_true (by omega)) (mI hx sf ⟨c,S,lf,rfl,v,q⟩)
 | read hk hm hR =>
  rw [FF hk];refine bb (fI hx sf rfl ?_);refine dZ (decide_eq_false (by omega)) (mI hx sf ⟨c,S,lf,k,_,rfl,rfl,v,hl,by omega,hR,q.n rfl⟩)
 | ring hk =>
  rw [W4 hk];refine bE (fI hx sf rfl (fI hx sf rfl ?_));simp only [v.od];refine ⟨_,aC.of (by rw [v.od,FN]),mem_cast hk,nV S.bx,aC.of v.od,fun p hp=>?_⟩;rw [y1,G0];have e1:List.drop (S.bx.idxOf k) (nV S.bx)=nV (S.bx.drop (S.bx.idxOf k)):=by unfold nV; rw [List.map_drop]
  rw [e1];refine eF (o:=.lst (nV (S.bx.drop (S.bx.idxOf k)))) hp fun H1 s1 b1=>?_;have hj:S.bx.idxOf k < S.bx.length:=List.idxOf_lt_length_iff.mpr hk;refine ⟨_,b1,fun e=>by have:=congrArg List.length e; simp at this; omega,by simp; omega,fun l2 H2 s2 l20 cw=>?_⟩;intro fd bh bc hdfd nfd;have v2:=(v.same s1).same s2;have s4:=(ao.upd (o:=.own fd) hdfd).trans (ao.upd (p:=fd) (o:=.ins T.fz bh []) (by rw [ag (Ne.symm nfd)]; exact bc));have b4:upd (upd H2 bh (.own fd)) fd (.ins T.fz bh []) fd=some (.ins T.fz bh []):=ax;generalize upd (upd H2 bh (.own fd)) fd (.ins T.fz bh [])=H4 at s4 b4 ⊢;refine ⟨bh,_,b4,s4 _ _ cw,fun rl dq=>?_⟩;have s5:=s4.trans (ao.upd (o:=.lst (nV (lK (S.bx.drop (S.bx.idxOf k))))) dq);have b5:upd H4 rl (.lst (nV (lK (S.bx.drop (S.bx.idxOf k))))) fd=some (.ins T.fz bh []):=by rw [ag (aH b4 dq)]; exact b4
  have c5:upd H4 rl (.lst (nV (lK (S.bx.drop (S.bx.idxOf k))))) rl=some (.lst (nV (lK (S.bx.drop (S.bx.idxOf k))))):=ax;have nr:=aH b4 dq;generalize upd H4 rl (.lst (nV (lK (S.bx.drop (S.bx.idxOf k)))))=H5 at s5 b5 c5 ⊢;obtain ⟨qB,iT,fV,v6,f0,nx⟩:=v2.tells (t:=.ring []) (F:=ay "leads" (.ref rl) []) bc s5 b5;have nrx:rl≠c.x:=fun e=>by rw [e] at c5; obtain ⟨fs7,pv7,EH,_⟩:=(v2.same s5).fld; rw [EH] at c5; cases c5
  exact ⟨rfl,c.x,_,_,rfl,iT,fV,q.y _ rfl fd _ v6 ⟨f0,bh,rl,by rw [ag (Ne.symm nx),ax],by rw [ag nrx,ag (Ne.symm nr)]; exact c5⟩⟩
inductive lq (c:Wd) (S:Ws) (t:Th) (p:Str):Ws->Option Tl->Prop
 | no:aP (sD t.aM) (.inr p)=none->lq c S t p { S with look:=S.look+1 } (some (.fail "none"))
 | folder {k a tc b r}:aP (sD t.aM) (.inr p)=some (.int ((k:Nat):Int))->c.L[k]?=some a->c.M.ts[k]?=some tc->tc.kd=("folder" : Str)->da c.M k b r->lq c S t p { S with look:=S.look+1,here:=dk b r } none
 | fin {k a tc}:aP (sD t.aM) (.inr p)=some (.int ((k:Nat):Int))->c.L[k]?=some a->c.M.ts[k]?=some tc->tc.kd≠("folder" : Str)->(tc.kd=("file" : Str)\/S.left=[]/\c.last=false)->lq c S t p { S with look:=S.look+1,place:=some (S.here,p),here:=k } none
 | lead {k a tc S' o}:aP (sD t.aM) (.inr p)=some (.int ((k:Nat):Int))->c.L[k]?=some a->c.M.ts[k]?=some tc->tc.kd≠("folder" : Str)->tc.kd≠("file" : Str)->¬ (S.left=[]/\c.last=false)->sW c { S with look:=S.look+1 } k S' o->lq c S t p S' o
theorem B1 {T:Tx K mg} {c:Wc} {S:Ws} {H:Hp} {lf:Addr} {k:Nat} {nm:Str} {v3:Option V} {R:Hp->Prop} {Q:VK} (v2:aU T.cn c S H lf .au) (q:∀ H',aU T.cn c { S with place:=some (S.here,nm),here:=k } H' lf .au->R H') :
  rq (sL T.bg "place" (kj 0) (wM (ou (wY T.bg "here" (kj 0)) (ou (kj 1) lh)))) (sL T.bg "here" (kj 0) (kj 2)) { nx:=fun _ H'=>R H',rt:=Q } [some (V.ref c.x),some (V.str nm),some (V.int (k:Int)),v3] H:=by
 obtain ⟨ik,n9,bO,iR,bQ⟩:=v2.fld;refine ai ?_;left;refine (fI bO bQ rfl ⟨fits (by simp),fun p hp=>?_⟩);have w3:=v2.same (ao.upd (o:=.tup [V.int (S.here:Int),V.str nm]) hp);have b3:upd H p (.tup [V.int (S.here:Int),V.str nm]) p=some (.tup [V.int (S.here:Int),V.str nm]):=ax;have p0:=v2.fresh hp;generalize upd H p (.tup [V.int (S.here:Int),V.str nm])=H3 at w3 b3 ⊢;obtain ⟨gK,c7,gL,v4⟩:=w3.placed p0 b3;refine ⟨c.x,_,_,rfl,c7,gL,?_⟩;generalize upd H3 c.x _=H4 at v4 ⊢;obtain ⟨qu,iP,nT,_,v5⟩:=v4.put "here" (.int (k:Int)) { S with place:=some (S.here,nm),here:=k } .au _;exact ⟨c.x,_,_,rfl,iP,nT,q _ v5⟩
def Vv (N:Cn):Sp:=jl fun x nm H Q _=>X7 fun c S lf a t S' o=>uH (c.x=x) (aU N c S H lf .au) (c.L[S.here]?=some a) (c.M.ts[S.here]?=some t) (fb (.str nm)=true) (nm.length<=1000) (S.left.length<=8000) (S.bx.length<=400) (lq c.toWd S t nm S' o) (rj N c S' lf o (Q .au))
theorem Yb:T.qI.k P w mg base 9 (Vv T.cn):=by
 refine T.qI.F.ok zl (fun _ _ _ _ h=>eL h fun _ _ _=>rfl) fun ah A outer s H vs Q E hr h=>eL h fun x nm h=>?_;obtain ⟨c,S,lf,a,t,S',o,rfl,v,ha,aF,hn,jv,ur,gq,hb,q⟩:=h;refine bK (b:=aS An) ((am (jT T.aG T.KU jO (ad 0) bi)
 (am (aQ 2 zl.nd (bf T.aK T.nq.h (Io T) hr.m T.nq.b .nil aw (ap T.aG T.fm (ad 0)) (aa (ap T.aG T.fo (ad 0)) (aa (ad 1) ae))))
 (am (bB (bY vU (ad 2) au) (am (aY (bf T.aG T.gI.h (tL T) hr.m T.gI.b .nil aw (ad 0) (aa bn ae)))
 (aq Kd)) cr)
 (am (aQ 3 zl.nd (bf T.aK T.gG.h (tJ T) hr.m T.gG.b .nil aw (ap T.aG T.fm (ad 0)) (aa (ad 2) ae)))
 (aq (bB (bY iE (ad 3) (dL (.str "folder") T.uR ⟨_,rfl⟩)) (aq (bu T.aG T.fo (ad 0) (bv (wO T) hr.m T.fO.m T.fO.F.kp T.fO.b .nil aw (aa (ap T.aG T.fm (ad 0)) (aa (ad 2) ae))))) (aq (bB (hX (im (bY iE (ad 3) (dL (.str "file") T.Af ⟨_,rfl⟩)) (lJ (hX (Dv.w_and (bY (R0 (K:=K) rfl hr.wy) (ap T.aG T.ni (ad 0)) (db ae)) (vT (dB (cN (ap T.aG T.Kx (ad 0)))))))))) (am (bu T.aG T.wZ (ad 0) (f8 (aa (ap T.aG T.fo (ad 0)) (aa (ad 1) ae))))
 (aq (bu T.aG T.fo (ad 0) (ad 2)))) (aq (aY (bf T.aG T.tw.h (NZ T) hr.m T.tw.b .nil aw (ad 0) (aa (ad 2) ae))))))))))))) ?_
 refine stI [some (V.ref c.x),some (V.str nm),none,none] ?_;obtain ⟨fs,hx,aW,kU,v1⟩:=v.put "looked_up" (.int ((S.look:Int)+1)) { S with look:=S.look+1 } .au _;refine ai ?_;left;refine ⟨c.x,_,_,_,rfl,hx,kU,_,_,rfl,rfl,_,_,hx,aW,ai ?_⟩;generalize upd H c.x (.ins T.bg c.dx (ay "looked_up" (.int ((S.look:Int)+1)) fs))=H1 at v1 ⊢;obtain ⟨gj,xD,bo,iN,cG⟩:=v1.fld;obtain ⟨jC,hc,hh,qd,gP⟩:=v1.m.h;left;refine (fI bo cG rfl (mI hh gP (fI bo cG rfl ⟨c.A,c.L,c.M,S.here,a,t,v1.m,rfl,rfl,ha,aF,hn,jv,fun H2 s2=>?_⟩)));have v2:=v1.same s2;obtain ⟨ik,n9,bO,iR,bQ⟩:=v2.fld;obtain ⟨hfs2,DT,MV,hhl2,hsf2⟩:=v2.m.h;by_cases kI:aP (sD t.aM) (.inr nm)=none
 ·have he:S'={ S with look:=S.look+1 }/\o=some (.fail "none"):=by
   cases hb with
   | no _=>exact ⟨rfl,rfl⟩
   | folder h1=>rw [kI] at h1; cases h1
   | fin h1=>rw [kI] at h1; cases h1
   | lead h1=>rw [kI] at h1; cases h1
  obtain ⟨rfl,rfl⟩:=he;rw [kI];refine ai ?_;left;refine ⟨by trivial,bE ?_⟩;refine ai ?_;left;exact (mI bO bQ ⟨c,_,lf,rfl,v2,q⟩)
 obtain ⟨k,ak,tc,hv,gn,ed⟩:∃ k a tc,aP (sD t.aM) (.inr nm)=some (.int ((k:Nat):Int))/\c.L[k]?=some a/\c.M.ts[k]?=some tc:=by
  cases hb with
  | no h=>exact absurd h kI
  | folder h1 h2 h3=>exact ⟨_,_,_,h1,h2,h3⟩
  | fin h1 h2 h3=>exact ⟨_,_,_,h1,h2,h3⟩
  | lead h1 h2 h3=>exact ⟨_,_,_,h1,h2,h3⟩
 rw [hv];refine ai ?_;left;refine ⟨by trivial,?_⟩;rw [decide_eq_false (by nofun)];refine bb ?_;refine ai ?_;left;refine (fI bO bQ rfl (mI MV hsf2 ⟨c.A,c.L,c.M,k,ak,tc,v2.m,rfl,rfl,gn,ed,?_⟩));simp only [va];cases hb with
 | no h=>exact absurd h kI
 | folder h1 h2 h3 cm aR =>
  rw [hv] at h1; cases qR h1; rw [ed] at h3; cases h3;simp only [cm,decide_true];left;refine (fI bO bQ rfl ⟨c.A,c.L,c.M,k,_,_,ak,_,v2.m,rfl,rfl,gn,ed,aR,fun H3 s3=>?_⟩);obtain ⟨gK,c7,gL,_,v3⟩:=(v2.same s3).put "here" _ { S with look:=S.look+1,here:=dk _ _ } .au _;exact ⟨c.x,_,_,rfl,c7,gL,q.n rfl _ v3⟩
 | fin h1 h2 h3 cm hf =>
  rw [hv] at h1; cases qR h1; rw [ed] at h3; cases h3;rw [decide_eq_false cm];refine bb ?_;left;rcases hf with hf | ⟨hle,hla⟩
  ·exact eB (decide_eq_true hf) ((if_pos trivial).mpr (B1 v2 (q.n rfl)))
  ·by_cases hf:tc.kd=("file" : Str)
   ·exact eB (decide_eq_true hf) ((if_pos trivial).mpr (B1 v2 (q.n rfl)))
   refine dZ (decide_eq_false hf) (fI bO bQ rfl ⟨fits (by simp),fun d hd=>?_⟩);have v3:=v2.same (ao.upd (o:=.lst []) hd);have b3:upd H2 d (.lst []) d=some (.lst []):=ax;generalize upd H2 d (.lst [])=H3 at v3 b3 ⊢;obtain ⟨gK,oi,c7,gL,du⟩:=v3.fld;refine ⟨_,[],aC.of v3.ol,aC.of b3,.inl ⟨rfl,?_⟩⟩;refine eB (by rw [show ({ S with look:=S.look+1 }:Ws).left=[] from hle]; rfl) (fI c7 du rfl (eB (by rw [hla]; rfl) (B1 v3 (q.n rfl))))
 | lead h1 h2 h3 cm gR jv hm =>
  rw [hv] at h1; cases qR h1; rw [ed] at h3; cases h3;rw [decide_eq_false cm];refine bb ?_;left;refine dZ (decide_eq_false gR) (fI bO bQ rfl ⟨fits (by simp),fun d hd=>?_⟩);have v3:=v2.same (ao.upd (o:=.lst []) hd);have b3:upd H2 d (.lst []) d=some (.lst []):=ax;generalize upd H2 d (.lst [])=H3 at v3 b3 ⊢;obtain ⟨gK,oi,c7,gL,du⟩:=v3.fld;refine ⟨_,[],aC.of v3.ol,aC.of b3,.inl ⟨rfl,?_⟩⟩;by_cases hle:S.left=[]
  ·refine eB (by rw [show ({ S with look:=S.look+1 }:Ws).left=[] from hle]; rfl) (fI c7 du rfl ?_);refine dZ (by cases hb:c.last with | false=>exact absurd ⟨hle,hb⟩ jv | true=>rfl) ?_;exact (mI c7 du ⟨c,_,lf,k,S',o,rfl,rfl,v3,ur,gq,hm,q⟩)
  ·refine dZ (by cases h:S.left with | nil=>exact absurd h hle | cons _ _=>rfl) (bb ?_);exact (mI c7 du ⟨c,_,lf,k,S',o,rfl,rfl,v3,ur,gq,hm,q⟩)
structure rD (c:Wd) (S:Ws) (t:Th):Prop where
 l:∃ a,c.L[S.here]?=some a
 e:c.M.ts[S.here]?=some t
 k:t.kd=("folder" : Str)
 g:dU ("g" : Str) (cJ t c.z)=true
def dj (S:Ws):Ws:={ S with step:=S.step+1,asked:=S.asked++[S.here] }
inductive dz (c:Wd) (S:Ws) (p:Str):Ws->Option Tl->Prop
 | flat {a t}:c.L[S.here]?=some a->c.M.ts[S.here]?=some t->t.kd≠("folder" : Str)->dz c S p { S with step:=S.step+1 } (some (.fail "flat"))
 | jo {a t}:c.L[S.here]?=some a->c.M.ts[S.here]?=some t->t.kd=("folder" : Str)->dU ("g" : Str) (cJ t c.z)=false->dz c S p (dj S) (some (.fail "shut"))
 | dot {t}:rD c S t->p=("." : Str)->dz c S p (dj S) none
 | up {t h}:rD c S t->p=(".." : Str)->wB c S.here h->dz c S p { dj S with here:=h } none
 | go {t S' o}:rD c S t->p≠(".." : Str)->p≠("." : Str)->fb (.str p)=true->p.length<=1000->lq c (dj S) t p S' o->dz c S p S' o
def RD (N:Cn):Sp:=jl fun x p H Q _=>X5 fun c S lf S' o=>A7 (c.x=x) (aU N c S H lf .au) (S.asked.length<=8000) (S.left.length<=8000) (S.bx.length<=400) (dz c.toWd S p S' o) (rj N c S' lf o (Q .au))
theorem YQ:T.su.k P w mg base 10 (RD T.cn):=by
 refine T.su.F.ok Rb (fun _ _ _ _ h=>eL h fun _ _ _=>rfl) fun ah A outer s H vs Q E hr h=>eL h fun x p h=>?_;obtain ⟨c,S,lf,S',o,rfl,v,hn,ur,gq,hp,q⟩:=h;obtain ⟨a,t,ha,aF⟩:∃ a t,c.L[S.here]?=some a/\c.M.ts[S.here]?=some t:=by
  cases hp with
  | flat h1 h2=>exact ⟨_,_,h1,h2⟩
  | jo h1 h2=>exact ⟨_,_,h1,h2⟩
  | dot h=>obtain ⟨a,e⟩:=h.l; exact ⟨a,_,e,h.e⟩
  | up h=>obtain ⟨a,e⟩:=h.l; exact ⟨a,_,e,h.e⟩
  | go h=>obtain ⟨a,e⟩:=h.l; exact ⟨a,_,e,h.e⟩
 refine bK (b:=aS BK) ((am (jT T.aG T.zA jO (ad 0) bi)
 (am (bB (bY kC (bf T.aK T.gG.h (tJ T) hr.m T.gG.b .nil aw (ap T.aG T.fm (ad 0)) (aa (ap T.aG T.fo (ad 0)) ae)) (dL (.str "folder") T.uR ⟨_,rfl⟩)) (am (aY (bf T.aG T.gI.h (tL T) hr.m T.gI.b .nil aw (ad 0) (aa bn ae)))
 (aq Kd)) cr)
 (am (aY (iB PySem.F.slot_list_append PySem.F.type_list_append lz (ap T.aG T.Bq (ad 0)) (aa (ap T.aG T.fo (ad 0)) ae)))
 (aq (bB (dB (cN (cX T.aK T.iJ.h (uA T) hr.m T.iJ.b .nil dE (ap T.aG T.fm (ad 0)) (aa (ap T.aG T.rf (ad 0)) (aa (ap T.aG T.fo (ad 0)) (aa bn ae)))))) (aq (aY (bf T.aG T.gI.h (tL T) hr.m T.gI.b .nil aw (ad 0) (aa bn ae)))) (aq (bB (bY iE (ad 1) bn) (aq (aY (nB T.aG T.sQ.h (SJ T) hr.m T.sQ.b .nil aw (ad 0)))) (aq (bB (bY kC (ad 1) bn) (aq (aY (bf T.aG T.qI.h (Yb T) hr.m T.qI.b .nil aw (ad 0) (aa (ad 1) ae)))) cr)))))))))) ?_
 refine stI [some (V.ref c.x),some (V.str p)] ?_;obtain ⟨fs,hx,aW,kU,v1⟩:=v.put "step" (.int ((S.step:Int)+1)) { S with step:=S.step+1 } .au _;refine ai ?_;left;refine ⟨c.x,_,_,_,rfl,hx,kU,_,_,rfl,rfl,_,_,hx,aW,ai ?_⟩;generalize upd H c.x (.ins T.bg c.dx (ay "step" (.int ((S.step:Int)+1)) fs))=H1 at v1 ⊢;obtain ⟨gj,xD,bo,iN,cG⟩:=v1.fld;obtain ⟨jC,hc,hh,qd,gP⟩:=v1.m.h;left;refine (fI bo cG rfl (mI hh gP (fI bo cG rfl ⟨c.A,c.L,c.M,S.here,a,t,v1.m,rfl,rfl,ha,aF,?_⟩)));simp only [va];by_cases cm:t.kd=("folder" : Str)
 ·simp only [cm,decide_true];refine bb ?_;refine ai ?_;left;refine (fI bo cG rfl ?_);simp only [v1.oa];refine (fI bo cG rfl ?_);have v2:=v1.N5 S.here;refine ⟨Nat.lt_of_lt_of_le (Nat.lt_succ_self _) (zR (by simp; omega)),?_⟩;dsimp only at v2;generalize upd H1 c.av (.lst (nV S.asked++[.int (S.here:Int)]))=H2 at v2 ⊢;obtain ⟨ik,n9,bO,iR,bQ⟩:=v2.fld;obtain ⟨mf,gc,gh,mq,eQ⟩:=v2.m.h;refine (fI bO bQ rfl (mI gh eQ (fI bO bQ rfl (fI bO bQ rfl (uM v2.m (by rw [v2.hz]; rfl) (by decide +kernel) aF ?_)))));cases hp with
  | flat h1 h2 h3=>rw [aF] at h2; cases h2; exact absurd cm h3
  | jo h1 h2 h3 h4 =>
   rw [aF] at h2; cases h2;rw [h4];exact bE (mI bO bQ ⟨c,_,lf,rfl,v2,q⟩)
  | dot hA h5 =>
   have h2:=hA.e; rw [aF] at h2; cases h2;subst h5;rw [hA.g];exact bb (dZ (decide_eq_false (by decide +kernel)) (dZ (by rw [decide_eq_true rfl]; rfl) (q.n rfl _ v2)))
  | up hA h5 hu =>
   have h2:=hA.e; rw [aF] at h2; cases h2;subst h5;rw [hA.g];exact bb (eB (decide_eq_true rfl) (mI bO bQ ⟨c,_,lf,_,rfl,v2,hu,q.n rfl⟩))
  | go hA h5 h6 h7 h8 hb =>
   have h2:=hA.e; rw [aF] at h2; cases h2;rw [hA.g];exact bb (dZ (decide_eq_false h5) (eB (by rw [decide_eq_false h6]; rfl) (mI bO bQ ⟨c,_,lf,a,_,_,_,rfl,v2,ha,aF,h7,h8,ur,gq,hb,q⟩)))
 ·refine eB (by rw [decide_eq_false cm]; rfl) ?_;refine ai ?_;left;have hf:S'={ S with step:=S.step+1 }/\o=some (.fail "flat"):=by
   cases hp with
   | flat h1 h2 h3=>exact ⟨rfl,rfl⟩
   | jo h1 h2 h3 h4=>rw [aF] at h2; cases h2; exact absurd h3 cm
   | dot hA=>have h2:=hA.e; rw [aF] at h2; cases h2; exact absurd hA.k cm
   | up hA=>have h2:=hA.e; rw [aF] at h2; cases h2; exact absurd hA.k cm
   | go hA=>have h2:=hA.e; rw [aF] at h2; cases h2; exact absurd hA.k cm
  obtain ⟨rfl,rfl⟩:=hf;exact (mI bo cG ⟨c,_,lf,rfl,v1,q⟩)
theorem yh (c:Nat):∀ (ns:List Str) (n:Nat),(∀ s∈ns,s.length<=8)->ns.foldl (fun n z=>n+z.length+c) n<=n+(8+c) * ns.length
 | [],n,_=>by simp
 | y::r,n,h=>by
  have h1:=h y (by simp);have h2:=yh c r (n+y.length+c) fun s hs=>h s (by simp [hs]);rw [List.foldl_cons,List.length_cons,Nat.mul_add];omega
theorem Rx {ns:List Str} (h:∀ s∈ns,s.length<=8) (hl:ns.length<=100):ns.foldl (fun n z=>n+z.length+(Str.ofString "/").length) 0<=900/\(Str.join (Str.ofString "/") ns).length<=900:=by
 have lj:(Str.ofString "/").length=1:=by decide +kernel
 have h1:=yh 1 ns 0 h;have h2:=StrLaws.join_length_le (Str.ofString "/") ns;have h3:(ns.map (·.length)).sum<=8 * ns.length:=by
  clear h1 h2 hl
  induction ns with
  | nil=>simp
  | cons y r ih =>
   have:=ih fun s hs=>h s (by simp [hs]);have h4:=h y (by simp);rw [List.map_cons,List.sum_cons,List.length_cons];omega
 rw [lj] at h2 ⊢;omega
def Ac (ns:List Str):Str:=Str.ofString "/" ++ Str.join (Str.ofString "/") ns
def Pc (N:Cn):Sp:=fZ fun x H Q _=>X9 fun c S lf (f:Nat) (a:Ta) (t:Th) (ns:List Str) (cH:List Str) (told:V)=>A9 (c.x=x) (aU N c S H lf told) (c.L[S.here]?=some a) (c.M.ts[S.here]?=some t) (t.kd=("folder" : Str)/\f=S.here/\cH=[]\/t.kd≠("folder" : Str)/\∃ nm:Str,S.place=some (f,nm)/\cH=[nm]/\nm.length<=8) (∃ m,iZ c.M c.L c.root m f ns) (ns.length<=99) (∀ s∈ns,s.length<=8) (∀ H',ao H H'->Q (.str (Ac (ns++cH))) H')
theorem ZW:T.sJ.k P w mg base 7 (Pc T.cn):=by
 refine T.sJ.F.ok tV (fun _ _ _ _ h=>cI h fun _ _=>rfl) fun ah A outer s H vs Q E hr h=>cI h fun x h=>?_;obtain ⟨c,S,lf,f,a,t,ns,cH,told,rfl,v,ha,aF,hk,eC,hl100,hn8,q⟩:=h;refine bK (b:=aS yN) ((am (aQ 1 tV.nd (db ae))
 (am (aQ 2 tV.nd (ap T.aG T.fo (ad 0)))
 (am (bB (bY kC (bf T.aK T.gG.h (tJ T) hr.m T.gG.b .nil aw (ap T.aG T.fm (ad 0)) (aa (ap T.aG T.fo (ad 0)) ae)) (dL (.str "folder") T.uR ⟨_,rfl⟩)) (am (aQ 2 tV.nd (ci (bG (K:=K) rfl) (ap T.aG T.wZ (ad 0)) bi))
 (aq (aQ 1 tV.nd (db (aa (ci (bG (K:=K) rfl) (ap T.aG T.wZ (ad 0)) bi) ae))))) cr)
 (aq (aN (dl gD bn (tP PySem.F.slot_str_join PySem.F.type_str_join (Fn (K:=K) rfl) bn (aa (dl gD (bv (ZM T) hr.m T.pS.m T.pS.F.kp T.pS.b .nil aw (aa (ap T.aG T.fm (ad 0)) (aa (ap T.aG T.rf (ad 0)) (aa (ad 2) ae)))) (ad 1)) ae))))))))) ?_
 refine stI [some (V.ref c.x),none,none] ?_;refine ai ?_;left;refine ⟨fits (by simp),fun ln xO=>?_⟩;refine eF (o:=.lst []) xO fun H1 s1 b1=>?_;have v1:=v.same s1;obtain ⟨fs,pv,hx,aW,Nr,sf⟩:=v1.o;obtain ⟨jC,hc,hh,qd,gP⟩:=v1.m.h;refine ai ?_;left;refine (fI hx sf rfl ?_);refine js (fun σ' H'=>∃ ln',σ'=[some (V.ref c.x),some (V.ref ln'),some (V.int (f:Int))]/\ao H H'/\H' ln'=some (.lst (cH.map V.str))/\cH.length<=1/\∀ s∈cH,s.length<=8) ?_ ?_
 ·left;refine (fI hx sf rfl (mI hh gP (fI hx sf rfl ⟨c.A,c.L,c.M,S.here,a,t,v1.m,rfl,rfl,ha,aF,?_⟩)));simp only [va];rcases hk with ⟨cm,rfl,rfl⟩ | ⟨cm,nm,bt,rfl,cf⟩
  ·refine dZ (by rw [decide_eq_true cm]; rfl) ?_;exact ⟨ln,rfl,s1,b1,by simp,fun s hs=>(by cases hs)⟩
  ·refine eB (by rw [decide_eq_false cm]; rfl) ?_;rw [bt] at Nr;obtain ⟨p,rfl,p0,hp⟩:=Nr;refine ai ?_;left;refine (fI hx sf rfl ?_);simp only [bS,hp,gX];refine (fI hx sf rfl ?_);simp only [hp,wj];exact ⟨fits (by simp),fun p2 dP=>⟨p2,rfl,s1.trans (ao.upd dP),by rw [ax]; rfl,by simp,fun s hs=>by rw [List.mem_singleton.mp hs]; exact cf⟩⟩
 rintro σ' H2 ⟨l2,rfl,s2,b2,kZ,h8⟩;have v2:=v.same s2;obtain ⟨ik,n9,bO,iR,bQ⟩:=v2.fld;left;refine (fI bO bQ rfl (fI bO bQ rfl ⟨c.A,c.L,c.M,f,c.root,ns,v2.m,rfl,rfl,v2.hz,eC,by omega,fun l H3 s3 hl=>?_⟩));have c3:=s3 _ _ b2;simp only [hl,c3];have hn8':∀ s∈ns++cH,s.length<=8:=fun s hs=>by
  rcases List.mem_append.mp hs with hs | hs
  ·exact hn8 s hs
  ·exact h8 s hs
 obtain ⟨qc,xn⟩:=Rx hn8' (by rw [List.length_append]; omega);have lj:(Str.ofString "/").length=1:=by decide +kernel
 refine ⟨fits (by simp only [List.length_map]; omega),fun p hp=>?_⟩;refine ⟨_,aC.of ax,ns++cH,by simp,?_⟩;exact ⟨fits (by omega),fits (by omega),q _ ((s2.trans s3).trans (ao.upd hp))⟩
structure Bd (S:Ws):Prop where
 a:S.asked.length<=S.step
 p:S.step+S.left.length+125 * (40 - S.read)<=8000
 r:S.bx.length<=S.read
 q:S.read<=40
theorem wA (ps:List Str):(cP ps).length=ps.length:=by unfold cP; simp
theorem rS.bd {c:Wd} {S S':Ws} {k:Nat} (h:rS c S k S') (a:S.asked.length<=S.step) (p:S.step+S.left.length+125 * (40 - S.read)<=8000) (r:S.bx.length<=S.read) (q:S.read < 40):Bd S':=by
 cases h with
 | @mk _ _ t _ _ _ _ h1 h2 h3 h4 h5 h6 h7 _ _ _ =>
  have e:=wA (dY t);refine ⟨a,?_,by unfold ia; simp; omega,by unfold ia; simp; omega⟩;unfold ia;simp only [List.length_append,List.length_cons,List.length_nil,e];omega
theorem dz.Qg {c:Wd} {S S1:Ws} {p:Str} {o:Option Tl} (ba:S.asked.length<=S.step) (bp:S.step+1+S.left.length+125 * (40 - S.read)<=8000) (br:S.bx.length<=S.read) (bq:S.read<=40) (h:dz c S p S1 o):Bd S1:=by
 cases h with
 | flat=>exact ⟨by dsimp only; omega,by dsimp only; omega,br,bq⟩
 | jo=>exact ⟨by unfold dj; simp; omega,by unfold dj; dsimp only; omega,br,bq⟩
 | dot=>exact ⟨by unfold dj; simp; omega,by unfold dj; dsimp only; omega,br,bq⟩
 | up=>exact ⟨by unfold dj; simp; omega,by unfold dj; dsimp only; omega,br,bq⟩
 | go _ _ _ _ _ hb =>
  have a2:(dj S).asked.length<=(dj S).step:=by unfold dj; simp; omega
  have p2:(dj S).step+(dj S).left.length+125 * (40 - (dj S).read)<=8000:=by unfold dj; dsimp only; omega
  cases hb with
  | no=>exact ⟨a2,p2,br,bq⟩
  | folder=>exact ⟨a2,p2,br,bq⟩
  | fin=>exact ⟨a2,p2,br,bq⟩
  | lead _ _ _ _ _ _ hm =>
   cases hm with
   | ring=>exact ⟨a2,p2,br,bq⟩
   | many=>exact ⟨a2,p2,br,bq⟩
   | read _ h40 hr=>exact hr.bd a2 p2 br (Nat.lt_of_le_of_ne bq h40)
theorem dz.bd {c:Wd} {S S1:Ws} {l:List (Sum Nat Str)} {p:Str} {o:Option Tl} (b:Bd S) (e:S.left=l++[.inr p]) (h:dz c { S with left:=l } p S1 o):Bd S1:=by
 have bp:=b.p;rw [e,List.length_append] at bp;have e1:[Sum.inr (α:=Nat) p].length=1:=rfl;exact dz.Qg (S:={ S with left:=l }) b.a (by dsimp only; omega) b.r b.q h
inductive dX (c:Wd):Nat->Ws->Ws->Option Tl->Prop
 | done {S}:S.left=[]->dX c 0 S S none
 | pop {n S k l r j S' o}:S.left=l++[.inl k]->S.bx=r++[j]->dX c n { S with left:=l,bx:=r } S' o->dX c (n+1) S S' o
 | step {n S p l S1 S' o}:S.left=l++[.inr p]->dz c { S with left:=l } p S1 none->dX c n S1 S' o->dX c (n+1) S S' o
 | fail {S p l S1 y}:S.left=l++[.inr p]->dz c { S with left:=l } p S1 (some y)->dX c 0 S S1 (some y)
abbrev CK (k:Nat) (ns:List Str):List (Str×V):=ay "way" (.str (Ac ns)) (ay "number" (.int (k:Int)) [])
def wL (M:Hs) (L:List Ta) (root:Nat) (S:Ws) (ns cH:List Str):Prop:=∃ (f:Nat) (a:Ta) (t:Th),L[S.here]?=some a/\M.ts[S.here]?=some t /\
   (t.kd=("folder" : Str)/\f=S.here/\cH=[]\/t.kd≠("folder" : Str)/\∃ nm:Str,S.place=some (f,nm)/\cH=[nm]/\nm.length<=8)/\(∃ m,iZ M L root m f ns)/\ns.length<=99/\(∀ s∈ns,s.length<=8)
def WV (N:Cn):Sp:=fZ fun x H Q _=>X6 fun c S lf n S' o=>A6 (c.x=x) (aU N c S H lf .au) (Bd S) (dX c.toWd n S S' o) (∀ y,o=some y->∀ fd H',aU N c S' H' lf (.ref fd)->tE N c.H0 H' S'.step fd y->Q .au H') (o=none->∃ ns cH,wL c.M c.L c.root S' ns cH/\∀ fd bh H',aU N c S' H' lf (.ref fd)->c.H0 fd=none->H' fd=some (.ins N.CG bh (CK S'.here (ns++cH)))->Q .au H')
theorem UW:T.tG.k P w mg base 11 (WV T.cn):=by
 refine T.tG.F.ok F2 (fun _ _ _ _ h=>cI h fun _ _=>rfl) fun ah A outer s H vs Q E hr h=>cI h fun x h=>?_;obtain ⟨c,S,lf,n,S',o,rfl,v,fB,jw,q1,q2⟩:=h;refine bK (b:=aS Ap) ((am (rF PassesOwn.never (hX (Dv.w_and (bY vU (ap T.aG T.lP (ad 0)) au) (vT (bY (SA (K:=K) rfl hr.wy) (ap T.aG T.ni (ad 0)) (db ae))))) (am (aQ 1 F2.nd (Gj PySem.F.slot_list_pop PySem.F.type_list_pop Fe (ap T.aG T.ni (ad 0))))
 (aq (bB (cN (bv (II T) hr.m T.ku.m T.ku.F.kp T.ku.b .nil aw (aa (ad 1) ae))) (aq (aY (Gj PySem.F.slot_list_pop PySem.F.type_list_pop Fe (ap T.aG T.px (ad 0))))) (aq (aY (bf T.aG T.su.h (YQ T) hr.m T.su.b .nil aw (ad 0) (aa (ad 1) ae))))))))
 (aq (bB (bY vU (ap T.aG T.lP (ad 0)) au) (aq (bu T.aG T.lP (ad 0) (io T.Tc (Yd T) hr.m T.vN T.sR.b .nil aw (aa (ap T.aG T.fo (ad 0)) (aa (nB T.aG T.sJ.h (ZW T) hr.m T.sJ.b .nil aw (ad 0)) ae))))) cr)))) ?_
 refine stI [some (V.ref c.x),none] ?_;obtain ⟨PV,kJ⟩:∃ PV:Nat->St->Hp->Prop,PV=fun m σ' H'=>∃ pv:Option V,σ'=[some (V.ref c.x),pv] /\
   ((∃ n S,m=n+1/\aU T.cn c S H' lf .au/\Bd S/\dX c.toWd n S S' o) \/
     (∃ y fd,m=0/\o=some y/\aU T.cn c S' H' lf (.ref fd)/\tE T.cn c.H0 H' S'.step fd y)):=⟨_,rfl⟩
 refine ai ?_;refine ⟨PV,⟨n+1,by rw [kJ]; exact ⟨none,rfl,.inl ⟨n,S,rfl,v,fB,jw⟩⟩⟩,?_⟩;clear v fB jw;intro m σ' H' hI;rw [kJ] at hI;obtain ⟨pv,rfl,⟨n,S,hm,v1,fB,jw⟩ | ⟨y,fd,hm,ho,v1,bc⟩⟩:=hI
 ·left;obtain ⟨gj,xD,bo,iN,cG⟩:=v1.fld;refine (fI bo cG rfl ⟨by trivial,bE ?_⟩);refine (fI bo cG rfl ⟨fits (by simp),fun d hd=>?_⟩);have v2:=v1.same (ao.upd (o:=.lst []) hd);have b2:upd H' d (.lst []) d=some (.lst []):=ax;generalize upd H' d (.lst [])=H2 at v2 b2 ⊢;obtain ⟨ik,n9,bO,iR,bQ⟩:=v2.fld;refine ⟨_,[],aC.of v2.ol,aC.of b2,.inl ⟨rfl,?_⟩⟩;cases jw with
  | done hle =>
   refine dZ (by rw [hle]; rfl) ?_;refine (fI bO bQ rfl ⟨by trivial,bE ?_⟩);obtain ⟨ns,cH,⟨f,a,t,h1,h2,h3,h4,h5,h6⟩,q⟩:=q2 rfl;refine (fI bO bQ rfl (mI bO bQ ⟨c,_,lf,f,a,t,ns,cH,_,rfl,v2,h1,h2,h3,h4,h5,h6,fun H3 s3=>?_⟩));intro fd bh bc hdfd nfd;have s4:=(ao.upd (o:=.own fd) hdfd).trans (ao.upd (p:=fd) (o:=.ins T.dv bh []) (by rw [ag (Ne.symm nfd)]; exact bc));have b4:upd (upd H3 bh (.own fd)) fd (.ins T.dv bh []) fd=some (.ins T.dv bh []):=ax;generalize upd (upd H3 bh (.own fd)) fd (.ins T.dv bh [])=H4 at s4 b4 ⊢;refine ⟨bh,b4,rfl,?_⟩;obtain ⟨qB,iT,fV,v6,f0,nx⟩:=(v2.same s3).tells (t:=.ring []) (F:=CK S'.here (ns++cH)) bc s4 b4;exact ⟨c.x,_,_,rfl,iT,fV,q fd bh _ v6 f0 (by rw [ag (Ne.symm nx)]; exact ax)⟩
  | @pop n _ k l r j _ _ hle fe jw =>
   refine eB (by rw [hle]; cases l <;> rfl) ⟨_,fun _ _ h=>h,?_⟩;refine ai ?_;left;refine (fI bO bQ rfl ?_);simp only [v2.ol];refine ⟨l.map c9,V.int (k:Int),by rw [hle,List.map_append]; rfl,?_⟩;have v3:=v2.ra l;generalize upd H2 lf (.lst (l.map c9))=H3 at v3 ⊢;obtain ⟨gK,oi,c7,gL,du⟩:=v3.fld;refine ⟨⟨_,rfl⟩,bE ?_⟩;refine (fI c7 du rfl ?_);simp only [v3.od];refine ⟨nV r,V.int (j:Int),by rw [fe,nk]; rfl,n+1,by omega,?_⟩;have v4:=v3.J5 r;dsimp only at v4;rw [kJ];have ba:=fB.a; have bp:=fB.p; have br:=fB.r; have bq:=fB.q;rw [hle,List.length_append] at bp;rw [fe,List.length_append] at br;exact ⟨_,rfl,.inl ⟨n,_,rfl,v4,⟨ba,by dsimp only; omega,by dsimp only; omega,bq⟩,jw⟩⟩
  | @step n _ p l S1 _ _ hle aR jw =>
   refine eB (by rw [hle]; cases l <;> rfl) ⟨_,fun _ _ h=>h,?_⟩;refine ai ?_;left;refine (fI bO bQ rfl ?_);simp only [v2.ol];refine ⟨l.map c9,V.str p,by rw [hle,List.map_append]; rfl,?_⟩;have v3:=v2.ra l;generalize upd H2 lf (.lst (l.map c9))=H3 at v3 ⊢;obtain ⟨gK,oi,c7,gL,du⟩:=v3.fld;refine ⟨⟨_,rfl⟩,bb ?_⟩;have ba:=fB.a; have bp:=fB.p; have br:=fB.r; have bq:=fB.q;rw [hle,List.length_append] at bp;refine (mI c7 du ⟨c,_,lf,_,_,rfl,v3,by dsimp only; omega,by dsimp only; omega,by dsimp only; omega,aR,fun _ H4 v4=>⟨n+1,by omega,?_⟩,fun y hy=>by cases hy⟩);rw [kJ];exact ⟨_,rfl,.inl ⟨n,S1,rfl,v4,aR.bd fB hle,jw⟩⟩
  | @fail _ p l _ y hle aR =>
   refine eB (by rw [hle]; cases l <;> rfl) ⟨_,fun _ _ h=>h,?_⟩;refine ai ?_;left;refine (fI bO bQ rfl ?_);simp only [v2.ol];refine ⟨l.map c9,V.str p,by rw [hle,List.map_append]; rfl,?_⟩;have v3:=v2.ra l;generalize upd H2 lf (.lst (l.map c9))=H3 at v3 ⊢;obtain ⟨gK,oi,c7,gL,du⟩:=v3.fld;refine ⟨⟨_,rfl⟩,bb ?_⟩;have ba:=fB.a; have bp:=fB.p; have br:=fB.r; have bq:=fB.q;rw [hle,List.length_append] at bp;refine (mI c7 du ⟨c,_,lf,_,_,rfl,v3,by dsimp only; omega,by dsimp only; omega,by dsimp only; omega,aR,(fun z=>by cases z),fun y' hy fd H4 v4 hf=>⟨0,by omega,?_⟩⟩);cases hy;rw [kJ];exact ⟨_,rfl,.inr ⟨y,fd,rfl,rfl,v4,hf⟩⟩
 ·left;obtain ⟨gj,xD,bo,iN,cG⟩:=v1.fld;refine (fI bo cG rfl ⟨by trivial,?_⟩);refine dZ (decide_eq_false (by nofun)) ?_
  first
   | exact (fI bo cG rfl ⟨by trivial,dZ (decide_eq_false (by nofun)) (q1 y ho fd _ v1 bc)⟩)
   | exact bb (fI bo cG rfl ⟨by trivial,dZ (decide_eq_false (by nofun)) (q1 y ho fd _ v1 bc)⟩)
   | (left; exact (fI bo cG rfl ⟨by trivial,dZ (decide_eq_false (by nofun)) (q1 y ho fd _ v1 bc)⟩))
inductive Res
 | found (k:Nat) (ns:List Str)
 | failed (k:Nat) (y:Str)
 | ring (ns:List Nat)
structure End where
 asked:List Nat
 res:Res
def gF (N:Cn) (H:Hp) (fd:Addr):Res->Prop
 | .found k ns=>∃ bh,H fd=some (.ins N.CG bh (CK k ns))
 | .failed k y=>∃ bh,H fd=some (.ins N.CF bh (BA k y))
 | .ring ns=>∃ bh rl,H fd=some (.ins N.CR bh (ay "leads" (.ref rl) []))/\H rl=some (.lst (nV ns))
theorem gF.same {N:Cn} {H H':Hp} {fd:Addr} (s:ao H H'):∀ {r:Res},gF N H fd r->gF N H' fd r
 | .found _ _,⟨d,e⟩=>⟨d,s _ _ e⟩
 | .failed _ _,⟨d,e⟩=>⟨d,s _ _ e⟩
 | .ring _,⟨d,l,e,f⟩=>⟨d,l,s _ _ e,s _ _ f⟩
def yU (step:Nat):Tl->Res
 | .fail y=>.failed step y
 | .ring ns=>.ring ns
theorem tE.r {N:Cn} {H0 H:Hp} {k:Nat} {fd:Addr}:∀ {t:Tl},tE N H0 H k fd t->gF N H fd (yU k t)
 | .fail _,⟨_,d,e⟩=>⟨d,e⟩
 | .ring _,⟨_,d,l,e,f⟩=>⟨d,l,e,f⟩
structure v9 (d:Wd) (fr:Bool) (h:Nat):Prop where
 z:aP (sD d.M.ro) (.inr d.z)=some (.int (d.root:Int))
 ex:∃ (st b:Nat) (r:List Nat) (a:Ta) (t:Th),(fr=true/\st=d.root\/fr=false/\aP (sD d.M.st) (.inr d.z)=some (.int (st:Int)))/\d.L[st]?=some a/\d.M.ts[st]?=some t/\da d.M st b r/\(∃ m,jL d.M d.L d.root m (dk b r) true)/\h=dk b r
inductive la (d:Wd) (fr:Bool) (ps:List Str):End->Prop
 | told {h n S' t}:v9 d fr h->ps.length<=2500->dX d n ⟨h,none,0,[],cP ps,[],0,0⟩ S' (some t)->la d fr ps ⟨S'.asked,yU S'.step t⟩
 | found {h n S' ns cH}:v9 d fr h->ps.length<=2500->dX d n ⟨h,none,0,[],cP ps,[],0,0⟩ S' none->wL d.M d.L d.root S' ns cH->la d fr ps ⟨S'.asked,.found S'.here (ns++cH)⟩
def tR (N:Cn) (H H':Hp) (e:End) (x:Addr):Prop:=ao H H'/\∃ dx gs fd av,H' x=some (.ins N.CW dx gs)/\gs.lookup ("told" : Str)=some (.ref fd)/\gF N H' fd e.res/\gs.lookup ("asked" : Str)=some (.ref av)/\H' av=some (.lst (nV e.asked))
theorem tR.of {N:Cn} {H H1 H2:Hp} {e:End} {x:Addr} (s:ao H H1) (h:tR N H1 H2 e x):tR N H H2 e x:=⟨s.trans h.1,h.2⟩
def ZD (N:Cn):Sp:=Kq fun h z fr lp last H Q _=>X6 fun A L M root ps e=>A5 (aJ N.CH N.CS N.CT H A L M) (A.a=h) (H lp=some (.lst (ps.map V.str))) (la ⟨L,M,z,last,root⟩ fr ps e) (∀ x H',tR N H H' e x->Q (.ref x) H')
theorem IH:T.j5.k P w base 12 (ZD T.cn):=by
 refine T.j5.F.ok Kk (fun _ _ _ _ h=>E6 h fun _ _ _ _ _ _=>rfl) fun ah A outer s H vs Q E hr h=>E6 h fun hh z fr lp last h=>?_;obtain ⟨AA,L,M,root,ps,e,i,rfl,nZ,g,q⟩:=h;obtain ⟨mv,bz,hb,gk,n,S',o,jw,f1,f2⟩:∃ h,aP (sD M.ro) (.inr z)=some (.int (root:Int))/\v9 ⟨L,M,z,last,root⟩ fr h/\ps.length<=2500/\∃ n S' o,dX ⟨L,M,z,last,root⟩ n ⟨h,none,0,[],cP ps,[],0,0⟩ S' o/\(∀ y,o=some y->e=⟨S'.asked,yU S'.step y⟩)/\(o=none->∃ ns cH,wL M L root S' ns cH/\e=⟨S'.asked,.found S'.here (ns++cH)⟩):=by
  cases g with
  | told b hp hr=>exact ⟨_,b.z,b,hp,_,_,_,hr,fun y hy=>(by cases hy; rfl),fun z=>(by cases z)⟩
  | found b hp hr ht=>exact ⟨_,b.z,b,hp,_,_,_,hr,fun y hy=>(by cases hy),fun _=>⟨_,_,ht,rfl⟩⟩
 obtain ⟨st,b,r,a,t,aR,ha,ht,um,xy,rfl⟩:=hb.ex;refine bK (b:=aS Bt) ((am (aQ 5 Kk.nd (io T.Xe (Y4 T) hr.m T.UO T.rG.b .nil aw (aa (ad 0) (aa (ad 1) (aa (ad 4) ae)))))
 (am (aY (bf T.aG T.rZ.h (XU T) hr.m T.rZ.b .nil aw (ad 5) (aa (ad 2) (aa (ad 3) ae))))
 (am (aY (nB T.aG T.tG.h (UW T) hr.m T.tG.b .nil aw (ad 5)))
 (aq (aN (ad 5))))))) ?_
 refine stI [some (V.ref AA.a),some (V.str z),some (V.bl fr),some (V.ref lp),some (V.bl last),none] ?_;refine ai ?_;left;intro x dx hx kH ndx;have s1:=(ao.upd (o:=.own x) kH).trans (ao.upd (p:=x) (o:=.ins T.bg dx []) (by rw [ag (Ne.symm ndx)]; exact hx));have b1:upd (upd H dx (.own x)) x (.ins T.bg dx []) x=some (.ins T.bg dx []):=ax;generalize upd (upd H dx (.own x)) x (.ins T.bg dx [])=H1 at s1 b1 ⊢;refine ⟨AA,L,M,dx,H,root,i,rfl,b1,s1,hx,bz,fun av lf rd H2 v2=>?_⟩;refine ⟨rfl,ai ?_⟩;left;obtain ⟨ik,n9,bO,iR,bQ⟩:=v2.fld;refine (mI bO bQ ⟨_,_,lf,st,b,ps,r,a,t,true,rfl,v2,v2.s _ _ nZ,aR,ha,ht,um,xy,fun _ lf' H3 v3=>ai ?_,fun z=>by cases z⟩);left;obtain ⟨gK,oi,c7,gL,du⟩:=v3.fld;refine (mI c7 du ⟨_,_,lf',n,S',o,rfl,v3,⟨Nat.zero_le _,by have:=wA ps; dsimp only; omega,Nat.zero_le _,Nat.zero_le _⟩,jw,fun y hy fd H4 v4 bc=>?_,fun ho=>?_⟩)
 ·obtain ⟨qu,LI,iP,nT,nR⟩:=v4.fld;have he:=f1 y hy;exact q x H4 ⟨v4.s,dx,qu,fd,av,iP,(nR _).trans rfl,by rw [he]; exact bc.r,(nR _).trans rfl,by rw [he]; exact v4.oa⟩
 ·obtain ⟨ns,cH,ht,he⟩:=f2 ho;refine ⟨ns,cH,ht,fun fd bh H4 v4 f0 bc=>?_⟩;obtain ⟨qu,LI,iP,nT,nR⟩:=v4.fld;exact q x H4 ⟨v4.s,dx,qu,fd,av,iP,(nR _).trans rfl,by rw [he]; exact ⟨bh,bc⟩,(nR _).trans rfl,by rw [he]; exact v4.oa⟩
structure dI (d:Wd) (t:List Nat) (e:End):Prop where
 l1:1<=t.length
 l2:t.length<=2000
 all:(Tx.words 47 t).all cB=true
 g:la d (dC t) (dY t) e
theorem dI.hz {d:Wd} {t:List Nat} {e:End} (p:dI d t e):(aP (sD d.M.ro) (.inr d.z)).isSome=true:=by
 cases p.g with
 | told b=>rw [b.z]; rfl
 | found b=>rw [b.z]; rfl
def Qa (N:Cn):Sp:=vG fun h z pt last H Q _=>X6 fun A L M root t e=>A5 (pt=Tx.S t) (aJ N.CH N.CS N.CT H A L M) (A.a=h) (dI ⟨L,M,z,last,root⟩ t e) (∀ x H',tR N H H' e x->Q (.ref x) H')
theorem Jw:T.jD.k P w base 13 (Qa T.cn):=by
 refine T.jD.F.ok Ia (fun _ _ _ _ h=>pZ h fun _ _ _ _ _=>rfl) fun ah A outer s H vs Q E hr h=>pZ h fun hh z pt last h=>?_;obtain ⟨AA,L,M,root,t,e,rfl,i,rfl,pg,q⟩:=h;obtain ⟨jC,hc,hh,qd,gP⟩:=i.h;refine bK (b:=aS AG) ((am (aY (cX T.aK T.ef.h (lB T) hr.m T.ef.b .nil dE (ad 0) (aa (ad 1) ae)))
 (am (aQ 4 Ia.nd (bv (kF T) hr.m T.cu.m T.cu.F.kp T.cu.b .nil aw (aa (ad 2) ae)))
 (aq (aN (bv (IH T) hr.m T.j5.m T.j5.F.kp T.j5.b .nil aw (aa (ad 0) (aa (ad 1) (aa (ci (bG (K:=K) rfl) (ad 4) bi) (aa (ci (bG (K:=K) rfl) (ad 4) bi) (aa (ad 3) ae))))))))))) ?_
 refine stI [some (V.ref AA.a),some (V.str z),some (V.str (Tx.S t)),some (V.bl last),none] ?_;refine ai ?_;left;refine (mI hh gP (m4 i pg.hz (ai ?_)));left;refine ⟨t,rfl,pg.l1,pg.l2,pg.all,fun H1 l p s1 _ hl hp=>?_⟩;simp only [bS,hp];left;rw [show cO [V.bl (dC t),V.ref l] 0=some (V.bl (dC t)) from rfl,show cO [V.bl (dC t),V.ref l] 1=some (V.ref l) from rfl];rw [FZ] at hl;exact ⟨AA,L,M,root,_,e,i.same s1,rfl,hl,pg.g,fun x H2 f=>q x H2 (f.of s1)⟩
def Xj (N:Cn):Sp:=vG fun h z pt last H Q _=>X6 fun A L M root t e=>A5 (pt=Tx.S t) (aJ N.CH N.CS N.CT H A L M) (A.a=h) (dI ⟨L,M,z,last,root⟩ t e) (∀ fd H',ao H H'->gF N H' fd e.res->Q (.ref fd) H')
theorem y6:aB P w K mg base aL 14 T.Dy T.xP ["house","asker","path","last"] (Xj T.cn):=by
 refine T.pC.ok Um (fun vs H Q E h=>?_) (fun ah A outer s H vs Q E hr h=>?_)
 ·exact pZ h fun _ _ _ _ _=>rfl
 ·refine pZ h fun hh z pt last h=>?_;obtain ⟨AA,L,M,root,t,e,rfl,i,rfl,pg,q⟩:=h;refine bK (b:=aS tS) ((aq (aN (ap T.aG T.lP (bv (Jw T) hr.m T.jD.m T.jD.F.kp T.jD.b .nil aw (aa (ad 0) (aa (ad 1) (aa (ad 2) (aa (ad 3) ae))))))))) ?_;refine stI [some (V.ref AA.a),some (V.str z),some (V.str (Tx.S t)),some (V.bl last)] ?_;left;refine ⟨AA,L,M,root,t,e,rfl,i,rfl,pg,fun x H1 ⟨s1,dx,gs,fd,av,hx,xg,bc,pF,il⟩=>?_⟩;exact ⟨x,_,_,_,rfl,hx,xg,q fd H1 s1 bc⟩
def T8 (N:Cn):Sp:=vG fun h z pt last H Q _=>X6 fun A L M root t e=>A5 (pt=Tx.S t) (aJ N.CH N.CS N.CT H A L M) (A.a=h) (dI ⟨L,M,z,last,root⟩ t e) (∀ av H',ao H H'->H' av=some (.lst (nV e.asked))->Q (.ref av) H')
theorem Z5:aB P w K mg base aL 14 T.De T.xF ["house","asker","path","last"] (T8 T.cn):=by
 refine T.wR.ok Xv (fun vs H Q E h=>?_) (fun ah A outer s H vs Q E hr h=>?_)
 ·exact pZ h fun _ _ _ _ _=>rfl
 ·refine pZ h fun hh z pt last h=>?_;obtain ⟨AA,L,M,root,t,e,rfl,i,rfl,pg,q⟩:=h;refine bK (b:=aS sU) ((aq (aN (ap T.aG T.Bq (bv (Jw T) hr.m T.jD.m T.jD.F.kp T.jD.b .nil aw (aa (ad 0) (aa (ad 1) (aa (ad 2) (aa (ad 3) ae))))))))) ?_;refine stI [some (V.ref AA.a),some (V.str z),some (V.str (Tx.S t)),some (V.bl last)] ?_;left;refine ⟨AA,L,M,root,t,e,rfl,i,rfl,pg,fun x H1 ⟨s1,dx,gs,fd,av,hx,xg,bc,pF,il⟩=>?_⟩;exact ⟨x,_,_,_,rfl,hx,pF,q av H1 s1 il⟩
inductive Rf
 | eM (y:Str)
 | way (r:Res)
def fh (N:Cn) (H:Hp) (E:XK):Rf->Prop
 | .eM y=>∀ d H',ao H H'->H' d=some (.xd [("reason",.str y)])->E (.ref N.CD) (some d) H'
 | .way r=>∀ fd d H',ao H H'->gF N H' fd r->H' d=some (.xd [("told",.ref fd)])->E (.ref N.CN) (some d) H'
theorem fh.of {N:Cn} {H H1:Hp} {E:XK} {r:Rf} (s:ao H H1) (h:fh N H E r):fh N H1 E r:=by
 cases r with
 | eM y=>exact fun d H' s' e=>h d H' (s.trans s') e
 | way k=>exact fun fd d H' s' e1 e2=>h fd d H' (s.trans s') e1 e2
theorem fh.raise {N:Cn} {H H1:Hp} {E:XK} {y:Str} {d:Addr} (h:fh N H E (.eM y)) (s:ao H H1) (hd:H1 d=none):E (.ref N.CD) (some d) (upd H1 d (.xd [("reason",.str y)])):=h d _ (s.trans (ao.upd hd)) ax
theorem wH:T.lx.k P w mg base 1 (ly T.eP "reason"):=by
 refine T.lx.F.ok V9 (fun vs H Q E h=>?_) (fun ah A outer s H vs Q E hr h=>?_)
 ·unfold ly at h;split at h
  ·rfl
  ·exact h.elim
 ·unfold ly at h;split at h
  ·rename_i ea y;obtain ⟨he,q⟩:=h;refine ⟨_,((aq (GF T.oY (ad 0) (ad 1)))).h,?_⟩;refine stI [some (.ref ea),some y] ?_;walk_at "rd";exact ⟨ea,rfl,he,q⟩
  ·exact h.elim
theorem YJ:T.tj.k P w mg base 1 (ly T.eR "told"):=by
 refine T.tj.F.ok VD (fun vs H Q E h=>?_) (fun ah A outer s H vs Q E hr h=>?_)
 ·unfold ly at h;split at h
  ·rfl
  ·exact h.elim
 ·unfold ly at h;split at h
  ·rename_i ea y;obtain ⟨he,q⟩:=h;refine ⟨_,((aq (GF T.CB (ad 0) (ad 1)))).h,?_⟩;refine stI [some (.ref ea),some y] ?_;walk_at "rd";exact ⟨ea,rfl,he,q⟩
  ·exact h.elim
def Pj (N:Cn):Sp:=fZ fun fd H Q E=>X1 fun r=>A3 (gF N H fd r) (∀ k ns,r=.found k ns->Q (.int (k:Int)) H) ((∀ k ns,r≠.found k ns)->fh N H E (.way r))
theorem Jb:aB P w K mg base (bJ P w) 3 T.jV.f T.jV.d ["told"] (Pj T.cn):=by
 refine T.jV.F.eN Zz (fun _ _ _ _ h=>cI h fun _ _=>rfl) fun ah A outer s H vs Q E hr h=>cI h fun fd h=>?_;obtain ⟨r,bc,q1,q2⟩:=h;refine bK (b:=aS zD) ((am (bB (dB (cN (cC (t9 (K:=K) rfl) T.gb gf (aa (ad 0) (aa (dL (.ref T.dv) T.vN rfl) ae))))) (aq (sO rb rfl rfl T.HZ T.CB T.Wz (YJ T) hr.m T.tj.b (aa (ad 0) ae))) cr)
 (aq (aN (ap T.gU T.tY (ad 0)))))) ?_
 refine stI [some (V.ref fd)] ?_;refine ai ?_;left;cases r with
 | found k ns =>
  obtain ⟨bh,hf⟩:=bc;exact ⟨_,_,_,.of (.ins hf T.gU T.q1 T.q2 T.q3 T.q4),.cls T.q5,bb ⟨fd,bh,_,_,rfl,hf,rfl,q1 k ns rfl⟩⟩
 | failed k y =>
  obtain ⟨bh,hf⟩:=id bc;exact ⟨_,_,_,.of (.ins hf T.iH T.q6 T.q2 T.q3 T.q7),.cls T.q8,bE ⟨_,rfl,fun d hd=>q2 (by nofun) fd d _ (ao.upd hd) (bc.same (ao.upd hd)) ax⟩⟩
 | ring ns =>
  obtain ⟨bh,rl,hf,hl⟩:=id bc;exact ⟨_,_,_,.of (.ins hf T.m3 T.rT T.q2 T.q3 T.sy),.cls T.AZ,bE ⟨_,rfl,fun d hd=>q2 (by nofun) fd d _ (ao.upd hd) (bc.same (ao.upd hd)) ax⟩⟩
def Rh (N:Cn):Sp:=o6 fun h z pt H Q E=>X6 fun A L M root t e=>A6 (pt=Tx.S t) (aJ N.CH N.CS N.CT H A L M) (A.a=h) (dI ⟨L,M,z,true,root⟩ t e) (∀ k ns,e.res=.found k ns->∀ H',ao H H'->Q (.int (k:Int)) H') ((∀ k ns,e.res≠.found k ns)->fh N H E (.way e.res))
theorem VA:aB P w K mg base (bJ P w) 15 T.pY.f T.pY.d ["house","asker","path"] (Rh T.cn):=by
 refine T.pY.F.eN W9 (fun _ _ _ _ h=>jf h fun _ _ _ _=>rfl) fun ah A outer s H vs Q E hr h=>jf h fun hh z pt h=>?_;obtain ⟨AA,L,M,root,t,e,rfl,i,rfl,pg,q1,q2⟩:=h;refine bK (b:=aS BN) ((aq (aN (eO (Jb T) hr.m T.jV.m T.jV.F.kp T.jV.b .nil dO (aa (bv (y6 T) hr.m T.BF T.pC.kp T.tO (.cons (show RelV (.bl true) _ from rfl) .nil) aw (aa (ad 0) (aa (ad 1) (aa (ad 2) ae)))) ae))))) ?_;refine stI [some (V.ref AA.a),some (V.str z),some (V.str (Tx.S t))] ?_;left;refine ⟨AA,L,M,root,t,e,rfl,i,rfl,pg,fun fd H1 s1 bc=>?_⟩;exact ⟨e.res,bc,fun k ns he=>q1 k ns he H1 s1,fun hn=>(q2 hn).of s1⟩
inductive jh (ps:List (List Nat)):Option (List (List Nat)×List Nat)->Prop
 | nil:ps=[]->jh ps none
 | tT {q nm}:ps=q++[nm]->isNm nm=false->nm.length<=8->jh ps none
 | FK {q nm}:ps=q++[nm]->isNm nm=true->jh ps (some (q,nm))
structure fK (t:List Nat):Prop where
 l1:1<=t.length
 l2:t.length<=2000
 all:(Tx.words 47 t).all cB=true
def N2 (N:Cn):Sp:=jX fun pt H Q E=>X2 fun t r=>A5 (pt=Tx.S t) (fK t) (jh (told (Tx.words 47 t) t) r) (∀ x,r=some x->∀ H',ao H H'->Q .au H') (r=none->fh N H E (.eM "dots"))
theorem vv {w:List Nat} (h:isNm w=true):47 ∉ w/\w≠[]/\1<=w.length/\w.length<=8:=by
 have hp:cB w=true:=by unfold cB; rw [h]; simp
 obtain ⟨h1,h2,_⟩:=Ly h;exact ⟨(o7 hp).1,(o7 hp).2.1,h1,h2⟩
theorem J3 {w:List Nat} {b:Bool} (h:isNm w=b):fb (.str (Tx.S w))=b:=by
 show isNm (Tx.S w).cps.toList=b;rw [Tx.k8]; exact h
theorem B3 {w:List Nat} (h:isNm w=true):fb (.str (Tx.S w))=true:=J3 h
theorem UG:aB P w K mg base (bJ P w) 4 T.pN.f T.pN.d ["path"] (N2 T.cn):=by
 refine T.pN.F.eN GY (fun _ _ _ _ h=>fj h fun _ _=>rfl) fun ah A outer s H vs Q E hr h=>fj h fun pt h=>?_;obtain ⟨t,r,rfl,sp,hs,q1,q2⟩:=h;refine bK (b:=aS Cs) ((am (aQ 1 GY.nd (ci (bG (K:=K) rfl) (bv (kF T) hr.m T.cu.m T.cu.F.kp T.cu.b .nil aw (aa (ad 0) ae)) bi))
 (aq (bB (hX (im (bY (WM hr.wy) (ad 1) (db ae)) (lJ (dB (cN (bv (AW T) hr.m T.ic.m T.ic.F.kp T.ic.b .nil aw (aa (ci (bG (K:=K) rfl) (ad 1) (ii iU bi)) ae))))))) (aq (sO rb rfl rfl T.qF T.oY T.vC (wH T) hr.m T.lx.b (aa bn ae))) cr)))) ?_
 refine stI [some (V.str (Tx.S t)),none] ?_;refine ai ?_;left;refine ⟨t,rfl,sp.l1,sp.l2,sp.all,fun H1 l p s1 _ hl hp=>?_⟩;simp only [bS,hp];rw [show cO [V.bl (dC t),V.ref l] 1=some (V.ref l) from rfl];refine ⟨fits (by simp),fun d hd=>?_⟩;refine eF (o:=.lst []) hd fun H2 s2 b2=>?_;have cw:=s2 _ _ hl;cases hs with
 | nil e =>
  rw [e] at cw;exact ⟨[],[],cw,b2,eB (decide_eq_true rfl) ⟨_,rfl,fun d' hd'=>(q2 rfl).raise (s1.trans s2) hd'⟩⟩
 | @tT qs nm e hn ur =>
  rw [e] at cw;have iX:H2 l=some (.lst (PV qs++[V.str (Tx.S nm)])):=by rw [cw]; simp [PV]
  refine ⟨qs.map Tx.S++[Tx.S nm],[],by rw [iX]; simp [PV],b2,?_⟩;rw [decide_eq_false (by simp)];refine bb ?_;simp only [iX,nj];refine ⟨⟨_,rfl⟩,by show (Tx.S nm).length<=1000; rw [Tx.cY]; omega,fun H3 s3=>?_⟩;rw [J3 hn];exact bE ⟨_,rfl,fun d' hd'=>(q2 rfl).raise ((s1.trans s2).trans s3) hd'⟩
 | @FK qs nm e hn =>
  rw [e] at cw;obtain ⟨h1,h2,h3,h4⟩:=vv hn;have iX:H2 l=some (.lst (PV qs++[V.str (Tx.S nm)])):=by rw [cw]; simp [PV]
  refine ⟨qs.map Tx.S++[Tx.S nm],[],by rw [iX]; simp [PV],b2,?_⟩;rw [decide_eq_false (by simp)];refine bb ?_;simp only [iX,nj];refine ⟨⟨_,rfl⟩,by show (Tx.S nm).length<=1000; rw [Tx.cY]; omega,fun H3 s3=>?_⟩;rw [B3 hn];exact bb (q1 _ rfl _ ((s1.trans s2).trans s3))
theorem Bu {H H':Hp} {x:Addr} (s:ao H H') (h:H' x=none):H x=none:=by
 cases e:H x with
 | none=>rfl
 | some o=>rw [s _ _ e] at h; cases h
abbrev vD (f:Nat) (nm:List Nat):List (Str×V):=ay "name" (.str (Tx.S nm)) (ay "folder" (.int (f:Int)) [])
inductive j4 (d:Wd) (t:List Nat):Sum Rf (Nat×List Nat)->Prop
 | tT:jh (told (Tx.words 47 t) t) none->j4 d t (.inl (.eM "dots"))
 | way {q nm e}:jh (told (Tx.words 47 t) t) (some (q,nm))->q.length<=900->la d (dC t) (q.map Tx.S++[("." : Str)]) e->(∀ k ns,e.res≠.found k ns)->j4 d t (.inl (.way e.res))
 | Iz {q nm e f ns}:jh (told (Tx.words 47 t) t) (some (q,nm))->q.length<=900->la d (dC t) (q.map Tx.S++[("." : Str)]) e->e.res=.found f ns->j4 d t (.inr (f,nm))
def Z7 (N:Cn):Sp:=o6 fun h z pt H Q E=>X6 fun A L M root t r=>A7 (pt=Tx.S t) (fK t) (aJ N.CH N.CS N.CT H A L M) (A.a=h) (j4 ⟨L,M,z,true,root⟩ t r) (∀ x,r=.inl x->fh N H E x) (∀ f nm,r=.inr (f,nm)->∀ x dx H',H x=none->ao H H'->H' x=some (.ins N.CE dx (vD f nm))->Q (.ref x) H')
theorem Pd:aB P w K mg base (bJ P w) 13 T.oK.f T.oK.d ["house","asker","path"] (Z7 T.cn):=by
 refine T.oK.F.eN B4 (fun _ _ _ _ h=>jf h fun _ _ _ _=>rfl) fun ah A outer s H vs Q E hr h=>jf h fun hh z pt h=>?_;obtain ⟨AA,L,M,root,t,r,rfl,sp,i,rfl,g,q1,q2⟩:=h;refine bK (b:=aS Au) ((am (aY (eO (UG T) hr.m T.pN.m T.pN.F.kp T.pN.b .nil dO (aa (ad 2) ae)))
 (am (aQ 3 B4.nd (bv (kF T) hr.m T.cu.m T.cu.F.kp T.cu.b .nil aw (aa (ad 2) ae)))
 (am (aQ 4 B4.nd (bv (IH T) hr.m T.j5.m T.j5.F.kp T.j5.b .nil aw (aa (ad 0) (aa (ad 1) (aa (ci (bG (K:=K) rfl) (ad 3) bi) (aa (dl gD (jp (m8 (K:=K) rfl) (ci (bG (K:=K) rfl) (ad 3) bi) pE (lT (ii iU bi))) (db (aa bn ae))) (aa ge ae)))))))
 (aq (aN (io T.Sl (W8 T) hr.m T.Xb T.rk.b .nil aw (aa (eO (Jb T) hr.m T.jV.m T.jV.F.kp T.jV.b .nil dO (aa (ap T.aG T.lP (ad 4)) ae)) (aa (ci (bG (K:=K) rfl) (ci (bG (K:=K) rfl) (ad 3) bi) (ii iU bi)) ae))))))))) ?_
 refine stI [some (V.ref AA.a),some (V.str z),some (V.str (Tx.S t)),none,none] ?_;refine ai ?_;left;have hs:(r=.inl (.eM "dots")/\jh (told (Tx.words 47 t) t) none)\/∃ qs nm e,jh (told (Tx.words 47 t) t) (some (qs,nm))/\qs.length<=900/\la ⟨L,M,z,true,root⟩ (dC t) (qs.map Tx.S++[("." : Str)]) e/\((∀ k ns,e.res≠.found k ns)->r=.inl (.way e.res))/\∀ f ns,e.res=.found f ns->r=.inr (f,nm):=by
  cases g with
  | tT h=>exact .inl ⟨rfl,h⟩
  | way h1 h2 h3 h4=>exact .inr ⟨_,_,_,h1,h2,h3,fun _=>rfl,fun f ns e=>absurd e (h4 f ns)⟩
  | Iz h1 h2 h3 h4=>exact .inr ⟨_,_,_,h1,h2,h3,fun k=>absurd h4 (k _ _),fun f ns e=>by rw [h4] at e; cases e; rfl⟩
 rcases hs with ⟨rfl,hs⟩ | ⟨qs,nm,e,hs,hq,g,r1,r2⟩
 ·exact ⟨t,none,rfl,sp,hs,(fun x e=>by cases e),fun _=>q1 _ rfl⟩
 refine ⟨t,_,rfl,sp,hs,fun x _ H1 s1=>ai ?_,fun e=>by cases e⟩;have he:told (Tx.words 47 t) t=qs++[nm]:=by cases hs; assumption
 left;refine ⟨t,rfl,sp.l1,sp.l2,sp.all,fun H2 l p s2 _ hl hp=>ai ?_⟩;rw [he,show PV (qs++[nm])=PV qs++[V.str (Tx.S nm)] from by simp [PV]] at hl;left;simp only [bS,hp];rw [show cO [V.bl (dC t),V.ref l] 1=some (V.ref l) from rfl,show cO [V.bl (dC t),V.ref l] 0=some (V.bl (dC t)) from rfl]
 try dsimp only
 refine ⟨_,aC.of hl,fun p1 xx=>?_⟩;rw [S0];refine ⟨fits (by simp),fun p2 dP=>?_⟩;have s3:=(ao.upd (o:=.lst (PV qs)) xx).trans (ao.upd (o:=.lst [V.str (Str.ofString ".")]) dP);have n12:p1≠p2:=aH (ax (o:=.lst (PV qs))) dP;have b3:upd (upd H2 p1 (.lst (PV qs))) p2 (.lst [V.str (Str.ofString ".")]) p1=some (.lst (PV qs)):=by rw [ag n12,ax]
 have b4:upd (upd H2 p1 (.lst (PV qs))) p2 (.lst [V.str (Str.ofString ".")]) p2=some (.lst [V.str (Str.ofString ".")]):=ax;generalize upd (upd H2 p1 (.lst (PV qs))) p2 (.lst [V.str (Str.ofString ".")])=H3 at s3 b3 b4 ⊢;simp only [b3,b4];refine ⟨fits (by simp; omega),fun p3 eD=>?_⟩;have s4:=s3.trans (ao.upd (o:=.lst (PV qs++[V.str (Str.ofString ".")])) eD);have b5:upd H3 p3 (.lst (PV qs++[V.str (Str.ofString ".")])) p3=some (.lst (PV qs++[V.str (Str.ofString ".")])):=ax;generalize upd H3 p3 (.lst (PV qs++[V.str (Str.ofString ".")]))=H4 at s4 b5 ⊢;refine ⟨AA,L,M,root,qs.map Tx.S++[("." : Str)],e,i.same ((s1.trans s2).trans s4),rfl,by rw [b5]; simp [PV],g,?_⟩;rintro x H5 ⟨s5,dx,gs,fd,av,hx,xg,bc,pF,il⟩;have EA:=((s1.trans s2).trans s4).trans s5;refine ⟨x,_,_,_,rfl,hx,xg,_,bc,fun k ns hk=>?_,fun hk=>(q1 _ (r1 hk)).of EA⟩
 ·have nU:=(s4.trans s5) _ _ hp;have fV:=(s4.trans s5) _ _ hl;simp only [nU];rw [show cO [V.bl (dC t),V.ref l] 1=some (V.ref l) from rfl];simp only [fV,nj]
  try dsimp only
  intro y dy hy hdy ndy;refine ⟨dy,ax,rfl,?_⟩;rw [lb];exact q2 _ _ (r2 _ _ hk) y dy _ (Bu EA hy) (EA.trans ((ao.upd (o:=.own y) hdy).trans (ao.upd (p:=y) (by rw [ag (Ne.symm ndy)]; exact hy)))) ax
def Pn (N:Cn):Sp:=HE fun h z n r y H Q E=>X5 fun A L M t (k:Nat)=>A8 (n=(k:Int)) (aJ N.CH N.CS N.CT H A L M) (A.a=h) ((aP (sD M.ro) (.inr z)).isSome=true) (gW (.str r)=true) (M.ts[k]?=some t) (dU r (cJ t z)=true->Q .au H) (dU r (cJ t z)=false->fh N H E (.eM y))
theorem TL:aB P w K mg base (bJ P w) 4 T.pz.f T.pz.d ["house","asker","number","right","reason"] (Pn T.cn):=by
 refine T.pz.F.eN Y1 (fun _ _ _ _ h=>G7 h fun _ _ _ _ _ _=>rfl) fun ah A outer s H vs Q E hr h=>G7 h fun hh z n r rs h=>?_;obtain ⟨AA,L,M,t,k,rfl,i,rfl,hz,gQ,ht,q1,q2⟩:=h;obtain ⟨mf,gc,gh,mq,eQ⟩:=i.h;refine bK (b:=aS Bi) ((aq (bB (dB (cN (cX T.aK T.iJ.h (uA T) hr.m T.iJ.b .nil dO (ad 0) (aa (ad 1) (aa (ad 2) (aa (ad 3) ae)))))) (aq (sO rb rfl rfl T.qF T.oY T.vC (wH T) hr.m T.lx.b (aa (ad 4) ae))) cr))) ?_;refine stI [some (V.ref AA.a),some (V.str z),some (V.int (k:Int)),some (V.str r),some (V.str rs)] ?_;left;refine (mI gh eQ (uM i hz gQ ht ?_));cases hm:dU r (cJ t z) with
 | true=>exact bb (q1 hm)
 | false=>exact bE ⟨_,rfl,fun d hd=>(q2 hm).raise (fun _ _ e=>e) hd⟩
def YU (N:Cn):Sp:=qZ fun h z n H Q E=>X5 fun A L M t (k:Nat)=>A7 (n=(k:Int)) (aJ N.CH N.CS N.CT H A L M) (A.a=h) ((aP (sD M.ro) (.inr z)).isSome=true) (M.ts[k]?=some t) (dU ("w" : Str) (cJ t z)=true->Q .au H) (dU ("w" : Str) (cJ t z)=false->fh N H E (.eM "kept"))
theorem O5:aB P w K mg base (bJ P w) 5 T.oE.f T.oE.d ["house","asker","folder"] (YU T.cn):=by
 refine T.oE.F.eN Yn (fun _ _ _ _ h=>jb h fun _ _ _ _=>rfl) fun ah A outer s H vs Q E hr h=>jb h fun hh z n h=>?_;obtain ⟨AA,L,M,t,k,rfl,i,rfl,hz,ht,q1,q2⟩:=h;refine bK (b:=aS Bf) ((aq (aY (eO (TL T) hr.m T.pz.m T.pz.F.kp T.pz.b .nil dO (aa (ad 0) (aa (ad 1) (aa (ad 2) (aa bn (aa bn ae))))))))) ?_;refine stI [some (V.ref AA.a),some (V.str z),some (V.int (k:Int))] ?_;left;exact ⟨AA,L,M,t,k,rfl,i,rfl,hz,by decide +kernel,ht,q1,q2⟩
def Pf (N:Cn):Sp:=tF fun h x H Q _=>X8 fun A L M a t dx nm (k:Nat)=>A7 (aJ N.CH N.CS N.CT H A L M) (A.a=h) (H x=some (.ins N.CE dx (vD k nm))) (isNm nm=true) (L[k]?=some a) (M.ts[k]?=some t) (∀ H',ao H H'->Q ((aP (sD t.aM) (.inr (Tx.S nm))).getD .au) H')
theorem UL:T.oT.k P w base 5 (Pf T.cn):=by
 refine T.oT.F.ok WY (fun _ _ _ _ h=>lF h fun _ _ _=>rfl) fun ah A outer s H vs Q E hr h=>lF h fun hh x h=>?_;obtain ⟨AA,L,M,a,t,dx,nm,k,i,rfl,hx,hn,ha,ht,q⟩:=h;obtain ⟨mf,gc,gh,mq,eQ⟩:=i.h;obtain ⟨h1,h2,h3,h4⟩:=vv hn;refine bK (b:=aS B7) ((aq (aN (bf T.aK T.nq.h (Io T) hr.m T.nq.b .nil aw (ad 0) (aa (ap T.ny T.wI (ad 1)) (aa (ap T.ny T.xV (ad 1)) ae)))))) ?_;refine stI [some (V.ref AA.a),some (V.ref x)] ?_;left;exact (mI gh eQ ⟨x,_,_,_,rfl,hx,rfl,x,_,_,_,rfl,hx,rfl,AA,L,M,k,a,t,i,rfl,rfl,ha,ht,B3 hn,by rw [Tx.cY]; omega,q⟩)
def ZP (N:Cn):Sp:=tF fun h x H Q E=>X8 fun A L M a t dx nm (k:Nat)=>A8 (aJ N.CH N.CS N.CT H A L M) (A.a=h) (H x=some (.ins N.CE dx (vD k nm))) (isNm nm=true) (L[k]?=some a) (M.ts[k]?=some t) (aP (sD t.aM) (.inr (Tx.S nm))=none->∀ H',ao H H'->Q .au H') (∀ c:Int,aP (sD t.aM) (.inr (Tx.S nm))=some (.int c)->fh N H E (.eM "there"))
theorem Hi {l:List (Str×Nat)} {z:Key} {v:V} (h:aP (sD l) z=some v):∃ c:Nat,v=.int (c:Int):=by
 unfold aP at h;obtain ⟨kv,h1,rfl⟩:=Option.map_eq_some_iff.mp h;obtain ⟨e,_,rfl⟩:=List.mem_map.mp (List.mem_of_find?_eq_some h1);exact ⟨_,rfl⟩
theorem Tb:aB P w K mg base (bJ P w) 6 T.pj.f T.pj.d ["house","seat"] (ZP T.cn):=by
 refine T.pj.F.eN PF (fun _ _ _ _ h=>lF h fun _ _ _=>rfl) fun ah A outer s H vs Q E hr h=>lF h fun hh x h=>?_;obtain ⟨AA,L,M,a,t,dx,nm,k,i,rfl,hx,hn,ha,ht,q1,q2⟩:=h;refine bK (b:=aS Ak) ((aq (bB (bY Ft (bv (UL T) hr.m T.oT.m T.oT.F.kp T.oT.b .nil aw (aa (ad 0) (aa (ad 1) ae))) au) (aq (sO rb rfl rfl T.qF T.oY T.vC (wH T) hr.m T.lx.b (aa bn ae))) cr))) ?_;refine stI [some (V.ref AA.a),some (V.ref x)] ?_;left;refine ⟨AA,L,M,a,t,dx,nm,k,i,rfl,hx,hn,ha,ht,fun H1 s1=>?_⟩;cases hv:aP (sD t.aM) (.inr (Tx.S nm)) with
 | none=>exact ⟨by trivial,bb (q1 hv H1 s1)⟩
 | some v =>
  obtain ⟨c,rfl⟩:=Hi hv;exact ⟨by trivial,bE ⟨_,rfl,fun d hd=>(q2 _ hv).raise s1 hd⟩⟩
inductive nh (d:Wd) (t:List Nat):Sum Rf (Nat×List Nat)->Prop
 | no {x}:j4 d t (.inl x)->nh d t (.inl x)
 | kept {f nm tf}:j4 d t (.inr (f,nm))->d.M.ts[f]?=some tf->dU ("w" : Str) (cJ tf d.z)=false->nh d t (.inl (.eM "kept"))
 | there {f nm a tf c}:j4 d t (.inr (f,nm))->isNm nm=true->d.L[f]?=some a->d.M.ts[f]?=some tf->dU ("w" : Str) (cJ tf d.z)=true->aP (sD tf.aM) (.inr (Tx.S nm))=some (.int (c:Int))->nh d t (.inl (.eM "there"))
 | free {f nm a tf}:j4 d t (.inr (f,nm))->isNm nm=true->d.L[f]?=some a->d.M.ts[f]?=some tf->dU ("w" : Str) (cJ tf d.z)=true->aP (sD tf.aM) (.inr (Tx.S nm))=none->nh d t (.inr (f,nm))
def V1 (N:Cn):Sp:=o6 fun h z pt H Q E=>X6 fun A L M root t r=>A8 (pt=Tx.S t) (fK t) (aJ N.CH N.CS N.CT H A L M) (A.a=h) ((aP (sD M.ro) (.inr z)).isSome=true) (nh ⟨L,M,z,true,root⟩ t r) (∀ x,r=.inl x->fh N H E x) (∀ f nm,r=.inr (f,nm)->∀ x dx H',H x=none->ao H H'->H' x=some (.ins N.CE dx (vD f nm))->Q (.ref x) H')
theorem yJ:aB P w K mg base (bJ P w) 14 T.gY.f T.gY.d ["house","asker","path"] (V1 T.cn):=by
 refine T.gY.F.eN Iq (fun _ _ _ _ h=>jf h fun _ _ _ _=>rfl) fun ah A outer s H vs Q E hr h=>jf h fun hh z pt h=>?_;obtain ⟨AA,L,M,root,t,r,rfl,sp,i,rfl,uw,g,q1,q2⟩:=h;refine bK (b:=aS y3) ((am (aQ 3 Iq.nd (eO (Pd T) hr.m T.oK.m T.oK.F.kp T.oK.b .nil dO (aa (ad 0) (aa (ad 1) (aa (ad 2) ae)))))
 (am (aY (eO (O5 T) hr.m T.oE.m T.oE.F.kp T.oE.b .nil dO (aa (ad 0) (aa (ad 1) (aa (ap T.ny T.wI (ad 3)) ae)))))
 (am (aY (eO (Tb T) hr.m T.pj.m T.pj.F.kp T.pj.b .nil dO (aa (ad 0) (aa (ad 3) ae))))
 (aq (aN (ad 3))))))) ?_
 refine stI [some (V.ref AA.a),some (V.str z),some (V.str (Tx.S t)),none] ?_;refine ai ?_;left;cases g with
 | no g=>exact ⟨AA,L,M,root,t,_,rfl,sp,i,rfl,g,fun x e=>(by cases e; exact q1 _ rfl),fun f nm e=>by cases e⟩
 | kept g n6 hw =>
  refine ⟨AA,L,M,root,t,_,rfl,sp,i,rfl,g,fun x e=>(by cases e),fun f nm e=>?_⟩;cases e;intro x dx H1 fx s1 hx;refine ai ?_;left;exact ⟨x,_,_,_,rfl,hx,rfl,AA,L,M,_,_,rfl,i.same s1,rfl,uw,n6,fun e=>(by rw [hw] at e; cases e),fun _=>(q1 _ rfl).of s1⟩
 | there g hn DQ n6 hw hv =>
  refine ⟨AA,L,M,root,t,_,rfl,sp,i,rfl,g,fun x e=>(by cases e),fun f nm e=>?_⟩;cases e;intro x dx H1 fx s1 hx;refine ai ?_;left;refine ⟨x,_,_,_,rfl,hx,rfl,AA,L,M,_,_,rfl,i.same s1,rfl,uw,n6,fun _=>ai ?_,fun e=>by rw [hw] at e; cases e⟩;left;exact ⟨AA,L,M,_,_,dx,_,_,i.same s1,rfl,hx,hn,DQ,n6,fun e=>(by rw [hv] at e; cases e),fun _ _=>(q1 _ rfl).of s1⟩
 | free g hn DQ n6 hw hv =>
  refine ⟨AA,L,M,root,t,_,rfl,sp,i,rfl,g,fun x e=>(by cases e),fun f nm e=>?_⟩;cases e;intro x dx H1 fx s1 hx;refine ai ?_;left;refine ⟨x,_,_,_,rfl,hx,rfl,AA,L,M,_,_,rfl,i.same s1,rfl,uw,n6,fun _=>ai ?_,fun e=>by rw [hw] at e; cases e⟩;left;exact ⟨AA,L,M,_,_,dx,_,_,i.same s1,rfl,hx,hn,DQ,n6,fun _ H2 s2=>q2 _ _ rfl x dx H2 fx (s1.trans s2) (s2 _ _ hx),fun _ e=>by rw [hv] at e; cases e⟩
def WR:Sp:=jX fun z H Q _=>z.length<=60/\Q (.bl true) H
def Tt:Sp:=jX fun z H Q _=>z.length<=60/\Q .au H
theorem Yv:T.pH.k P w base 1 WR:=by
 refine T.pH.F.ok WG (fun _ _ _ _ h=>fj h fun _ _=>rfl) fun ah A outer s H vs Q E hr h=>fj h fun z h=>?_;obtain ⟨hz,q⟩:=h;refine ⟨_,((aq (aN (kq (cC j0 T.gb gf (aa (ad 0) (aa (jF (.ty "str") T.oO pe rfl) ae))) (gl (em oC (cC (lA (K:=K) rfl) T.lG PySem.boot_len (aa (ad 0) ae)) (dL (.int 60) T.VT ⟨_,rfl⟩))))))).h,?_⟩;refine stI [some (V.str z)] ?_;left;refine ⟨by decide,bE ⟨fits (by omega),?_⟩⟩;rw [decide_eq_true (show (z.length:Int)<=60 by omega)];exact q
theorem Zb:T.pX.k P w base 2 Tt:=by
 refine T.pX.F.ok Pq (fun _ _ _ _ h=>fj h fun _ _=>rfl) fun ah A outer s H vs Q E hr h=>fj h fun z h=>?_;obtain ⟨hz,q⟩:=h;refine ⟨_,((aq (bB (dB (cN (bv (Yv T) hr.m T.pH.m T.pH.F.kp T.pH.b .nil aw (aa (ad 0) ae)))) (aq iA) cr))).h,?_⟩;refine stI [some (V.str z)] ?_;left;exact ⟨hz,bb q⟩
theorem T6:T.sd.k P w mg base 4 (WK T.aO T.aV):=by
 refine T.sd.F.ok Of (fun _ _ _ _ h=>JC h fun _ _ _ _ _ _=>rfl) fun ah A outer s H vs Q E hr h=>JC h fun x ow tx mi re h=>?_;obtain ⟨dt,ml,rs,at',dq,q⟩:=h;obtain ⟨fs,c,hx,aW,sf⟩:=at'.o;refine ⟨_,((aq (aN (bf T.bV T.kf.h (CO T) hr.m T.kf.b .nil aw (ad 0) (aa (dL (.str "file") T.Af ⟨_,rfl⟩) (aa (ad 1) (aa (ad 3) (aa (ad 4) (aa (ad 2) ae))))))))).h,?_⟩;refine stI [some (.ref x),some ow,some tx,some mi,some re] ?_;left;exact ⟨x,dt,fs,rfl,hx,(sf _).trans rfl,dt,ml,rs,at',dq,q⟩
theorem vz:T.iC.k P w mg base 3 (gZ T.aI T.aO T.aV Ad.a Vn):=by
 refine T.iC.F.ok Zn (fun _ _ _ _ h=>bW h fun _ _ _=>rfl) fun ah A outer s H vs Q E hr h=>bW h fun x n h=>?_;obtain ⟨AA,L,M,k,a,t,i,rfl,rfl,ha,aF,q⟩:=h;obtain ⟨fs,c,hx,aW,sf⟩:=i.h;obtain ⟨gs,c2,ht,cR,sg⟩:=i.t;have cb:=dW i ha aF;obtain ⟨ks,ho,fW,so⟩:=cb.o;refine ⟨_,((aq (aN (ap T.cL T.yZ (cX T.bV T.cD.h (gH T) hr.m T.cD.b .nil dE (ap T.aK T.eJ (ad 0)) (aa (ad 1) ae)))))).h,?_⟩;refine stI [some (V.ref AA.a),some (V.int (k:Int))] ?_;left;exact ⟨AA.a,_,_,.ref AA.t,rfl,hx,(sf _).trans rfl,AA.t,_,_,rfl,ht,(sg _).trans rfl,ib i ha aF (fI ho so rfl q)⟩
def W7 (CH CS CT:Addr):Sp:=Gs fun x n m r H Q _=>X6 fun A L M (k:Nat) a t=>A6 (aJ CH CS CT H A L M) (A.t=x) (n=(k:Int)) (L[k]?=some a) (M.ts[k]?=some t) (∀ H',aJ CH CS CT H' A L { M with ts:=M.ts.set k { t with mi:=m,re:=r } }->Kp [A.t,a.th] H H'->Q .au H')
theorem YW:T.rY.k P w mg base 3 (W7 T.aI T.aO T.aV):=by
 refine T.rY.F.ok Hy (fun _ _ _ _ h=>G3 h fun _ _ _ _ _=>rfl) fun ah A outer s H vs Q E hr h=>G3 h fun x n m r h=>?_;obtain ⟨AA,L,M,k,a,t,i,rfl,rfl,ha,aF,q⟩:=h;obtain ⟨fs,c,hx,aW,sf⟩:=i.h;obtain ⟨gs,c2,ht,cR,sg⟩:=i.t;have cb:=dW i ha aF;obtain ⟨ks,ho,fW,so⟩:=cb.o;have off:=i.tX ha;have n1:AA.t≠a.th:=off _ (by simp [Ad.w]) _ (by simp [Ta.l]);have n2:AA.a≠a.th:=off _ (by simp [Ad.w]) _ (by simp [Ta.l]);have n3:=i.own ha;refine ⟨_,((am (aQ 4 Hy.nd (cX T.bV T.cD.h (gH T) hr.m T.cD.b .nil dE (ad 0) (aa (ad 1) ae)))
 (am (jT T.bV T.wx jO (ad 0) bi)
 (am (bu T.cL T.wG (ad 4) (ad 2))
 (aq (bu T.cL T.wz (ad 4) (ad 3))))))).h,?_⟩
 refine stI [some (V.ref AA.t),some (V.int (k:Int)),some (V.str m),some (V.str r),none] ?_;refine ai ?_;left;refine (mI ht sg (ib i ha aF ?_));refine ai ?_;left;refine ⟨AA.t,_,_,.int c2,rfl,ht,(sg _).trans rfl,_,_,rfl,rfl,_,_,ht,by omega,ai ?_⟩;left;refine ⟨a.th,_,_,rfl,by rw [ag (Ne.symm n1)]; exact ho,by omega,?_⟩;left;refine ⟨a.th,_,_,rfl,ax,by rw [f9 (u:=.str t.mi) ((so _).trans rfl)]; omega,?_⟩;refine q _ (i.write (t':={ t with mi:=m,re:=r }) ha ⟨fs,c,by rw [ag n2,ag n2,ag i.aT]; exact hx,aW,sf⟩ ⟨_,c2+1,by rw [ag n1,ag n1,ax],by rw [f9 (u:=.int c2) ((sg _).trans rfl)]; exact cR,fun f=>by rw [(sg.put "changes" (.int (c2+1))) f]; rfl⟩ ⟨⟨_,ax,?_,fun f=>((so.put "mine" (.str m)).put "rest" (.str r) f).trans rfl⟩,?_,?_⟩ (fun b o hb e=>?_)) (fun b o hb e=>?_)
 ·rw [f9 (u:=.str t.re) (by rw [dS,if_neg (by decide)]; exact (so _).trans rfl),f9 (u:=.str t.mi) ((so _).trans rfl)]; exact fW
 ·rw [ag (Ne.symm n3.1),ag (Ne.symm n3.1),ag (Ne.symm (off _ (by simp [Ad.w]) _ (by simp [Ta.l])))]; exact cb.nm
 ·rw [ag (Ne.symm n3.2.1),ag (Ne.symm n3.2.1),ag (Ne.symm (off _ (by simp [Ad.w]) _ (by simp [Ta.l])))]; exact cb.pl
 ·simp only [List.mem_cons,List.not_mem_nil,or_false,not_or] at hb;rw [ag hb.2.2.1,ag hb.2.2.1,ag hb.2.1]; exact e
 ·simp only [List.mem_cons,List.not_mem_nil,or_false,not_or] at hb;rw [ag hb.2,ag hb.2,ag hb.1]; exact e
section
variable {CH CS CT:Addr} {H H':Hp} {A:Ad} {L:List Ta} {M:Hs}
theorem aJ.some (i:aJ CH CS CT H A L M):∀ b∈A.w++L.flatMap Ta.l,∃ o,H b=.some o:=fun b hb=>by
 rcases List.mem_append.mp hb with h | h
 ·simp only [Ad.w,List.mem_cons,List.not_mem_nil,or_false] at h;rcases h with rfl | rfl | rfl | rfl | rfl | rfl | rfl | rfl
  ·obtain ⟨_,_,e,_⟩:=i.h; exact ⟨_,e⟩
  ·obtain ⟨_,_,e,_⟩:=i.t; exact ⟨_,e⟩
  ·exact ⟨_,i.ml⟩
  ·exact ⟨_,i.ro⟩
  ·exact ⟨_,i.st⟩
  ·exact ⟨_,i.tr⟩
  ·exact ⟨_,i.ov⟩
  ·exact ⟨_,i.un⟩
 ·obtain ⟨a,ha,hb⟩:=List.mem_flatMap.mp h;obtain ⟨k,hk⟩:=List.getElem?_of_mem ha;have bL:k < M.ts.length:=by rw [<- i.len]; exact (List.getElem?_eq_some_iff.mp hk).1
  obtain ⟨a',e1,t⟩:=i.th k _ (List.getElem?_eq_getElem bL);rw [hk] at e1;cases e1;simp only [Ta.l,List.mem_cons,List.not_mem_nil,or_false] at hb;rcases hb with rfl | rfl | rfl
  ·obtain ⟨_,e,_⟩:=t.o; exact ⟨_,e⟩
  ·exact ⟨_,t.nm⟩
  ·exact ⟨_,t.pl⟩
theorem aJ.add {th c8 nm pl:Addr} {ks:List (Str×V)} {kd ow mi re tx:Str} (i:aJ CH CS CT H A L M) (f1:H th=none) (f2:H nm=none) (f3:H pl=none) (at':jI CS H' A.t A.dt A.ml ((L.map fun a=>V.ref a.th)++[.ref th])) (aF:H' th=Option.some (.ins CT c8 ks)) (kl:ks.length<=40)
  (sk:cW ks (r6 (.int (L.length:Nat)) (.str kd) (.str ow) (.str mi) (.str re) (.str tx) (.ref nm) (.ref pl))) (cf:H' nm=Option.some (.dK [])) (bt:H' pl=Option.some (.dT [])) (kp:Kp [A.t,A.ml] H H') :
  aJ CH CS CT H' A (L++[⟨th,c8,nm,pl⟩]) { M with ts:=M.ts++[⟨kd,ow,mi,re,tx,[],[]⟩] }:=by
 have nd:=i.nd;have sm:=i.some;have nw:∀ b∈A.w++L.flatMap Ta.l,b≠th/\b≠nm/\b≠pl:=fun b hb=>by
  obtain ⟨o,e⟩:=sm b hb;exact ⟨aH e f1,aH e f2,aH e f3⟩
 have h12:th≠nm:=bR aF cf (by nofun);have h13:th≠pl:=bR aF bt (by nofun);have h23:nm≠pl:=bR cf bt (by nofun);have n0:=nd;rw [List.nodup_append] at n0;obtain ⟨n1,n2,n3⟩:=n0;simp only [Ad.w,List.nodup_cons,List.mem_cons,List.not_mem_nil,or_false,not_or] at n1;have kA:∀ b∈[A.a,A.ro,A.st,A.tr,A.ov,A.un],b ∉ [A.t,A.ml]:=by
  intro b hb hm;simp only [List.mem_cons,List.not_mem_nil,or_false] at hb hm;rcases hb with rfl | rfl | rfl | rfl | rfl | rfl <;> rcases hm with h | h
  ·exact n1.1.1 h
  ·exact n1.1.2.1 h
  ·exact n1.2.1.2.1 h.symm
  ·exact n1.2.2.1.1 h.symm
  ·exact n1.2.1.2.2.1 h.symm
  ·exact n1.2.2.1.2.1 h.symm
  ·exact n1.2.1.2.2.2.1 h.symm
  ·exact n1.2.2.1.2.2.1 h.symm
  ·exact n1.2.1.2.2.2.2.1 h.symm
  ·exact n1.2.2.1.2.2.2.1 h.symm
  ·exact n1.2.1.2.2.2.2.2 h.symm
  ·exact n1.2.2.1.2.2.2.2 h.symm
 refine ⟨?_,at'.o,?_,by simp [i.len],fun j t e=>?_,kp _ _ (kA _ (by simp)) i.ro,kp _ _ (kA _ (by simp)) i.st,kp _ _ (kA _ (by simp)) i.tr,kp _ _ (kA _ (by simp)) i.ov,kp _ _ (kA _ (by simp)) i.un,?_⟩
 ·obtain ⟨fs,c,e,r⟩:=i.h;exact ⟨fs,c,kp _ _ (kA _ (by simp)) e,r⟩
 ·rw [at'.ml]; simp
 ·have e':(M.ts++[(⟨kd,ow,mi,re,tx,[],[]⟩:Th)])[j]?=.some t:=e;by_cases hj:j < M.ts.length
  ·rw [List.getElem?_append_left hj] at e';obtain ⟨a,e1,h1⟩:=i.th j t e';refine ⟨a,by rw [List.getElem?_append_left (by rw [i.len]; exact hj)]; exact e1,h1.keep kp fun b hb hm=>?_⟩;have fX:=jK e1 hb;simp only [List.mem_cons,List.not_mem_nil,or_false] at hm;rcases hm with rfl | rfl
   ·exact n3 _ (by simp [Ad.w]) _ fX rfl
   ·exact n3 _ (by simp [Ad.w]) _ fX rfl
  ·rw [List.getElem?_append_right (by omega)] at e';have hj0:j - M.ts.length=0:=by
    rcases Nat.eq_zero_or_pos (j - M.ts.length) with h | h
    ·exact h
    ·rw [List.getElem?_eq_none (by simp; omega)] at e'; cases e'
   rw [hj0] at e';cases e';have DB:j=L.length:=by rw [i.len]; omega
   subst DB;exact ⟨_,by rw [List.getElem?_append_right (Nat.le_refl _),Nat.sub_self]; rfl,⟨⟨ks,aF,kl,sk⟩,cf,bt⟩⟩
 ·rw [List.flatMap_append,<- List.append_assoc,List.nodup_append];refine ⟨nd,?_,fun b hb c hc e=>?_⟩
  ·simp only [List.flatMap_cons,List.flatMap_nil,List.append_nil,Ta.l,List.nodup_cons,List.mem_cons,List.not_mem_nil,or_false,not_or,not_false_eq_true,List.nodup_nil,and_true];exact ⟨⟨h12,h13⟩,h23⟩
  ·obtain ⟨q1,q2,q3⟩:=nw b hb;simp only [List.flatMap_cons,List.flatMap_nil,List.append_nil,Ta.l,List.mem_cons,List.not_mem_nil,or_false] at hc;rcases hc with h | h | h
   ·exact q1 (e.trans h)
   ·exact q2 (e.trans h)
   ·exact q3 (e.trans h)
end
def KD (CH CS CT CE:Addr):Sp:=HP fun h x n H Q _=>Iv fun A L M (f:Nat) (k:Nat) af tf ak tk dx nm=>yy (aJ CH CS CT H A L M) (A.a=h) (H x=some (.ins CE dx (ay "name" (.str nm) (ay "folder" (.int (f:Int)) [])))) (n=(k:Int)) (L[f]?=some af) (M.ts[f]?=some tf) (L[k]?=some ak) (M.ts[k]?=some tk) (f≠k) (aP (sD tf.aM) (.inr nm)=none) (tf.aM.length<=500) (tk.bP=[]) (∀ H',aJ CH CS CT H' A L { M with ts:=(M.ts.set f { tf with aM:=tf.aM++[(nm,k)] }).set k { tk with bP:=[(f,nm)] } }->Kp [A.t,af.nm,ak.pl] H H'->Q (.int (k:Int)) H')
theorem Ct:T.g9.k P w base 6 (KD T.aI T.aO T.aV T.kY):=by
 refine T.g9.F.ok Zy (fun _ _ _ _ h=>HR h fun _ _ _ _=>rfl) fun ah A outer s H vs Q E hr h=>HR h fun hh x n h=>?_;obtain ⟨AA,L,M,f,k,af,tf,ak,tk,dx,nm,i,rfl,hx,rfl,gv,bX,iw,fQ,dF,hv,hl,bt,q⟩:=h;obtain ⟨mf,gc,gh,mq,eQ⟩:=i.h;obtain ⟨gs,c2,ht,cR,sg⟩:=i.t;refine bK (b:=aS zF) ((am (aY (bf T.bV T.sV.h (RI T) hr.m T.sV.b .nil aw (ap T.aK T.eJ (ad 0)) (aa (ap T.ny T.wI (ad 1)) (aa (ap T.ny T.xV (ad 1)) (aa (ad 2) ae)))))
 (aq (aN (ad 2))))) ?_
 refine stI [some (V.ref AA.a),some (V.ref x),some (V.int (k:Int))] ?_;refine ai ?_;left;exact (fI gh eQ rfl (mI ht sg ⟨x,_,_,_,rfl,hx,rfl,x,_,_,_,rfl,hx,rfl,AA,L,M,f,k,af,tf,ak,tk,i,rfl,rfl,rfl,gv,bX,iw,fQ,dF,hv,hl,bt,q⟩))
def sX (CH CS CT:Addr) (A:Ad) (L:List Ta) (M:Hs) (f:Nat) (t0:Th) (a0:Ta) (nm kd ow mi re tx:Str) (H:Hp) (Q:VK):Prop :=
 ∀ a H',aJ CH CS CT H' A (L++[a]) { M with ts:=M.ts.set f { t0 with aM:=t0.aM++[(nm,M.ts.length)] }++[⟨kd,ow,mi,re,tx,[],[(f,nm)]⟩] }->Kp [A.t,A.ml,a0.nm] H H'->Q (.int (M.ts.length:Nat)) H'
theorem Jc {α:Type} {y b:α}:∀ r:List α,(r++[y]).set r.length b=r++[b]
 | []=>rfl
 | c::r=>by simp only [List.cons_append,List.length_cons,List.set_cons_succ]; rw [Jc r]
theorem YN {α:Type}:∀ {xs:List α} {f:Nat} {y a b:α},f < xs.length->((xs++[y]).set f a).set xs.length b=xs.set f a++[b]:=fun {xs f y a b} h=>by
 rw [List.set_append_left _ _ h];have:=Jc (y:=y) (b:=b) (xs.set f a)
 rwa [List.length_set] at this
theorem AE {CH CS CT CE:Addr} {H:Hp} {A:Ad} {L:List Ta} {M:Hs} {f:Nat} {z nm kd mi re tx:Str} {a0:Ta} {t0:Th} {x dx:Addr} {Q:VK} {E:XK} (i:aJ CH CS CT H A L M) (gr:L[f]?=some a0) (gi:M.ts[f]?=some t0) (hx:H x=some (.ins CE dx (ay "name" (.str nm) (ay "folder" (.int (f:Int)) [])))) (hv:aP (sD t0.aM) (.inr nm)=none) (hl:t0.aM.length<=400)
  (nx1:x≠A.t) (mp:sX CH CS CT A L M f t0 a0 nm kd z mi re tx H Q):tW CS CT A.t A.dt A.ml (L.map fun a=>V.ref a.th) (.str kd) (.str z) (.str mi) (.str re) (.str tx) H (fun v H'=>KD CH CS CT CE [.ref A.a,.ref x,v] H' Q E):=by
 intro th c8 nm' pl ks H' f1 f2 f3 at' aF kl sk cf bt kp;have nx2:x≠A.ml:=bR hx i.ml (by nofun);have hlen:(L.map fun a=>V.ref a.th).length=L.length:=List.length_map _;rw [hlen] at sk ⊢;have i2:=i.add f1 f2 f3 at' aF kl sk cf bt kp;have h0:f < M.ts.length:=(List.getElem?_eq_some_iff.mp gi).1;have EC:=i.len;have e0:(M.ts++[(⟨kd,z,mi,re,tx,[],[]⟩:Th)])[f]?=some t0:=by rw [List.getElem?_append_left h0]; exact gi
 have ek:(M.ts++[(⟨kd,z,mi,re,tx,[],[]⟩:Th)])[L.length]?=some ⟨kd,z,mi,re,tx,[],[]⟩:=by rw [EC,List.getElem?_append_right (Nat.le_refl _),Nat.sub_self]; rfl
 refine ⟨A,L++[⟨th,c8,nm',pl⟩],_,f,L.length,a0,t0,⟨th,c8,nm',pl⟩,⟨kd,z,mi,re,tx,[],[]⟩,dx,nm,i2,rfl,kp _ _ (by simp [nx1,nx2]) hx,rfl,by rw [List.getElem?_append_left (by omega)]; exact gr,e0,by rw [List.getElem?_append_right (Nat.le_refl _),Nat.sub_self]; rfl,ek,by omega,hv,by omega,rfl,fun H2 i3 k3=>?_⟩;have:=mp ⟨th,c8,nm',pl⟩ H2 (by
  have e:=i3;dsimp only at e;rw [EC] at e;rw [YN h0] at e;exact e) (fun b o hb e=>?_)
 ·rw [EC]; exact this
 ·simp only [List.mem_cons,List.not_mem_nil,or_false,not_or] at hb;have nbp:b≠pl:=aH e f3;exact k3 _ _ (by simp [hb.1,hb.2.2,nbp]) (kp _ _ (by simp [hb.1,hb.2.1]) e)
theorem Ae {CH CS CT:Addr} {H:Hp} {A:Ad} {L:List Ta} {M:Hs} (i:aJ CH CS CT H A L M):jI CS H A.t A.dt A.ml (L.map fun a=>V.ref a.th):=⟨i.t,i.ml⟩
theorem sX.of {CH CS CT:Addr} {H H1:Hp} {A:Ad} {L:List Ta} {M:Hs} {f:Nat} {t0:Th} {a0:Ta} {nm kd ow mi re tx:Str} {Q:VK} (s:ao H H1) (m:sX CH CS CT A L M f t0 a0 nm kd ow mi re tx H Q):sX CH CS CT A L M f t0 a0 nm kd ow mi re tx H1 Q:=fun a H' i k=>m a H' i ((Kp.of s).trans k)
def QZ (K:PySem.W.Frag):Sp:=jX fun pt H Q _=>X1 fun t=>A4 (pt=Tx.S t) (fK t) (t.length<=120) (∀ H',ao H H'->Q .au H')
theorem VX:T.pb.k P w base 4 (QZ K):=by
 refine T.pb.F.ok SW (fun _ _ _ _ h=>fj h fun _ _=>rfl) fun ah A outer s H vs Q E hr h=>fj h fun pt h=>?_;obtain ⟨t,rfl,pt,hl,q⟩:=h;refine bK (b:=aS xY) ((am (aY (bv (kF T) hr.m T.cu.m T.cu.F.kp T.cu.b .nil aw (aa (ad 0) ae)))
 (aq (bB (bY AN (cC (lA (K:=K) rfl) T.lG PySem.boot_len (aa (ad 0) ae)) (dL (.int 120) T.Oo ⟨_,rfl⟩)) (aq iA) cr)))) ?_
 refine stI [some (V.str (Tx.S t))] ?_;refine ai ?_;left;refine ⟨t,rfl,pt.l1,pt.l2,pt.all,fun H1 l p s1 _ _ _=>?_⟩;left;refine ⟨by rw [Tx.cY]; exact fits (by omega),?_⟩;rw [Tx.cY,decide_eq_false (show ¬ (t.length:Int) > 120 by omega)];exact bb (q _ s1)
theorem N7:T.rA.k P w mg base 4 (Xg T.aO T.aV):=by
 refine T.rA.F.ok UT (fun _ _ _ _ h=>l6 h fun _ _ _ _=>rfl) fun ah A outer s H vs Q E hr h=>l6 h fun x ow tx h=>?_;obtain ⟨dt,ml,rs,at',dq,q⟩:=h;obtain ⟨fs,c,hx,aW,sf⟩:=at'.o;refine ⟨_,((aq (aN (bf T.bV T.kf.h (CO T) hr.m T.kf.b .nil aw (ad 0) (aa (dL (.str "lead") T.Zq ⟨_,rfl⟩) (aa (ad 1) (aa bn (aa bn (aa (ad 2) ae))))))))).h,?_⟩;refine stI [some (.ref x),some ow,some tx] ?_;left;exact ⟨x,dt,fs,rfl,hx,(sf _).trans rfl,dt,ml,rs,at',dq,q⟩
structure vJ (N:Cn) (H:Hp) (A:Ad) (L:List Ta) (M:Hs) (z:Str) (t:List Nat) (kd mi re tx:Str) (Q:VK) (E:XK):Prop where
 i:aJ N.CH N.CS N.CT H A L M
 p:fK t
 hz:(aP (sD M.ro) (.inr z)).isSome=true
 ki:mi∈dJ
 fe:re∈dJ
 hL:L.length<=400
 hl:∀ (f:Nat) t0,M.ts[f]?=some t0->t0.aM.length<=400
 r:∃ root r,nh ⟨L,M,z,true,root⟩ t r/\(∀ x,r=.inl x->fh N H E x)/\∀ f nm a0 t0,r=.inr (f,nm)->L[f]?=some a0->M.ts[f]?=some t0->sX N.CH N.CS N.CT A L M f t0 a0 (Tx.S nm) kd z mi re tx H Q
def Fc (N:Cn):Sp:=wm fun h z pt mi re H Q E=>X4 fun A L M t=>A3 (pt=Tx.S t) (vJ N H A L M z t "folder" mi re "" Q E) (A.a=h)
def KW (N:Cn):Sp:=JF fun h z pt tx mi re H Q E=>X4 fun A L M t=>A4 (pt=Tx.S t) (vJ N H A L M z t "file" mi re tx Q E) (A.a=h) (tx.length<=60)
theorem V6:aB P w K mg base (bJ P w) 15 T.DM T.ua ["house","asker","path","mine","rest"] (Fc T.cn):=by
 refine T.vb.eN Lw (fun vs H Q E h=>?_) (fun ah A outer s H vs Q E hr h=>?_)
 ·exact o8 h fun _ _ _ _ _ _=>rfl
 ·refine o8 h fun hh z pt mi re h=>?_;obtain ⟨AA,L,M,t,rfl,pr,rfl⟩:=h;obtain ⟨mf,gc,gh,mq,eQ⟩:=pr.i.h;obtain ⟨root,r,gQ,q1,q2⟩:=pr.r;refine bK (b:=aS pI) ((am (aY (cX T.aK T.ef.h (lB T) hr.m T.ef.b .nil dO (ad 0) (aa (ad 1) ae)))
  (am (aY (bv (kF T) hr.m T.cu.m T.cu.F.kp T.cu.b .nil aw (aa (ad 2) ae)))
  (am (aY (bv (oI T) hr.m T.dM.m T.dM.F.kp T.dM.b .nil aw (aa (ad 3) ae)))
  (am (aY (bv (oI T) hr.m T.dM.m T.dM.F.kp T.dM.b .nil aw (aa (ad 4) ae)))
  (am (aQ 5 Lw.nd (eO (yJ T) hr.m T.gY.m T.gY.F.kp T.gY.b .nil dO (aa (ad 0) (aa (ad 1) (aa (ad 2) ae)))))
  (aq (aN (bv (Ct T) hr.m T.g9.m T.g9.F.kp T.g9.b .nil aw (aa (ad 0) (aa (ad 5) (aa (bf T.bV T.nJ.h (Gu T) hr.m T.nJ.b .nil aw (ap T.aK T.eJ (ad 0)) (aa (ad 1) (aa (ad 3) (aa (ad 4) ae)))) ae)))))))))))) ?_
  refine stI [some (V.ref AA.a),some (V.str z),some (V.str (Tx.S t)),some (V.str mi),some (V.str re),none] ?_;refine ai ?_;left;refine (mI gh eQ (m4 pr.i pr.hz (ai ?_)));left;refine ⟨t,rfl,pr.p.l1,pr.p.l2,pr.p.all,fun H1 l p s1 _ hl hp=>ai ?_⟩;left;refine ⟨pr.ki,ai ?_⟩;left;refine ⟨pr.fe,ai ?_⟩;left;refine ⟨AA,L,M,root,t,r,rfl,pr.p,pr.i.same s1,rfl,pr.hz,gQ,fun x e=>(q1 x e).of s1,fun f nm e x dx H2 fx s2 hx=>?_⟩;left;have i2:=pr.i.same (s1.trans s2);obtain ⟨ET,Dh,mw,DU,mr⟩:=i2.h;obtain ⟨gs,c2,ht,cR,sg⟩:=i2.t;obtain ⟨_,_,gT,_⟩:=(pr.i.same s1).t;subst e;cases gQ with
  | free g hn gr gi hw hv =>
   refine (fI mw mr rfl (mI ht sg ⟨AA.dt,AA.ml,_,Ae i2,by rw [List.length_map]; have:=pr.hL; omega,AE i2 gr gi hx hv (pr.hl _ _ gi) (Ne.symm (aH gT fx)) ((q2 _ _ _ _ rfl gr gi).of (s1.trans s2))⟩))
theorem VU:aB P w K mg base (bJ P w) 15 T.DV T.uo ["house","asker","path","text","mine","rest"] (KW T.cn):=by
 refine T.uS.eN GK (fun vs H Q E h=>?_) (fun ah A outer s H vs Q E hr h=>?_)
 ·exact Kw h fun _ _ _ _ _ _ _=>rfl
 ·refine Kw h fun hh z pt tx mi re h=>?_;obtain ⟨AA,L,M,t,rfl,pr,rfl,EB⟩:=h;obtain ⟨mf,gc,gh,mq,eQ⟩:=pr.i.h;obtain ⟨root,r,gQ,q1,q2⟩:=pr.r;refine bK (b:=aS oS) ((am (aY (cX T.aK T.ef.h (lB T) hr.m T.ef.b .nil dO (ad 0) (aa (ad 1) ae)))
  (am (aY (bv (kF T) hr.m T.cu.m T.cu.F.kp T.cu.b .nil aw (aa (ad 2) ae)))
  (am (aY (bv (oI T) hr.m T.dM.m T.dM.F.kp T.dM.b .nil aw (aa (ad 4) ae)))
  (am (aY (bv (oI T) hr.m T.dM.m T.dM.F.kp T.dM.b .nil aw (aa (ad 5) ae)))
  (am (aY (bv (Zb T) hr.m T.pX.m T.pX.F.kp T.pX.b .nil aw (aa (ad 3) ae)))
  (am (aQ 6 GK.nd (eO (yJ T) hr.m T.gY.m T.gY.F.kp T.gY.b .nil dO (aa (ad 0) (aa (ad 1) (aa (ad 2) ae)))))
  (aq (aN (bv (Ct T) hr.m T.g9.m T.g9.F.kp T.g9.b .nil aw (aa (ad 0) (aa (ad 6) (aa (bf T.bV T.sd.h (T6 T) hr.m T.sd.b .nil aw (ap T.aK T.eJ (ad 0)) (aa (ad 1) (aa (ad 3) (aa (ad 4) (aa (ad 5) ae))))) ae))))))))))))) ?_
  refine stI [some (V.ref AA.a),some (V.str z),some (V.str (Tx.S t)),some (V.str tx),some (V.str mi),some (V.str re),none] ?_;refine ai ?_;left;refine (mI gh eQ (m4 pr.i pr.hz (ai ?_)));left;refine ⟨t,rfl,pr.p.l1,pr.p.l2,pr.p.all,fun H1 l p s1 _ hl hp=>ai ?_⟩;left;refine ⟨pr.ki,ai ?_⟩;left;refine ⟨pr.fe,ai ?_⟩;left;refine ⟨EB,ai ?_⟩;left;refine ⟨AA,L,M,root,t,r,rfl,pr.p,pr.i.same s1,rfl,pr.hz,gQ,fun x e=>(q1 x e).of s1,fun f nm e x dx H2 fx s2 hx=>?_⟩;left;have i2:=pr.i.same (s1.trans s2);obtain ⟨ET,Dh,mw,DU,mr⟩:=i2.h;obtain ⟨gs,c2,ht,cR,sg⟩:=i2.t;obtain ⟨_,_,gT,_⟩:=(pr.i.same s1).t;subst e;cases gQ with
  | free g hn gr gi hw hv =>
   refine (fI mw mr rfl (mI ht sg ⟨AA.dt,AA.ml,_,Ae i2,by rw [List.length_map]; have:=pr.hL; omega,AE i2 gr gi hx hv (pr.hl _ _ gi) (Ne.symm (aH gT fx)) ((q2 _ _ _ _ rfl gr gi).of (s1.trans s2))⟩))
def JZ (N:Cn):Sp:=HY fun h z pt tx H Q E=>X5 fun A L M t tl=>A6 (pt=Tx.S t) (tx=Tx.S tl) (vJ N H A L M z t "lead" "" "" tx Q E) (A.a=h) (fK tl) (tl.length<=120)
theorem Zc:aB P w K mg base (bJ P w) 15 T.oZ.f T.oZ.d ["house","asker","path","lead"] (JZ T.cn):=by
 refine T.oZ.F.eN K2 (fun _ _ _ _ h=>JT h fun _ _ _ _ _=>rfl) fun ah A outer s H vs Q E hr h=>JT h fun hh z pt tx h=>?_;obtain ⟨AA,L,M,t,tl,rfl,rfl,pr,rfl,xq,hl120⟩:=h;obtain ⟨mf,gc,gh,mq,eQ⟩:=pr.i.h;obtain ⟨root,r,gQ,q1,q2⟩:=pr.r;refine bK (b:=aS Br) ((am (aY (cX T.aK T.ef.h (lB T) hr.m T.ef.b .nil dO (ad 0) (aa (ad 1) ae)))
 (am (aY (bv (kF T) hr.m T.cu.m T.cu.F.kp T.cu.b .nil aw (aa (ad 2) ae)))
 (am (aY (bv (VX T) hr.m T.pb.m T.pb.F.kp T.pb.b .nil aw (aa (ad 3) ae)))
 (am (aQ 4 K2.nd (eO (yJ T) hr.m T.gY.m T.gY.F.kp T.gY.b .nil dO (aa (ad 0) (aa (ad 1) (aa (ad 2) ae)))))
 (aq (aN (bv (Ct T) hr.m T.g9.m T.g9.F.kp T.g9.b .nil aw (aa (ad 0) (aa (ad 4) (aa (bf T.bV T.rA.h (N7 T) hr.m T.rA.b .nil aw (ap T.aK T.eJ (ad 0)) (aa (ad 1) (aa (ad 3) ae))) ae))))))))))) ?_
 refine stI [some (V.ref AA.a),some (V.str z),some (V.str (Tx.S t)),some (V.str (Tx.S tl)),none] ?_;refine ai ?_;left;refine (mI gh eQ (m4 pr.i pr.hz (ai ?_)));left;refine ⟨t,rfl,pr.p.l1,pr.p.l2,pr.p.all,fun H1 l p s1 _ hl hp=>ai ?_⟩;left;refine ⟨tl,rfl,xq,hl120,fun H1' s1'=>ai ?_⟩
 replace s1:=s1.trans s1'
 clear hl hp;generalize H1'=H1 at s1 ⊢;left;refine ⟨AA,L,M,root,t,r,rfl,pr.p,pr.i.same s1,rfl,pr.hz,gQ,fun x e=>(q1 x e).of s1,fun f nm e x dx H2 fx s2 hx=>?_⟩;left;have i2:=pr.i.same (s1.trans s2);obtain ⟨ET,Dh,mw,DU,mr⟩:=i2.h;obtain ⟨gs,c2,ht,cR,sg⟩:=i2.t;obtain ⟨_,_,gT,_⟩:=(pr.i.same s1).t;subst e;cases gQ with
 | free g hn gr gi hw hv =>
  refine (fI mw mr rfl (mI ht sg ⟨AA.dt,AA.ml,_,Ae i2,by rw [List.length_map]; have:=pr.hL; omega,AE i2 gr gi hx hv (pr.hl _ _ gi) (Ne.symm (aH gT fx)) ((q2 _ _ _ _ rfl gr gi).of (s1.trans s2))⟩))
inductive Az (d:Wd) (t:List Nat):Sum Rf Nat->Prop
 | way {e}:dI d t e->(∀ k ns,e.res≠.found k ns)->Az d t (.inl (.way e.res))
 | file {e k ns a th}:dI d t e->e.res=.found k ns->d.L[k]?=some a->d.M.ts[k]?=some th->th.kd≠("folder" : Str)->Az d t (.inl (.eM "file"))
 | ok {e k ns a th}:dI d t e->e.res=.found k ns->d.L[k]?=some a->d.M.ts[k]?=some th->th.kd=("folder" : Str)->Az d t (.inr k)
inductive vd (d:Wd) (t:List Nat):Sum Rf Nat->Prop
 | way {e}:dI d t e->(∀ k ns,e.res≠.found k ns)->vd d t (.inl (.way e.res))
 | HM {e k ns a th}:dI d t e->e.res=.found k ns->d.L[k]?=some a->d.M.ts[k]?=some th->th.ow≠d.z->vd d t (.inl (.eM "mine"))
 | ok {e k ns a th}:dI d t e->e.res=.found k ns->d.L[k]?=some a->d.M.ts[k]?=some th->th.ow=d.z->vd d t (.inr k)
def GL (N:Cn):Sp:=wm fun h z pt m r H Q E=>X6 fun A L M root t x=>A8 (pt=Tx.S t) (aJ N.CH N.CS N.CT H A L M) (A.a=h) (vd ⟨L,M,z,true,root⟩ t x) (m∈dJ) (r∈dJ) (∀ y,x=.inl y->fh N H E y) (∀ k a th,x=.inr k->L[k]?=some a->M.ts[k]?=some th ->
   ∀ H',aJ N.CH N.CS N.CT H' A L { M with ts:=M.ts.set k { th with mi:=m,re:=r } }->Kp [A.t,a.th] H H'->Q .au H')
theorem Zx:aB P w K mg base (bJ P w) 16 T.pV.f T.pV.d ["house","asker","path","mine","rest"] (GL T.cn):=by
 refine T.pV.F.eN GS (fun _ _ _ _ h=>o8 h fun _ _ _ _ _ _=>rfl) fun ah A outer s H vs Q E hr h=>o8 h fun hh z pt m r h=>?_;obtain ⟨AA,L,M,root,tt,x,rfl,i,rfl,hx,hm,hr',q1,q2⟩:=h;obtain ⟨e,pa,g1,g2⟩:∃ e,dI ⟨L,M,z,true,root⟩ tt e/\((∀ k ns,e.res≠.found k ns)->x=.inl (.way e.res))/\∀ k ns,e.res=.found k ns->∃ a th,L[k]?=some a/\M.ts[k]?=some th/\(th.ow=z->x=.inr k)/\(th.ow≠z->x=.inl (.eM "mine")):=by
  cases hx with
  | way h1 h2=>exact ⟨_,h1,fun _=>rfl,fun k ns e=>absurd e (h2 k ns)⟩
  | HM h1 h2 h3 h4 h5=>exact ⟨_,h1,fun k=>absurd h2 (k _ _),fun k ns e=>by rw [h2] at e; cases e; exact ⟨_,_,h3,h4,fun z=>absurd z h5,fun _=>rfl⟩⟩
  | ok h1 h2 h3 h4 h5=>exact ⟨_,h1,fun k=>absurd h2 (k _ _),fun k ns e=>by rw [h2] at e; cases e; exact ⟨_,_,h3,h4,fun _=>rfl,fun z=>absurd h5 z⟩⟩
 obtain ⟨mf,gc,gh,mq,eQ⟩:=i.h;refine bK (b:=aS B0) ((am (aY (cX T.aK T.ef.h (lB T) hr.m T.ef.b .nil dO (ad 0) (aa (ad 1) ae)))
 (am (aY (bv (kF T) hr.m T.cu.m T.cu.F.kp T.cu.b .nil aw (aa (ad 2) ae)))
 (am (aY (bv (oI T) hr.m T.dM.m T.dM.F.kp T.dM.b .nil aw (aa (ad 3) ae)))
 (am (aY (bv (oI T) hr.m T.dM.m T.dM.F.kp T.dM.b .nil aw (aa (ad 4) ae)))
 (am (aQ 5 GS.nd (eO (VA T) hr.m T.pY.m T.pY.F.kp T.pY.b .nil dO (aa (ad 0) (aa (ad 1) (aa (ad 2) ae)))))
 (am (bB (bY kC (bf T.aK T.iC.h (vz T) hr.m T.iC.b .nil aw (ad 0) (aa (ad 5) ae)) (ad 1)) (aq (sO rb rfl rfl T.qF T.oY T.vC (wH T) hr.m T.lx.b (aa bn ae))) cr)
 (aq (aY (bf T.bV T.rY.h (YW T) hr.m T.rY.b .nil aw (ap T.aK T.eJ (ad 0)) (aa (ad 5) (aa (ad 3) (aa (ad 4) ae))))))))))))) ?_
 refine stI [some (V.ref AA.a),some (V.str z),some (V.str (Tx.S tt)),some (V.str m),some (V.str r),none] ?_;refine ai ?_;left;refine (mI gh eQ (m4 i pa.hz (ai ?_)));left;refine ⟨tt,rfl,pa.l1,pa.l2,pa.all,fun H1 l p s1 _ hl hp=>ai ?_⟩;left;refine ⟨hm,ai ?_⟩;left;refine ⟨hr',ai ?_⟩;left;refine ⟨AA,L,M,root,tt,e,rfl,i.same s1,rfl,pa,fun k ns he H2 s2=>ai ?_,fun hn=>(q1 _ (g1 hn)).of s1⟩
 ·left;have i2:=i.same (s1.trans s2);obtain ⟨ET,Dh,mw,DU,mr⟩:=i2.h;obtain ⟨gs,c2,hts,cR,sg⟩:=i2.t;obtain ⟨a,t,ha,ht,g3,g4⟩:=g2 k ns he;refine (mI mw mr ⟨AA,L,M,k,a,t,i2,rfl,rfl,ha,ht,?_⟩);show (if (!decide (t.ow=z))=true then _ else _);by_cases how:t.ow=z
  ·rw [decide_eq_true how];exact bb (fI mw mr rfl (mI hts sg ⟨AA,L,M,k,a,t,i2,rfl,rfl,ha,ht,fun H3 i3 k3=>q2 k a t (g3 how) ha ht H3 i3 ((Kp.of (s1.trans s2)).trans k3)⟩))
  ·rw [decide_eq_false how];exact bE ⟨_,rfl,fun d hd=>(q1 _ (g4 how)).raise (s1.trans s2) hd⟩
def AS:List Str:=["own","guest","other"]
inductive fE (M:Hs) (r:Nat):Nat->Prop
 | refl:fE M r r
 | up {k f nm t}:M.ts[k]?=some t->t.bP=[(f,nm)]->fE M r f->fE M r k
structure rW (M:Hs) (k:Nat) (t:Th):Prop where
 nl:t.aM.length<=M.ts.length
 kd:t.kd=("folder" : Str)\/t.kd=("file" : Str)\/t.kd=("lead" : Str)
 ld:t.kd=("lead" : Str)->∃ tl,t.tx=Tx.S tl/\fK tl/\tl.length<=120
 pl:k=0/\t.bP=[]\/∃ (f:Nat) (nm:Str) (tf:Th),f < k/\t.bP=[(f,nm)]/\nm.length<=8/\M.ts[f]?=some tf/\tf.kd=("folder" : Str)
 ch:∀ z v,aP (sD t.aM) (.inr z)=some v->∃ (c:Nat) (tc:Th),v=.int (c:Int)/\M.ts[c]?=some tc/\tc.bP=[(k,z)]
structure NO (M:Hs) (z:Str) (r k:Nat):Prop where
 ro:aP (sD M.ro) (.inr z)=some (.int (r:Int))
 st:aP (sD M.st) (.inr z)=some (.int (k:Int))
 b:fE M r k
 tr:∃ t,M.ts[r]?=some t/\t.kd=("folder" : Str)
 tk:∃ t,M.ts[k]?=some t/\t.kd=("folder" : Str)
structure Gd (M:Hs):Prop where
 tr:M.tr=[(("main" : Str),0)]
 ov:M.ov=[]
 un:M.un=[]
 as:∀ z∈AS,∃ r k,NO M z r k
 rl:M.ro.length<=3
 sl:M.st.length<=3
 t0:∃ t,M.ts[0]?=some t/\t.kd=("folder" : Str)
 th:∀ k t,M.ts[k]?=some t->rW M k t
def pW (p:Str):Prop:=p=("." : Str)\/p=(".." : Str)\/fb (.str p)=true/\p.length<=8
theorem Kg {wd:List Nat} (h:cB wd=true):pW (Tx.S wd):=by
 unfold cB at h;simp only [Bool.or_eq_true,decide_eq_true_eq] at h;rcases h with (rfl | rfl) | h
 ·exact .inl (by decide +kernel)
 ·exact .inr (.inl (by decide +kernel))
 ·exact .inr (.inr ⟨B3 h,by rw [Tx.cY]; exact (vv h).2.2.2⟩)
section
variable {M:Hs} {L:List Ta} {z:Str} {r:Nat}
theorem adr (hL:L.length=M.ts.length) {k:Nat} {t:Th} (h:M.ts[k]?=some t):∃ a,L[k]?=some a :=
 ⟨_,List.getElem?_eq_getElem (by rw [hL]; exact (List.getElem?_eq_some_iff.mp h).1)⟩
theorem Gd.df (g:Gd M) (k:Nat):da M k k [] :=
 ⟨⟨0,by unfold ke; rw [g.un]; exact ⟨rfl,rfl⟩⟩,0,by unfold jc; rw [g.ov]; exact ⟨rfl,rfl⟩,Nat.zero_le _⟩
theorem Gd.vL (g:Gd M) {k b:Nat} {r:List Nat} (h:da M k b r):b=k/\r=[]:=by
 obtain ⟨⟨n,h1⟩,n2,h2,_⟩:=h;refine ⟨?_,?_⟩
 ·cases n with
  | zero=>exact h1.2
  | succ n=>obtain ⟨k',e,_⟩:=h1; rw [g.un] at e; cases e
 ·cases n2 with
  | zero=>exact h2.2
  | succ n=>obtain ⟨k',r,e,_⟩:=h2; rw [g.ov] at e; cases e
theorem rV {k:Nat}:fN r [k]=decide (k=r):=by
 unfold fN;by_cases h:k=r
 ·simp [h]
 ·simp [h]
theorem Gd.par (g:Gd M) {k:Nat} {t:Th} (ht:M.ts[k]?=some t) (hb:fE M r k) (hk:k≠r):∃ (f:Nat) (nm:Str) (tf:Th),f < k/\t.bP=[(f,nm)]/\nm.length<=8/\M.ts[f]?=some tf/\tf.kd=("folder" : Str)/\fE M r f:=by
 cases hb with
 | refl=>exact absurd rfl hk
 | up h1 h2 h3 =>
  rw [ht] at h1; cases h1;rcases (g.th k t ht).pl with ⟨_,e⟩ | ⟨f,nm,tf,hf,hp,hl,bX,gR⟩
  ·rw [e] at h2; cases h2
  ·rw [hp] at h2; cases h2;exact ⟨_,_,tf,hf,hp,hl,bX,gR,h3⟩
theorem Gd.seen (g:Gd M) (hL:L.length=M.ts.length):∀ (n k:Nat) (t:Th),k<=n->M.ts[k]?=some t->fE M r k->jL M L r n k true
 | n,k,t,hk,ht,hb=>by
  obtain ⟨a,ha⟩:=adr hL ht;unfold jL;refine ⟨k,[],a,t,ha,ht,g.df k,?_⟩;rw [if_pos (show k=dk k [] from rfl),rV];by_cases h0:k=r
  ·rw [if_pos (decide_eq_true h0)]
  ·rw [if_neg (by rw [decide_eq_false h0]; nofun)];obtain ⟨f,nm,tf,hf,hp,_,bX,_,hb'⟩:=g.par ht hb h0;refine ⟨a,t,ha,ht,.inr ⟨f,nm,hp,?_⟩⟩
   match n,hk with
   | 0,hk=>omega
   | n+1,hk=>exact g.seen hL n f tf (by omega) bX hb'
theorem Gd.nm (g:Gd M) (hL:L.length=M.ts.length):∀ (n k:Nat) (t:Th),k<=n->M.ts[k]?=some t->fE M r k->∃ ns,iZ M L r n k ns/\ns.length<=k/\∀ s∈ns,s.length<=8
 | n,k,t,hk,ht,hb=>by
  obtain ⟨a,ha⟩:=adr hL ht;by_cases h0:k=r
  ·refine ⟨[],?_,Nat.zero_le _,fun _ h=>by cases h⟩;unfold iZ;exact ⟨k,[],a,t,ha,ht,g.df k,by rw [rV,if_pos (decide_eq_true h0)]⟩
  ·obtain ⟨f,nm,tf,hf,hp,hl,bX,_,hb'⟩:=g.par ht hb h0
   match n,hk with
   | 0,hk=>omega
   | n+1,hk =>
    obtain ⟨ns,h1,h2,h3⟩:=g.nm hL n f tf (by omega) bX hb';refine ⟨ns++[nm],?_,by rw [List.length_append]; simp; omega,fun s hs=>?_⟩
    ·unfold iZ;refine ⟨k,[],a,t,ha,ht,g.df k,?_⟩;rw [rV,if_neg (by rw [decide_eq_false h0]; nofun)];exact ⟨a,t,f,nm,ha,ht,hp,ns,rfl,h1⟩
    ·rcases List.mem_append.mp hs with hs | hs
     ·exact h3 s hs
     ·rw [List.mem_singleton.mp hs]; exact hl
theorem IV:fb (.str ("." : Str))=false/\fb (.str (".." : Str))=false:=by decide +kernel
end
def Val (M:Hs) (r:Nat) (S:Ws):Prop:=∃ t,M.ts[S.here]?=some t/\(t.kd=("folder" : Str)/\fE M r S.here\/t.kd≠("folder" : Str)/\∃ (f:Nat) (nm:Str) (tf:Th),S.place=some (f,nm)/\nm.length<=8/\M.ts[f]?=some tf/\fE M r f)
def fq:List (Sum Nat Str)->Nat
 | []=>0
 | .inl _::r=>fq r+1
 | .inr _::r=>fq r
theorem rN:∀ (a b:List (Sum Nat Str)),fq (a++b)=fq a+fq b
 | [],b=>by simp [fq]
 | .inl _::a,b=>by show fq (a++b)+1=fq a+1+fq b; rw [rN a b]; omega
 | .inr _::a,b=>rN a b
theorem Gi (c:Nat) (t:List Nat):(Tx.words c t).length<=t.length+1:=Nat.le_trans (List.length_filter_le _ _) (Tx.Cu c t)
theorem Ju:∀ ps:List Str,fq (ps.map Sum.inr)=0
 | []=>rfl
 | _::r=>Ju r
theorem Fs (ps:List Str):fq (cP ps)=0:=by
 unfold cP;rw [<- List.map_reverse];exact Ju _
structure yF (d:Wd) (S:Ws):Prop where
 v:Val d.M d.root S
 ps:∀ p,Sum.inr p∈S.left->pW p
 cn:fq S.left=S.bx.length
 rl:S.read<=40
def mu (S:Ws):Nat:=126 * (40 - S.read)+S.left.length
theorem IM {t:List Nat} (h:(Tx.words 47 t).all cB=true):∀ p∈dY t,pW p:=fun p hp=>by
 obtain ⟨x,hx,rfl⟩:=List.mem_map.mp hp;exact Kg (List.all_eq_true.mp (y2 (t:=t) h) x hx)
theorem E1 {ps:List Str} {p:Str} (h:Sum.inr p∈cP ps):p∈ps:=by
 unfold cP at h;obtain ⟨q,hq,e⟩:=List.mem_map.mp (List.mem_reverse.mp h);cases e; exact hq
section
variable {d:Wd}
theorem WI (g:Gd d.M) (hL:d.L.length=d.M.ts.length) (hr:∃ t,d.M.ts[d.root]?=some t/\t.kd=("folder" : Str)) {S:Ws} {p:Str} (w:yF d S) (hp:pW p):∃ S' o,dz d S p S' o/\(o=none->yF d S'/\mu S'<=mu S):=by
 obtain ⟨t,ht,hk⟩:=w.v;obtain ⟨a,ha⟩:=adr hL ht;by_cases cm:t.kd=("folder" : Str)
 ·have hb:fE d.M d.root S.here:=by
   rcases hk with h | h
   ·exact h.2
   ·exact absurd cm h.1
  cases hm:dU ("g" : Str) (cJ t d.z) with
  | false=>exact ⟨_,_,.jo ha ht cm hm,nofun⟩
  | true =>
   have hA:rD d S t:=⟨⟨a,ha⟩,ht,cm,hm⟩;rcases hp with hp | hp | ⟨hp,Ej⟩
   ·exact ⟨_,_,.dot hA hp,fun _=>⟨⟨⟨t,ht,.inl ⟨cm,hb⟩⟩,w.ps,w.cn,w.rl⟩,Nat.le_refl _⟩⟩
   ·by_cases h0:S.here=d.root
    ·exact ⟨_,_,.up hA hp (.gg ha ht (g.df _) (by rw [rV]; exact decide_eq_true h0)),fun _=>⟨⟨⟨t,ht,.inl ⟨cm,hb⟩⟩,w.ps,w.cn,w.rl⟩,Nat.le_refl _⟩⟩
    ·obtain ⟨f,nm,tf,hf,bt,hl,bX,gR,hb'⟩:=g.par ht hb h0;obtain ⟨af,gv⟩:=adr hL bX;exact ⟨_,_,.up hA hp (.up ha ht (g.df _) (by rw [rV]; exact decide_eq_false h0) ha ht bt gv bX (g.df f)),fun _=>⟨⟨⟨tf,bX,.inl ⟨gR,hb'⟩⟩,w.ps,w.cn,w.rl⟩,Nat.le_refl _⟩⟩
   ·have n1:p≠(".." : Str):=fun e=>by rw [e,IV.2] at hp; cases hp
    have n2:p≠("." : Str):=fun e=>by rw [e,IV.1] at hp; cases hp
    cases hv:aP (sD t.aM) (.inr p) with
    | none=>exact ⟨_,_,.go hA n1 n2 hp (by omega) (.no hv),nofun⟩
    | some u =>
     obtain ⟨k,tc,rfl,ed,hpc⟩:=(g.th _ t ht).ch _ _ hv;obtain ⟨ac,gn⟩:=adr hL ed;by_cases mh:tc.kd=("folder" : Str)
     ·exact ⟨_,_,.go hA n1 n2 hp (by omega) (.folder hv gn ed mh (g.df k)),fun _=>⟨⟨⟨tc,ed,.inl ⟨mh,.up ed hpc hb⟩⟩,w.ps,w.cn,w.rl⟩,Nat.le_refl _⟩⟩
     by_cases hf:tc.kd=("file" : Str)\/S.left=[]/\d.last=false
     ·exact ⟨_,_,.go hA n1 n2 hp (by omega) (.fin hv gn ed mh hf),fun _=>⟨⟨⟨tc,ed,.inr ⟨mh,_,_,t,rfl,Ej,ht,hb⟩⟩,w.ps,w.cn,w.rl⟩,Nat.le_refl _⟩⟩
     have iy:tc.kd=("lead" : Str):=by
      rcases (g.th _ tc ed).kd with h | h | h
      ·exact absurd h mh
      ·exact absurd (.inl h) hf
      ·exact h
     have eZ:tc.kd≠("file" : Str):=fun z=>hf (.inl z);have jv:¬ (S.left=[]/\d.last=false):=fun z=>hf (.inr z);by_cases hm1:k∈S.bx
     ·exact ⟨_,_,.go hA n1 n2 hp (by omega) (.lead hv gn ed mh eZ jv (.ring hm1)),nofun⟩
     by_cases qf:S.read=40
     ·exact ⟨_,_,.go hA n1 n2 hp (by omega) (.lead hv gn ed mh eZ jv (.many hm1 qf)),nofun⟩
     obtain ⟨tl,e1,e2,e3⟩:=(g.th _ tc ed).ld iy;obtain ⟨tr,ig,DI⟩:=hr;obtain ⟨ar,qm⟩:=adr hL ig;have hlen:(dY tl).length<=124:=by
      have h1:=@Bw (Tx.words 47 tl) tl;have h2:=Gi 47 tl;unfold dY;rw [List.length_map];omega
     have uf:=wA (dY tl);have dq:=w.rl;refine ⟨_,_,.go hA n1 n2 hp (by omega) (.lead hv gn ed mh eZ jv (.read hm1 qf (.mk gn ed e1 e2.l1 e2.l2 e2.all hlen qm ig (g.df _)))),fun _=>⟨⟨?_,fun q hq=>?_,?_,?_⟩,?_⟩⟩
     ·unfold ia;by_cases hrt:dC tl=true
      ·rw [if_pos hrt];exact ⟨tr,ig,.inl ⟨DI,.refl⟩⟩
      ·rw [if_neg hrt];exact ⟨t,ht,.inl ⟨cm,hb⟩⟩
     ·unfold ia at hq;rcases List.mem_append.mp hq with hq | hq
      ·rcases List.mem_append.mp hq with hq | hq
       ·exact w.ps q hq
       ·cases List.mem_singleton.mp hq
      ·exact IM e2.all q (E1 hq)
     ·unfold ia;show fq ((S.left++[.inl k])++cP (dY tl))=(S.bx++[k]).length;rw [rN,rN,Fs,w.cn,List.length_append];rfl
     ·unfold ia;show S.read+1<=40;omega
     ·unfold ia mu dj;simp only [List.length_append,List.length_cons,List.length_nil,uf];omega
 ·exact ⟨_,_,.flat ha ht cm,nofun⟩
theorem Be (g:Gd d.M) (hL:d.L.length=d.M.ts.length) (hr:∃ t,d.M.ts[d.root]?=some t/\t.kd=("folder" : Str)):∀ (n:Nat) {S:Ws},mu S<=n->yF d S->∃ m S' o,dX d m S S' o/\(o=none->Val d.M d.root S')
 | n,S,hn,w=>by
  rcases List.eq_nil_or_concat S.left with e | ⟨l,x,e⟩
  ·exact ⟨_,_,_,.done e,fun _=>w.v⟩
  rw [List.concat_eq_append] at e;have hlen:S.left.length=l.length+1:=by rw [e,List.length_append]; rfl
  have gk:∀ p,Sum.inr p∈l->pW p:=fun p hp=>w.ps p (by rw [e]; exact List.mem_append_left _ hp);have iQ:=w.cn;rw [e,rN] at iQ
  match n,hn with
  | 0,hn=>unfold mu at hn; omega
  | n+1,hn =>
   cases x with
   | inl k =>
    have h1:fq [Sum.inl (β:=Str) k]=1:=rfl;rw [h1] at iQ;rcases List.eq_nil_or_concat S.bx with er | ⟨r,j,er⟩
    ·rw [er] at iQ; simp at iQ
    rw [List.concat_eq_append] at er;rw [er,List.length_append] at iQ;obtain ⟨m,S',o,h2,h3⟩:=Be g hL hr n (S:={ S with left:=l,bx:=r }) (by unfold mu at hn ⊢; dsimp only; omega) ⟨w.v,gk,by show fq l=r.length; simp at iQ; omega,w.rl⟩;exact ⟨_,_,_,.pop e er h2,h3⟩
   | inr p =>
    have h1:fq [Sum.inr (α:=Nat) p]=0:=rfl;rw [h1] at iQ;obtain ⟨S1,o,h2,h3⟩:=WI g hL hr (S:={ S with left:=l }) (p:=p) ⟨w.v,gk,iQ,w.rl⟩ (w.ps p (by rw [e]; simp));cases o with
    | some y=>exact ⟨_,_,_,.fail e h2,nofun⟩
    | none =>
     obtain ⟨w1,hm⟩:=h3 rfl;obtain ⟨m,S',o,h4,h5⟩:=Be g hL hr n (S:=S1) (by unfold mu at hn hm ⊢; dsimp only at hm; omega) w1;exact ⟨_,_,_,.step e h2 h4,h5⟩
theorem dz.WL {S S':Ws} {p:Str} {o:Option Tl} {x:Sum Nat Str} {r:List (Sum Nat Str)} (h:dz d S p S' o) (e:S.left=x::r):∃ r',S'.left=x::r':=by
 cases h with
 | flat=>exact ⟨_,e⟩
 | jo=>exact ⟨_,e⟩
 | dot=>exact ⟨_,e⟩
 | up=>exact ⟨_,e⟩
 | go _ _ _ _ _ hb =>
  cases hb with
  | no=>exact ⟨_,e⟩
  | folder=>exact ⟨_,e⟩
  | fin=>exact ⟨_,e⟩
  | lead _ _ _ _ _ _ hm =>
   cases hm with
   | ring=>exact ⟨_,e⟩
   | many=>exact ⟨_,e⟩
   | read _ _ hr =>
    cases hr;unfold ia;dsimp only;exact ⟨_,by rw [show (dj S).left=x::r from e]; rfl⟩
theorem XM {n:Nat} {S S':Ws} {o:Option Tl} (h:dX d n S S' o):o=none->∀ {r},S.left=.inr ("." : Str)::r->∃ t,d.M.ts[S'.here]?=some t/\t.kd=("folder" : Str):=by
 induction h with
 | done e=>intro _ r e'; rw [e] at e'; cases e'
 | @pop n S k l r j S' o e er _ ih =>
  intro ho r' e';rw [e] at e'
  match l,e' with
  | [],e'=>cases e'
  | y::l,e' =>
   rw [List.cons_append] at e';injection e' with e1 e2;exact ih ho (by rw [e1])
 | @step n S p l S1 S' o e hs hr ih =>
  intro ho r' e';rw [e] at e'
  match l,e' with
  | [],e' =>
   have ep:p=("." : Str):=by injection e' with e1 e2; exact Sum.inr.inj e1
   subst ep;cases hs with
   | dot hA _ =>
    cases hr with
    | done _=>exact ⟨_,hA.e,hA.k⟩
    | pop e1=>exact absurd e1 (by unfold dj; simp)
    | step e1=>exact absurd e1 (by unfold dj; simp)
    | fail e1=>exact absurd e1 (by unfold dj; simp)
   | up _ h5=>exact absurd h5 (by decide +kernel)
   | go _ _ h6=>exact absurd rfl h6
  | y::l,e' =>
   rw [List.cons_append] at e';injection e' with e1 e2;obtain ⟨r2,e3⟩:=hs.WL (x:=y) (r:=l) rfl;exact ih ho (by rw [e3,e1])
 | fail=>intro ho; cases ho
theorem Yp (g:Gd d.M) (hL:d.L.length=d.M.ts.length) (hn:d.M.ts.length<=90) {S:Ws} (v:Val d.M d.root S):∃ ns cH,wL d.M d.L d.root S ns cH:=by
 obtain ⟨t,ht,hk⟩:=v;obtain ⟨a,ha⟩:=adr hL ht;rcases hk with ⟨cm,hb⟩ | ⟨cm,f,nm,tf,hp,h8,bX,hb⟩
 ·obtain ⟨ns,h1,h2,h3⟩:=g.nm hL S.here S.here t (Nat.le_refl _) ht hb;have:=(List.getElem?_eq_some_iff.mp ht).1;exact ⟨ns,[],S.here,a,t,ha,ht,.inl ⟨cm,rfl,rfl⟩,⟨_,h1⟩,by omega,h3⟩
 ·obtain ⟨ns,h1,h2,h3⟩:=g.nm hL f f tf (Nat.le_refl _) bX hb;have:=(List.getElem?_eq_some_iff.mp bX).1;exact ⟨ns,[nm],f,a,t,ha,ht,.inr ⟨cm,nm,hp,rfl,h8⟩,⟨_,h1⟩,by omega,h3⟩
end
def GG (M:Hs) (r:Nat) (e:End):Prop:=∀ k ns,e.res=.found k ns->∃ t,M.ts[k]?=some t/\(t.kd=("folder" : Str)->fE M r k)
section
variable {M:Hs} {L:List Ta} {z:Str} {r:Nat} {last:Bool}
theorem Fw (g:Gd M) (hL:L.length=M.ts.length) (hn:M.ts.length<=90) (hz:z∈AS) (last:Bool) {fr:Bool} {ps:List Str} (gk:∀ p∈ps,pW p) (hl:ps.length<=2500) :
  ∃ r e,aP (sD M.ro) (.inr z)=some (.int ((r:Nat):Int))/\la ⟨L,M,z,last,r⟩ fr ps e/\GG M r e/\∀ qs,ps=qs++[("." : Str)]->∀ k ns,e.res=.found k ns->∃ t,M.ts[k]?=some t/\t.kd=("folder" : Str):=by
 obtain ⟨r,k0,ga⟩:=g.as z hz;obtain ⟨st,t,aR,ht,cm,hb⟩:∃ (st:Nat) (t:Th),(fr=true/\st=r\/fr=false/\aP (sD M.st) (.inr z)=some (.int (st:Int)))/\M.ts[st]?=some t/\t.kd=("folder" : Str)/\fE M r st:=by
  cases fr with
  | true=>obtain ⟨t,h1,h2⟩:=ga.tr; exact ⟨r,t,.inl ⟨rfl,rfl⟩,h1,h2,.refl⟩
  | false=>obtain ⟨t,h1,h2⟩:=ga.tk; exact ⟨k0,t,.inr ⟨rfl,ga.st⟩,h1,h2,ga.b⟩
 obtain ⟨a,ha⟩:=adr hL ht;obtain ⟨n,S',o,hr,hv⟩:=Be (d:=⟨L,M,z,last,r⟩) g hL ga.tr _ (S:=⟨st,none,0,[],cP ps,[],0,0⟩) (Nat.le_refl _) ⟨⟨t,ht,.inl ⟨cm,hb⟩⟩,fun p hp=>gk p (E1 hp),Fs ps,Nat.zero_le _⟩;have hB:v9 ⟨L,M,z,last,r⟩ fr st:=⟨ga.ro,st,st,[],a,t,aR,ha,ht,g.df st,⟨st,g.seen hL st st t (Nat.le_refl _) ht hb⟩,rfl⟩;cases o with
 | some y=>exact ⟨r,_,ga.ro,.told hB hl hr,fun k ns e=>(by cases y <;> cases e),fun qs _ k ns e=>by cases y <;> cases e⟩
 | none =>
  obtain ⟨ns,cH,ig⟩:=Yp (d:=⟨L,M,z,last,r⟩) g hL hn (hv rfl);refine ⟨r,_,ga.ro,.found hB hl hr ig,fun k ns' e=>?_,fun qs hq k ns' e=>?_⟩
  ·cases e;obtain ⟨t',h,hh⟩:=hv rfl;refine ⟨t',h,fun hf=>?_⟩;rcases hh with hh | hh
   ·exact hh.2
   ·exact absurd hf hh.1
  ·cases e;exact XM hr rfl (r:=cP qs |>.map id) (by rw [hq]; unfold cP; simp)
theorem Lg (g:Gd M) (hL:L.length=M.ts.length) (hn:M.ts.length<=90) (hz:z∈AS) (last:Bool) {t:List Nat} (p:fK t):∃ r e,aP (sD M.ro) (.inr z)=some (.int ((r:Nat):Int))/\dI ⟨L,M,z,last,r⟩ t e/\GG M r e:=by
 have hw:=@Bw (Tx.words 47 t) t;have h2:=Gi 47 t;have h3:=p.l2;obtain ⟨r,e,h0,h1,h2,_⟩:=Fw g hL hn hz last (fr:=dC t) (IM p.all) (by unfold dY; rw [List.length_map]; omega);exact ⟨r,e,h0,⟨p.l1,p.l2,p.all,h1⟩,h2⟩
theorem NU {ps:List (List Nat)} (h:ps.all cB=true):∃ r,jh ps r:=by
 rcases List.eq_nil_or_concat ps with e | ⟨q,nm,e⟩
 ·exact ⟨none,.nil e⟩
 ·rw [List.concat_eq_append] at e;cases hn:isNm nm with
  | true=>exact ⟨_,.FK e hn⟩
  | false=>exact ⟨none,.tT e hn (o7 (List.all_eq_true.mp h nm (by rw [e]; simp))).2.2⟩
theorem Zd (g:Gd M) (hL:L.length=M.ts.length) (hn:M.ts.length<=90) (hz:z∈AS) {t:List Nat} (p:fK t) (hl:(Tx.words 47 t).length<=300) :
  ∃ root r,nh ⟨L,M,z,true,root⟩ t r/\∀ f nm,r=.inr (f,nm)->∃ tf,M.ts[f]?=some tf/\tf.kd=("folder" : Str)/\isNm nm=true/\aP (sD tf.aM) (.inr (Tx.S nm))=none:=by
 have hw:=@Bw (Tx.words 47 t) t;obtain ⟨r,hr⟩:=NU (y2 (t:=t) p.all);cases r with
 | none=>exact ⟨0,_,.no (.tT hr),fun f nm e=>by cases e⟩
 | some qn =>
  obtain ⟨q,nm⟩:=qn;have he:told (Tx.words 47 t) t=q++[nm]:=by cases hr; assumption
  have cf:isNm nm=true:=by cases hr; assumption
  have kT:=y2 (t:=t) p.all;rw [he,List.all_append,Bool.and_eq_true] at kT;have hq:q.length<=900:=by rw [he,List.length_append] at hw; omega
  obtain ⟨root,e,_,h1,h2,h3⟩:=Fw g hL hn hz true (fr:=dC t) (ps:=q.map Tx.S++[("." : Str)]) (fun x hx=>by
   rcases List.mem_append.mp hx with hx | hx
   ·obtain ⟨y,hy,rfl⟩:=List.mem_map.mp hx;exact Kg (List.all_eq_true.mp kT.1 y hy)
   ·exact .inl (List.mem_singleton.mp hx)) (by simp; omega)
  by_cases hf:∃ f ns,e.res=.found f ns
  ·obtain ⟨f,ns,gu⟩:=hf;have hs:j4 ⟨L,M,z,true,root⟩ t (.inr (f,nm)):=.Iz hr hq h1 gu;obtain ⟨tf,bX,gR⟩:=h3 _ rfl f ns gu;obtain ⟨a,ha⟩:=adr hL bX;cases hm:dU ("w" : Str) (cJ tf z) with
   | false=>exact ⟨root,_,.kept hs bX hm,fun f nm e=>by cases e⟩
   | true =>
    cases hv:aP (sD tf.aM) (.inr (Tx.S nm)) with
    | some v =>
     obtain ⟨c,rfl⟩:=Hi hv;exact ⟨root,_,.there hs cf ha bX hm hv,fun f nm e=>by cases e⟩
    | none=>exact ⟨root,_,.free hs cf ha bX hm hv,fun f' nm' e=>by cases e; exact ⟨tf,bX,gR,cf,hv⟩⟩
  ·exact ⟨root,_,.no (.way hr hq h1 fun k ns hk=>hf ⟨k,ns,hk⟩),fun f nm e=>by cases e⟩
theorem Gd.lift {M':Hs} (g:Gd M) (h1:M'.ro=M.ro) (h2:M'.st=M.st) (h3:M'.tr=M.tr) (h4:M'.ov=M.ov) (h5:M'.un=M.un) (old:∀ (k:Nat) (t:Th),M.ts[k]?=some t->∃ t':Th,M'.ts[k]?=some t'/\t'.kd=t.kd/\t'.bP=t.bP) (th:∀ k t,M'.ts[k]?=some t->rW M' k t):Gd M':=by
 have bl:∀ {r k},fE M r k->fE M' r k:=fun {r k} b=>by
  induction b with
  | refl=>exact .refl
  | up a1 a2 _ ih =>
   obtain ⟨t',e1,_,e3⟩:=old _ _ a1;exact .up e1 (e3.trans a2) ih
 refine ⟨h3.trans g.tr,h4.trans g.ov,h5.trans g.un,fun z hz=>?_,by rw [h1]; exact g.rl,by rw [h2]; exact g.sl,?_,th⟩
 ·obtain ⟨r,k,a⟩:=g.as z hz;refine ⟨r,k,by rw [h1]; exact a.ro,by rw [h2]; exact a.st,bl a.b,?_,?_⟩
  ·obtain ⟨t,e1,e2⟩:=a.tr;obtain ⟨t',e3,e4,_⟩:=old _ _ e1;exact ⟨t',e3,e4.trans e2⟩
  ·obtain ⟨t,e1,e2⟩:=a.tk;obtain ⟨t',e3,e4,_⟩:=old _ _ e1;exact ⟨t',e3,e4.trans e2⟩
 ·obtain ⟨t,e1,e2⟩:=g.t0;obtain ⟨t',e3,e4,_⟩:=old _ _ e1;exact ⟨t',e3,e4.trans e2⟩
theorem rW.lift {M':Hs} {k:Nat} {t t':Th} (h:rW M k t) (hl:M.ts.length<=M'.ts.length) (e1:t'.kd=t.kd) (e2:t'.bP=t.bP) (e3:t'.aM=t.aM) (e4:t'.tx=t.tx) (old:∀ (k:Nat) (t:Th),M.ts[k]?=some t->∃ t':Th,M'.ts[k]?=some t'/\t'.kd=t.kd/\t'.bP=t.bP):rW M' k t':=by
 refine ⟨by rw [e3]; exact Nat.le_trans h.nl hl,by rw [e1]; exact h.kd,by rw [e1,e4]; exact h.ld,?_,fun z v hv=>?_⟩
 ·rcases h.pl with ⟨a,b⟩ | ⟨f,nm,tf,a1,a2,a3,a4,a5⟩
  ·exact .inl ⟨a,e2.trans b⟩
  ·obtain ⟨t2,b1,b2,_⟩:=old _ _ a4;exact .inr ⟨f,nm,t2,a1,e2.trans a2,a3,b1,b2.trans a5⟩
 ·rw [e3] at hv;obtain ⟨c,tc,a1,a2,a3⟩:=h.ch z v hv;obtain ⟨t2,b1,_,b3⟩:=old _ _ a2;exact ⟨c,t2,a1,b1,b3.trans a3⟩
theorem Gd.make (g:Gd M) {f:Nat} {tf:Th} {nm kd mi re tx:Str} (bX:M.ts[f]?=some tf) (gR:tf.kd=("folder" : Str)) (cf:nm.length<=8) (DC:aP (sD tf.aM) (.inr nm)=none) (hk:kd=("folder" : Str)\/kd=("file" : Str)\/kd=("lead" : Str)) (mC:kd=("lead" : Str)->∃ tl,tx=Tx.S tl/\fK tl/\tl.length<=120) :
  Gd { M with ts:=M.ts.set f { tf with aM:=tf.aM++[(nm,M.ts.length)] }++[⟨kd,z,mi,re,tx,[],[(f,nm)]⟩] }:=by
 have hf:=(List.getElem?_eq_some_iff.mp bX).1;have hlen:(M.ts.set f { tf with aM:=tf.aM++[(nm,M.ts.length)] }).length=M.ts.length:=List.length_set;have old:∀ (k:Nat) (t:Th),M.ts[k]?=some t->∃ t':Th,(M.ts.set f { tf with aM:=tf.aM++[(nm,M.ts.length)] }++[(⟨kd,z,mi,re,tx,[],[(f,nm)]⟩:Th)])[k]?=some t'/\t'.kd=t.kd/\t'.bP=t.bP:=fun k t ht=>by
  have hk:=(List.getElem?_eq_some_iff.mp ht).1;rw [List.getElem?_append_left (by rw [hlen]; exact hk)];by_cases e:k=f
  ·subst e;rw [List.getElem?_set_self hk];rw [bX] at ht; cases ht;exact ⟨_,rfl,rfl,rfl⟩
  ·rw [List.getElem?_set_ne (Ne.symm e)];exact ⟨t,ht,rfl,rfl⟩
 have new:(M.ts.set f { tf with aM:=tf.aM++[(nm,M.ts.length)] }++[(⟨kd,z,mi,re,tx,[],[(f,nm)]⟩:Th)])[M.ts.length]?=some ⟨kd,z,mi,re,tx,[],[(f,nm)]⟩:=by
  rw [List.getElem?_append_right (by rw [hlen]; exact Nat.le_refl _),hlen,Nat.sub_self]; rfl
 have ll:M.ts.length<=(M.ts.set f { tf with aM:=tf.aM++[(nm,M.ts.length)] }++[(⟨kd,z,mi,re,tx,[],[(f,nm)]⟩:Th)]).length:=by rw [List.length_append,hlen]; omega
 refine g.lift rfl rfl rfl rfl rfl old fun k t ht=>?_;have ht':(M.ts.set f { tf with aM:=tf.aM++[(nm,M.ts.length)] }++[(⟨kd,z,mi,re,tx,[],[(f,nm)]⟩:Th)])[k]?=some t:=ht;by_cases hk':k < M.ts.length
 ·rw [List.getElem?_append_left (by rw [hlen]; exact hk')] at ht';by_cases e:k=f
  ·subst e;rw [List.getElem?_set_self hk'] at ht';cases ht';have h0:=g.th k tf bX;have h:=h0.lift (M':={ M with ts:=M.ts.set k { tf with aM:=tf.aM++[(nm,M.ts.length)] }++[⟨kd,z,mi,re,tx,[],[(k,nm)]⟩] }) (t':=tf) ll rfl rfl rfl rfl old;refine ⟨by show (tf.aM++[(nm,M.ts.length)]).length<=_; rw [List.length_append,List.length_append,hlen]; have:=h0.nl; simp; omega,h.kd,h.ld,h.pl,fun y v hv=>?_⟩;have e:sD (tf.aM++[(nm,M.ts.length)])=sD tf.aM++[(.inr nm,.int ((M.ts.length:Nat):Int))]:=by unfold sD; rw [List.map_append]; rfl
   have hv':aP (sD (tf.aM++[(nm,M.ts.length)])) (.inr y)=some v:=hv;rw [e,FW _ _ _ _ DC] at hv';split at hv'
   ·rename_i he;cases hv';injection he with he;exact ⟨M.ts.length,_,rfl,new,by rw [he]⟩
   ·exact h.ch y v hv'
  ·rw [List.getElem?_set_ne (Ne.symm e)] at ht';exact (g.th k t ht').lift ll rfl rfl rfl rfl old
 ·have hk2:k < M.ts.length+1:=by
   have:=(List.getElem?_eq_some_iff.mp ht').1;rw [List.length_append,hlen] at this; exact this
  have:k=M.ts.length:=by omega
  subst this;rw [new] at ht';cases ht';obtain ⟨t',e1,e2,_⟩:=old _ _ bX;exact ⟨by show 0<=_; exact Nat.zero_le _,hk,mC,.inr ⟨f,nm,t',hf,rfl,cf,e1,e2.trans gR⟩,fun y v hv=>by cases hv⟩
theorem Gd.BQ (g:Gd M) {k:Nat} {t:Th} {mi re:Str} (ht:M.ts[k]?=some t):Gd { M with ts:=M.ts.set k { t with mi:=mi,re:=re } }:=by
 have old:∀ (j:Nat) (u:Th),M.ts[j]?=some u->∃ u':Th,(M.ts.set k { t with mi:=mi,re:=re })[j]?=some u'/\u'.kd=u.kd/\u'.bP=u.bP:=fun j u hu=>by
  have hj:=(List.getElem?_eq_some_iff.mp hu).1;by_cases e:j=k
  ·subst e;rw [List.getElem?_set_self hj];rw [ht] at hu; cases hu;exact ⟨_,rfl,rfl,rfl⟩
  ·rw [List.getElem?_set_ne (Ne.symm e)];exact ⟨u,hu,rfl,rfl⟩
 refine g.lift rfl rfl rfl rfl rfl old fun j u hu=>?_;have hu':(M.ts.set k { t with mi:=mi,re:=re })[j]?=some u:=hu;have ll:M.ts.length<=(M.ts.set k { t with mi:=mi,re:=re }).length:=by rw [List.length_set]; exact Nat.le_refl _
 by_cases e:j=k
 ·subst e;rw [List.getElem?_set_self (List.getElem?_eq_some_iff.mp ht).1] at hu';cases hu';exact (g.th j t ht).lift ll rfl rfl rfl rfl old
 ·rw [List.getElem?_set_ne (Ne.symm e)] at hu';exact (g.th j u hu').lift ll rfl rfl rfl rfl old
end
theorem ZQ:T.rL.k P w mg base 3 (gZ T.aI T.aO T.aV Ad.t HB):=by
 refine T.rL.F.ok VC (fun _ _ _ _ h=>bW h fun _ _ _=>rfl) fun ah A outer s H vs Q E hr h=>bW h fun x n h=>?_;obtain ⟨AA,L,M,k,a,t,i,rfl,rfl,ha,aF,q⟩:=h;obtain ⟨fs,c,hx,aW,sf⟩:=i.h;obtain ⟨gs,c2,ht,cR,sg⟩:=i.t;have cb:=dW i ha aF;obtain ⟨ks,ho,fW,so⟩:=cb.o;refine ⟨_,((aq (aN (cC (IL (K:=K) rfl rfl) T.Aa BO (aa (ap T.cL T.vY (cX T.bV T.cD.h (gH T) hr.m T.cD.b .nil dE (ad 0) (aa (ad 1) ae))) ae))))).h,?_⟩;refine stI [some (V.ref AA.t),some (V.int (k:Int))] ?_;left;refine (mI ht sg (ib i ha aF ⟨a.th,_,_,.ref a.nm,rfl,ho,(so _).trans rfl,.inr (.inl ⟨a.nm,_,t.aM.map (·.1),rfl,cb.nm,by unfold sD; rw [List.map_map,List.map_map]; rfl,by rw [List.length_map]; exact q.1,q.2⟩)⟩))
theorem JH:T.mU.k P w mg base 3 (gZ T.aI T.aO T.aV Ad.a PL):=by
 refine T.mU.F.ok HA (fun _ _ _ _ h=>bW h fun _ _ _=>rfl) fun ah A outer s H vs Q E hr h=>bW h fun x n h=>?_;obtain ⟨AA,L,M,k,a,t,i,rfl,rfl,ha,aF,q⟩:=h;obtain ⟨fs,c,hx,aW,sf⟩:=i.h;obtain ⟨gs,c2,ht,cR,sg⟩:=i.t;have cb:=dW i ha aF;obtain ⟨ks,ho,fW,so⟩:=cb.o;refine ⟨_,((am (aQ 2 HA.nd (cX T.bV T.cD.h (gH T) hr.m T.cD.b .nil dE (ap T.aK T.eJ (ad 0)) (aa (ad 1) ae)))
 (aq (aN (f8 (aa (ap T.cL T.wG (ad 2)) (aa (ap T.cL T.wz (ad 2)) ae))))))).h,?_⟩
 refine stI [some (V.ref AA.a),some (V.int (k:Int)),none] ?_;refine ai ?_;left;refine ⟨AA.a,_,_,.ref AA.t,rfl,hx,(sf _).trans rfl,AA.t,_,_,rfl,ht,(sg _).trans rfl,ib i ha aF ?_⟩;left;exact (fI ho so rfl (fI ho so rfl ⟨fits (by simp),q⟩))
theorem OA:T.tM.k P w mg base 4 (gZ T.aI T.aO T.aV Ad.a HB):=by
 refine T.tM.F.ok PY (fun _ _ _ _ h=>bW h fun _ _ _=>rfl) fun ah A outer s H vs Q E hr h=>bW h fun x n h=>?_;obtain ⟨AA,L,M,k,a,t,i,rfl,rfl,ha,aF,q⟩:=h;obtain ⟨fs,c,hx,aW,sf⟩:=i.h;obtain ⟨gs,c2,ht,cR,sg⟩:=i.t;have cb:=dW i ha aF;obtain ⟨ks,ho,fW,so⟩:=cb.o;refine ⟨_,((aq (aN (bf T.bV T.rL.h (ZQ T) hr.m T.rL.b .nil aw (ap T.aK T.eJ (ad 0)) (aa (ad 1) ae))))).h,?_⟩;refine stI [some (V.ref AA.a),some (V.int (k:Int))] ?_;left;exact ⟨AA.a,_,_,.ref AA.t,rfl,hx,(sf _).trans rfl,AA.t,_,_,rfl,ht,(sg _).trans rfl,AA,L,M,k,a,t,i,rfl,rfl,ha,aF,q⟩
def Y0 (CH CS CT:Addr):Sp:=fZ fun x H Q _=>X3 fun A L M=>A4 (aJ CH CS CT H A L M) (A.a=x) (M.ro.length < 64) (∀ l,H l=none->Q (.ref l) (upd H l (.lst ((di (M.ro.map (·.1))).map V.str))))
theorem Vb:T.sT.k P w mg base 1 (Y0 T.aI T.aO T.aV):=by
 refine T.sT.F.ok PJ (fun _ _ _ _ h=>cI h fun _ _=>rfl) fun ah A outer s H vs Q E hr h=>cI h fun x h=>?_;obtain ⟨AA,L,M,i,rfl,hl,q⟩:=h;obtain ⟨fs,c,hx,aW,sf⟩:=i.h;refine ⟨_,((aq (aN (cC (IL (K:=K) rfl rfl) T.Aa BO (aa (ap T.aK T.o9 (ad 0)) ae))))).h,?_⟩;refine stI [some (V.ref AA.a)] ?_;left;exact ⟨AA.a,_,_,.ref AA.ro,rfl,hx,(sf _).trans rfl,.inr (.inl ⟨AA.ro,_,M.ro.map (·.1),rfl,i.ro,by unfold sD; rw [List.map_map,List.map_map]; rfl,by rw [List.length_map]; exact hl,q⟩)⟩
abbrev CJ:jE:=fun _ _ _ _ _ t H Q=>(t.bP=[]/\∀ l,H l=none->Q (.ref l) (upd H l (.lst [])))\/∃ f z,t.bP=[(f,z)]/\∀ y l,H y=some (.tup [.int (f:Nat),.str z])->H l=none->Q (.ref l) (upd H l (.lst [.ref y]))
theorem VW:T.sr.k P w mg base 3 (gZ T.aI T.aO T.aV Ad.t CJ):=by
 refine T.sr.F.ok XW (fun _ _ _ _ h=>bW h fun _ _ _=>rfl) fun ah A outer s H vs Q E hr h=>bW h fun x n h=>?_;obtain ⟨AA,L,M,k,a,t,i,rfl,rfl,ha,aF,q⟩:=h;obtain ⟨fs,c,hx,aW,sf⟩:=i.h;obtain ⟨gs,c2,ht,cR,sg⟩:=i.t;have cb:=dW i ha aF;obtain ⟨ks,ho,fW,so⟩:=cb.o;refine ⟨_,((aq (aN (cC (Vm rfl) T.Aa BO (aa (ap T.cL T.sE (cX T.bV T.cD.h (gH T) hr.m T.cD.b .nil dE (ad 0) (aa (ad 1) ae))) ae))))).h,?_⟩;refine stI [some (V.ref AA.t),some (V.int (k:Int))] ?_;left;refine (mI ht sg (ib i ha aF ⟨a.th,_,_,.ref a.pl,rfl,ho,(so _).trans rfl,a.pl,_,rfl,cb.pl,?_⟩));rcases q with ⟨e,q⟩ | ⟨f,z,e,q⟩
 ·rw [e]; exact .inl ⟨rfl,q⟩
 ·rw [e]; exact .inr ⟨_,_,rfl,q⟩
theorem Rv:T.rK.k P w mg base 4 (gZ T.aI T.aO T.aV Ad.a CJ):=by
 refine T.rK.F.ok OU (fun _ _ _ _ h=>bW h fun _ _ _=>rfl) fun ah A outer s H vs Q E hr h=>bW h fun x n h=>?_;obtain ⟨AA,L,M,k,a,t,i,rfl,rfl,ha,aF,q⟩:=h;obtain ⟨fs,c,hx,aW,sf⟩:=i.h;obtain ⟨gs,c2,ht,cR,sg⟩:=i.t;have cb:=dW i ha aF;obtain ⟨ks,ho,fW,so⟩:=cb.o;refine ⟨_,((aq (aN (bf T.bV T.sr.h (VW T) hr.m T.sr.b .nil aw (ap T.aK T.eJ (ad 0)) (aa (ad 1) ae))))).h,?_⟩;refine stI [some (V.ref AA.a),some (V.int (k:Int))] ?_;left;exact ⟨AA.a,_,_,.ref AA.t,rfl,hx,(sf _).trans rfl,AA.t,_,_,rfl,ht,(sg _).trans rfl,AA,L,M,k,a,t,i,rfl,rfl,ha,aF,q⟩
def RC:Sp:=FH fun _ _ H Q _=>∀ r:Int,0<=r->Q (.int r) H
theorem QF:T.oQ.k P w base 1 RC:=by
 refine T.oQ.F.ok BP (fun _ _ _ _ h=>KP h fun _ _ _=>rfl) fun ah A outer s H vs Q E hr h=>KP h fun y z h=>?_;refine ⟨_,((am (aQ 2 BP.nd (dl m5 (dl uK (dl gD (dl gD (ad 0) (dl uK bi (ad 1))) bi) bi) bi))
 (am (aQ 2 BP.nd (dl m5 (dl uK (ad 2) (dl gD (dl Av (ad 2) bi) bi)) bi))
 (aq (aN (dl m5 (dl uK (ad 2) (dl gD (dl Av (ad 2) bi) bi)) bi)))))).h,?_⟩
 refine stI [some (.int y),some (.int z),none] ?_;refine ai ?_;left;refine ⟨.inl ⟨by decide,by decide⟩,.inr ⟨by decide,by decide⟩,by decide,ai ?_⟩;left;generalize hm:(y+7919 * z+1) * 48271 % 2147483647=m;have m0:0<=m:=by rw [<- hm]; exact Int.emod_nonneg _ (by decide)
 have m1:m < 2147483647:=by rw [<- hm]; exact Int.emod_lt_of_pos _ (by decide)
 refine ⟨⟨by decide,by decide⟩,.inl ⟨by omega,by omega⟩,by decide,?_⟩;left;generalize hn:m * (m / 1009+69621) % 2147483647=n;have n0:0<=n:=by rw [<- hn]; exact Int.emod_nonneg _ (by decide)
 have n1:n < 2147483647:=by rw [<- hn]; exact Int.emod_lt_of_pos _ (by decide)
 refine ⟨⟨by decide,by decide⟩,.inl ⟨by omega,by omega⟩,by decide,?_⟩;exact h _ (Int.emod_nonneg _ (by decide))
def RH:Sp:=Jp fun _ H Q _=>∀ l a b c,H l=none->Q (.ref l) (upd H l (.lst [.int a,.int b,.int c]))
theorem K7:T.kz.k P w base 1 RH:=by
 refine T.kz.F.ok YY (fun _ _ _ _ h=>Fx h fun _ _=>rfl) fun ah A outer s H vs Q E hr h=>Fx h fun y h=>?_;refine ⟨_,((am (bB (bY vP (ad 0) (dl Ua bi bi)) (aq (aN (db (aa bi (aa (dl m5 (ad 0) bi) (aa bi ae)))))) cr)
 (aq (aN (db (aa (ad 0) (aa (dl m5 (ad 0) bi) (aa bi ae)))))))).h,?_⟩
 refine stI [some (.int y)] ?_;refine ai ?_;left;refine ⟨by constructor <;> decide,nI (fun _=>⟨by decide,fits (by simp),fun p hp=>h _ _ _ _ hp⟩) (fun _=>⟨by decide,fits (by simp),fun p hp=>h _ _ _ _ hp⟩)⟩
def zt:Sp:=jg fun st b H Q _=>X3 fun x y z=>A4 (H st=some (.lst [.int x,.int y,.int z])) (0 < b) (b<=1000) (∀ d x' y' z' H',0<=d->d < b->H' st=some (.lst [.int x',.int y',.int z'])->cj st H H'->Q (.int d) H')
theorem gA:T.bN.k P w base 2 zt:=by
 refine T.bN.F.ok Fv (fun _ _ _ _ h=>bW h fun _ _ _=>rfl) fun ah A outer s H vs Q E hr h=>bW h fun st b h=>?_;obtain ⟨x,y,z,h1,mv,qc,q⟩:=h;refine ⟨_,((am (bB (bY AN (ci (bG (K:=K) rfl) (ad 0) bi) bi) (am (aQ 2 Fv.nd (dl m5 (ci (bG (K:=K) rfl) (ad 0) bi) (ad 1)))
 (am (qV (dl Av (ci (bG (K:=K) rfl) (ad 0) bi) (ad 1)) (u9 (ad 0) bi vX))
 (aq (aN (ad 2))))) cr)
 (am (qV (dl gD (ci (bG (K:=K) rfl) (ad 0) bi) bi) (u9 (ad 0) bi vX))
 (aq (aN (dl m5 (bv (QF T) hr.m T.oQ.m T.oQ.F.kp T.oQ.b .nil aw (aa (ci (bG (K:=K) rfl) (ad 0) bi) (aa (ci (bG (K:=K) rfl) (ad 0) bi) ae))) (ad 1))))))).h,?_⟩
 refine stI [some (.ref st),some (.int b),none] ?_;refine ai ?_;left;simp only [bS,h1,gX];refine nI (fun _=>?_) (fun _=>?_)
 ·refine ai ?_;left;simp only [bS,h1,gX];refine ⟨mv,ai ?_⟩;left;simp only [bS,h1,gX,List.length_cons,Sj,List.set_cons_zero];refine ⟨⟨mv,by omega⟩,?_⟩;exact q _ _ _ _ _ (Int.emod_nonneg _ (by omega)) (Int.emod_lt_of_pos _ mv) ax cj.upd
 ·refine ai ?_;left;simp only [bS,h1,IB,List.length_cons,List.length_nil,PQ,List.set_cons_zero,List.set_cons_succ];left;simp only [bS,ax,wj,IB];intro r r0;refine ⟨mv,?_⟩;exact q _ _ _ _ _ (Int.emod_nonneg _ (by omega)) (Int.emod_lt_of_pos _ mv) ax cj.upd
def Dr (st:Addr) (H:Hp):Prop:=∃ x y z:Int,H st=some (.lst [.int x,.int y,.int z])
theorem Dr.same {st:Addr} {H H':Hp} (h:Dr st H) (s:ao H H'):Dr st H':=let ⟨x,y,z,e⟩:=h; ⟨x,y,z,s _ _ e⟩
theorem Dr.ne {st p:Addr} {H:Hp} (h:Dr st H) (hp:H p=none):p≠st:=let ⟨x,y,z,e⟩:=h; fun q=>by rw [q,e] at hp; cases hp
theorem oy {st:Addr} {b:Int} {H:Hp} {Q:VK} {E:XK} (h:Dr st H) (mv:0 < b) (qc:b<=1000) (q:∀ d H',0<=d->d < b->Dr st H'->cj st H H'->Q (.int d) H'):zt [.ref st,.int b] H Q E:=by
 obtain ⟨x,y,z,e⟩:=h;exact ⟨x,y,z,e,mv,qc,fun d x' y' z' H' d0 d1 e' k=>q d H' d0 d1 ⟨x',y',z',e'⟩ k⟩
theorem pick {xs:List V} {d:Int} (h0:0<=d) (h1:d < xs.length):∃ v∈xs,cO xs d=some v:=by
 obtain ⟨n,rfl⟩:=Int.eq_ofNat_of_zero_le h0;have hn:n < xs.length:=by omega
 exact ⟨xs[n],List.getElem_mem hn,jq (List.getElem?_eq_getElem hn)⟩
theorem ji {H:Hp} {st:Addr} {xs:List V} {Q:VK} {E:XK} {b:Int} (h:Dr st H) (hb:b=xs.length) (hn:xs.length<=1000) (h0:0 < xs.length) (q:∀ v H',v∈xs->Dr st H'->cj st H H'->Q v H') :
  xs.length<=sizeLine/\∀ p,H p=none->zt [.ref st,.int b] (upd H p (.lst xs)) (fun y H2=>pQ K (.ref p) y H2 Q) E:=by
 refine ⟨fits hn,fun p hp=>?_⟩;have s1:=ao.upd (o:=.lst xs) hp;have b1:upd H p (.lst xs) p=some (.lst xs):=ax;have np:=h.ne hp;generalize upd H p (.lst xs)=H1 at s1 b1 ⊢;refine oy (h.same s1) (by omega) (by omega) fun d H2 d0 d1 h2 k2=>?_;obtain ⟨v,hv,e⟩:=pick (xs:=xs) d0 (by omega);simp only [pQ,bS,k2 _ _ np b1,e];exact q v H2 hv h2 ((s1.keep st).trans k2)
def Rq:Sp:=fZ fun st H Q _=>Dr st H/\∀ nm H',cB nm=true->Dr st H'->cj st H H'->Q (.str (Tx.S nm)) H'
theorem Qf:T.oG.k P w base 3 Rq:=by
 refine T.oG.F.ok RK (fun _ _ _ _ h=>cI h fun _ _=>rfl) fun ah A outer s H vs Q E hr h=>cI h fun st h=>?_;obtain ⟨aR,q⟩:=h;refine bK (b:=aS yI) ((aq (aN (ci (bG (K:=K) rfl) (db (aa bn (aa bn (aa bn (aa bn (aa bn (aa bn (aa bn (aa bn (aa bn ae)))))))))) (bv (gA T) hr.m T.bN.m T.bN.F.kp T.bN.b .nil aw (aa (ad 0) (aa bi ae))))))) ?_;refine stI [some (V.ref st)] ?_;left;refine ji aR rfl (by simp) (by simp) fun v H1 hv h1 k1=>?_;obtain ⟨nm,hn,rfl⟩:∃ nm,cB nm=true/\v=V.str (Tx.S nm):=by
  simp only [List.mem_cons,List.not_mem_nil,or_false] at hv;rcases hv with rfl | rfl | rfl | rfl | rfl | rfl | rfl | rfl | rfl
  ·exact ⟨[97],by decide +kernel,by decide +kernel⟩
  ·exact ⟨[98],by decide +kernel,by decide +kernel⟩
  ·exact ⟨[97,98],by decide +kernel,by decide +kernel⟩
  ·exact ⟨[97,98,99,100,101,102,103,104],by decide +kernel,by decide +kernel⟩
  ·exact ⟨[46,46],by decide +kernel,by decide +kernel⟩
  ·exact ⟨[46],by decide +kernel,by decide +kernel⟩
  ·exact ⟨[99],by decide +kernel,by decide +kernel⟩
  ·exact ⟨[97],by decide +kernel,by decide +kernel⟩
  ·exact ⟨[98],by decide +kernel,by decide +kernel⟩
 exact q nm H1 hn h1 k1
def joinR (n:Nat):List (List Nat)->List Nat
 | []=>[]
 | [x]=>x
 | x::y::r=>x++List.replicate n 47++joinR n (y::r)
theorem oN (n:Nat):∀ ps:List (List Nat),Str.join (Tx.S (List.replicate n 47)) (ps.map Tx.S)=Tx.S (joinR n ps)
 | []=>rfl
 | [x]=>rfl
 | x::y::r=>by
  have ih:=oN n (y::r);show Tx.S x++Tx.S (List.replicate n 47)++Str.join (Tx.S (List.replicate n 47)) ((y::r).map Tx.S)=Tx.S (x++List.replicate n 47++joinR n (y::r));rw [ih,Tx.jZ,Tx.jZ]
theorem yp (n:Nat):∀ ps:List (List Nat),(∀ w∈ps,47 ∉ w/\w≠[])->Tx.words 47 (joinR (n+1) ps)=ps
 | [],_=>rfl
 | [x],h=>Tx.GV 47 x (h x (by simp)).1 (h x (by simp)).2
 | x::y::r,h=>by
  have ih:=yp n (y::r) (fun w hw=>h w (List.mem_cons_of_mem _ hw));show Tx.words 47 (x++List.replicate (n+1) 47++joinR (n+1) (y::r))=_;rw [List.replicate_succ,List.append_assoc,List.cons_append,Tx.z9,Tx.Kl,ih,Tx.GV 47 x (h x (by simp)).1 (h x (by simp)).2];rfl
theorem KJ (n k:Nat):∀ ps:List (List Nat),(∀ w∈ps,w.length<=k)->(joinR n ps).length<=ps.length * (k+n)
 | [],_=>Nat.zero_le _
 | [x],h=>by
  have:=h x (by simp);show x.length<=1 * (k+n);omega
 | x::y::r,h=>by
  have ih:=KJ n k (y::r) (fun w hw=>h w (List.mem_cons_of_mem _ hw));have:=h x (by simp);show (x++List.replicate n 47++joinR n (y::r)).length<=((y::r).length+1) * (k+n);rw [List.length_append,List.length_append,List.length_replicate,Nat.add_mul,Nat.one_mul];omega
theorem Ql {t:List Nat} {w:List Nat} (h:w∈Tx.words 47 t):1<=t.length:=by
 cases t with
 | nil=>cases h
 | cons a r=>simp
structure Ao (t:List Nat):Prop where
 l1:1<=t.length
 l2:t.length<=80
 all:(Tx.words 47 t).all cB=true
 n:(Tx.words 47 t).length<=6
def Ze:Sp:=jg fun st n H Q _=>A4 (Dr st H) (0<=n) (n<=6) (∀ t H',Ao t->Dr st H'->cj st H H'->Q (.str (Tx.S t)) H')
theorem vH:T.fP.k P w base 4 Ze:=by
 refine T.fP.F.ok tu (fun _ _ _ _ h=>bW h fun _ _ _=>rfl) fun ah A outer s H vs Q E hr h=>bW h fun st n h=>?_;obtain ⟨aR,hn0,MW,q⟩:=h;refine bK (b:=aS xZ) ((am (aQ 2 tu.nd (bv (gA T) hr.m T.bN.m T.bN.F.kp T.bN.b .nil aw (aa (ad 0) (aa (dl gD (ad 1) bi) ae))))
 (am (AH 3 rfl tu.nd (TN:=["_law_k"]) (caps:=["_law_source_here"]) (ix:=[0]) (zj T.BD (aa (ad 2) ae)) (fun _ _ _ _=>by exact zx) (fun _ _ _ _=>by exact (fD 0 (show List.Nodup (["_law_k","_law_source_here"]:List Str) by decide))) (fun _ _ _ _=>by exact (bv (Qf T) hr.m T.oG.m T.oG.F.kp T.oG.b .nil aw (aa (ad 1) ae))) (.of rfl (by exact ⟨rfl,trivial⟩) (by walk_at "c") rfl (by exact ⟨⟨rfl,rfl,rfl,rfl⟩,trivial⟩)))
 (am (aQ 4 tu.nd (ci (bG (K:=K) rfl) (db (aa bn (aa bn (aa bn (aa bn ae))))) (bv (gA T) hr.m T.bN.m T.bN.F.kp T.bN.b .nil aw (aa (ad 0) (aa bi ae)))))
 (am (aQ 5 tu.nd (dl gD (ci (bG (K:=K) rfl) (db (aa bn (aa bn ae))) (ye ZG T.Gq Fd (aa (kq (em iE (bv (gA T) hr.m T.bN.m T.bN.F.kp T.bN.b .nil aw (aa (ad 0) (aa bi ae))) bi) (gl (em AN (ad 2) bi))) ae))) (tP PySem.F.slot_str_join PySem.F.type_str_join (Fn (K:=K) rfl) (ad 4) (aa (ad 3) ae))))
 (aq (aN (dl gD (ad 5) (ci (bG (K:=K) rfl) (db (aa bn (aa bn (aa bn (aa bn (aa bn (aa bn ae))))))) (bv (gA T) hr.m T.bN.m T.bN.F.kp T.bN.b .nil aw (aa (ad 0) (aa bi ae)))))))))))) ?_
 refine stI [some (V.ref st),some (V.int n),none,none,none,none] ?_;refine ai ?_;left;refine oy aR (by omega) (by omega) fun d H1 d0 d1 h1 k1=>?_;obtain ⟨m,rfl⟩:=Int.eq_ofNat_of_zero_le d0;refine ai ?_;left;refine ⟨[.ref st],⟨rfl,fun i j v h1 h2=>?_⟩,⟨by omega,by omega⟩,Pa m (fun i ys H'=>cj st H H'/\Dr st H'/\∃ ps:List (List Nat),ys=PV ps/\ps.all cB=true/\ps.length=i) (by omega) ⟨k1,h1,[],rfl,rfl,rfl⟩ (fun i ys H1 h=>?_) (fun k ys H2 hk h R r=>?_) (fun ys H2 l h hl=>?_)⟩
 ·match i,h1,h2 with
  | 0,h1,h2=>cases h1; cases h2; rfl
 ·obtain ⟨_,_,ps,rfl,_,e⟩:=h;rw [<- e]; simp [PV]
 ·obtain ⟨k2,d2,ps,rfl,hp,e⟩:=h;refine ⟨d2,fun nm H3 hn d3 k3=>r _ _ ⟨k2.trans k3,d3,ps++[nm],by simp [PV],by rw [List.all_append,hp]; simp [hn],by rw [List.length_append,e]; rfl⟩⟩
 ·obtain ⟨k2,d2,ps,rfl,gk,e⟩:=h;have s3:=ao.upd (o:=.lst (PV ps)) hl;have b3:upd H2 l (.lst (PV ps)) l=some (.lst (PV ps)):=ax;have nl:=d2.ne hl;have d3:=d2.same s3;have k3:=k2.trans (s3.keep st);generalize upd H2 l (.lst (PV ps))=H3 at s3 b3 d3 k3 ⊢;have hw:∀ w'∈ps,47 ∉ w'/\w'≠[]:=fun w' hw'=>let q:=o7 (List.all_eq_true.mp gk w' hw'); ⟨q.1,q.2.1⟩
  have h8:∀ w'∈ps,w'.length<=8:=fun w' hw'=>(o7 (List.all_eq_true.mp gk w' hw')).2.2;have bt:ps.length<=6:=by omega
  refine ai ?_;left;refine ji d3 rfl (by simp) (by simp) fun v H4 hv d4 k4=>?_;obtain ⟨j,hj,rfl⟩:∃ j:Nat,j<=1/\v=V.str (Tx.S (List.replicate (j+1) 47)):=by
   simp only [List.mem_cons,List.not_mem_nil,or_false] at hv;rcases hv with rfl | rfl | rfl | rfl
   ·exact ⟨0,by decide,by decide +kernel⟩
   ·exact ⟨0,by decide,by decide +kernel⟩
   ·exact ⟨0,by decide,by decide +kernel⟩
   ·exact ⟨1,by decide,by decide +kernel⟩
  have b4:=k4 _ _ nl b3;refine ai ?_;left;have jx:Str.ofString "/" = Tx.S [47]:=by decide +kernel
  have e0:Str.ofString "" = Tx.S []:=by decide +kernel
  refine ⟨fits (by simp),fun p hp=>?_⟩;have s5:=ao.upd (o:=.lst [V.str (Str.ofString "/"),V.str (Str.ofString "")]) hp;have b5:upd H4 p (.lst [V.str (Str.ofString "/"),V.str (Str.ofString "")]) p=some (.lst [V.str (Str.ofString "/"),V.str (Str.ofString "")]):=ax;have np:=d4.ne hp;generalize upd H4 p (.lst [V.str (Str.ofString "/"),V.str (Str.ofString "")])=H5 at s5 b5 ⊢;refine oy (d4.same s5) (by decide) (by decide) fun d H6 _ _ d6 k6=>?_;have b6:=k6 _ _ np b5;have EK:=k6 _ _ nl (s5 _ _ b4);have k36:=((k3.trans k4).trans (s5.keep st)).trans k6;have DB:=KJ (j+1) 8 ps h8;have hjb:(joinR (j+1) ps).length<=60:=Nat.le_trans DB (by have:ps.length * (8+(j+1))<=6 * 10:=Nat.mul_le_mul bt (by omega); exact this);have Dn:List.foldl (fun n z=>n+z.length+(Tx.S (List.replicate (j+1) 47)).length) 0 (ps.map Tx.S)<=sizeLine:=by
   have:=yh (Tx.S (List.replicate (j+1) 47)).length (ps.map Tx.S) 0 (fun s hs=>by
    obtain ⟨x,hx,rfl⟩:=List.mem_map.mp hs;rw [Tx.cY]; exact h8 x hx)
   refine fits (Nat.le_trans this ?_);rw [Tx.cY,List.length_replicate,List.length_map];have:(8+(j+1)) * ps.length<=10 * 6:=Nat.mul_le_mul (by omega) bt;omega
  have ends:∀ {v:V},v∈[V.str (Str.ofString ""),V.str (Str.ofString ""),V.str (Str.ofString ""),V.str (Str.ofString ""),V.str (Str.ofString ""),V.str (Str.ofString "/")]->∃ sl:List Nat,(sl=[]\/sl=[47])/\v=V.str (Tx.S sl):=fun hv=>by
   simp only [List.mem_cons,List.not_mem_nil,or_false] at hv;rcases hv with rfl | rfl | rfl | rfl | rfl | rfl
   ·exact ⟨[],.inl rfl,by rw [e0]⟩
   ·exact ⟨[],.inl rfl,by rw [e0]⟩
   ·exact ⟨[],.inl rfl,by rw [e0]⟩
   ·exact ⟨[],.inl rfl,by rw [e0]⟩
   ·exact ⟨[],.inl rfl,by rw [e0]⟩
   ·exact ⟨[47],.inr rfl,by rw [jx]⟩
  have EO:∀ (pre:List Nat),pre.length<=1->∀ {z:Str},z=Tx.S pre->z.length+(Str.join (Tx.S (List.replicate (j+1) 47)) (ps.map Tx.S)).length<=sizeLine:=fun pre hp z e=>by
   rw [e,oN,Tx.cY,Tx.cY]; exact fits (by omega)
  have C7:∀ (pre sl:List Nat),pre.length<=1->(sl=[]\/sl=[47])->∀ {z:Str},z=Tx.S pre->(z++Str.join (Tx.S (List.replicate (j+1) 47)) (ps.map Tx.S)).length+(Tx.S sl).length<=sizeLine:=fun pre sl hp hs z e=>by
   have:sl.length<=1:=by rcases hs with rfl | rfl <;> simp
   rw [e,oN,Tx.jZ,Tx.cY,Tx.cY,List.length_append]; exact fits (by omega)
  have fin:∀ (pre sl:List Nat) H7,(pre=[47]\/pre=[]/\0 < m)->(sl=[]\/sl=[47])->Dr st H7->cj st H6 H7->Q (V.str (Tx.S (pre++joinR (j+1) ps++sl))) H7:=fun pre sl H7 mm gN d7 k7=>by
   have xc:Tx.words 47 (pre++joinR (j+1) ps)=ps:=by
    rcases mm with rfl | ⟨rfl,_⟩
    ·exact (Tx.E7 47 _).trans (yp j ps hw)
    ·exact yp j ps hw
   have EF:Tx.words 47 (pre++joinR (j+1) ps++sl)=ps:=by
    rcases gN with rfl | rfl
    ·rw [List.append_nil]; exact xc
    ·exact (Tx.z9 47 _ []).trans (by rw [xc]; exact List.append_nil _)
   have xx:pre.length<=1:=by rcases mm with rfl | ⟨rfl,_⟩ <;> simp
   have Dd:sl.length<=1:=by rcases gN with rfl | rfl <;> simp
   refine q _ _ ⟨?_,by rw [List.length_append,List.length_append]; omega,by rw [EF]; exact gk,by rw [EF]; exact bt⟩ d7 (k36.trans k7);rcases mm with rfl | ⟨rfl,hm⟩
   ·simp
   ·cases Dp:ps with
    | nil=>rw [Dp] at e; simp at e; omega
    | cons x r=>exact Ql (w:=x) (by rw [<- Dp,EF,Dp]; simp)
  dsimp only;refine nI (fun _=>?_) (fun _=>?_)
  ·simp only [bS,b6];by_cases hm:0 < m
   ·rw [decide_eq_true (by omega:(0:Int) < (m:Int)),if_pos rfl,show cO [V.str (Str.ofString "/"),V.str (Str.ofString "")] 1=some (V.str (Str.ofString "")) from jq (j:=1) rfl];refine ⟨_,aC.of EK,ps.map Tx.S,rfl,Dn,EO [] (by simp) e0,ji d6 rfl (by simp) (by simp) fun v H7 hv d7 k7=>?_⟩;obtain ⟨sl,gN,rfl⟩:=ends hv;have:=fin [] sl H7 (.inr ⟨rfl,hm⟩) gN d7 k7;rw [<- Tx.jZ,<- Tx.jZ,<- oN,<- e0] at this;exact ⟨C7 [] sl (by simp) gN e0,this⟩
   ·rw [decide_eq_false (by omega:¬ (0:Int) < (m:Int)),if_neg (by nofun),show cO [V.str (Str.ofString "/"),V.str (Str.ofString "")] 0=some (V.str (Str.ofString "/")) from jq (j:=0) rfl];refine ⟨_,aC.of EK,ps.map Tx.S,rfl,Dn,EO [47] (by simp) jx,ji d6 rfl (by simp) (by simp) fun v H7 hv d7 k7=>?_⟩;obtain ⟨sl,gN,rfl⟩:=ends hv;have:=fin [47] sl H7 (.inl rfl) gN d7 k7;rw [<- Tx.jZ,<- Tx.jZ,<- oN,<- jx] at this;exact ⟨C7 [47] sl (by simp) gN jx,this⟩
  ·simp only [bS,b6,show cO [V.str (Str.ofString "/"),V.str (Str.ofString "")] 0=some (V.str (Str.ofString "/")) from jq (j:=0) rfl];refine ⟨_,aC.of EK,ps.map Tx.S,rfl,Dn,EO [47] (by simp) jx,ji d6 rfl (by simp) (by simp) fun v H7 hv d7 k7=>?_⟩;obtain ⟨sl,gN,rfl⟩:=ends hv;have:=fin [47] sl H7 (.inl rfl) gN d7 k7;rw [<- Tx.jZ,<- Tx.jZ,<- oN,<- jx] at this;exact ⟨C7 [47] sl (by simp) gN jx,this⟩
def j3 (H:Hp) (p:Addr):Res->Prop
 | .found k ns=>H p=some (.tup [.str "found",.int (k:Int),.str (Ac ns)])
 | .failed k y=>H p=some (.tup [.str "failed",.int (k:Int),.str y])
 | .ring ns=>∃ rl,H p=some (.tup [.str "ring",.ref rl])/\H rl=some (.lst (nV ns))
theorem j3.same {H H':Hp} {p:Addr} (s:ao H H'):∀ {r:Res},j3 H p r->j3 H' p r
 | .found _ _,e=>s _ _ e
 | .failed _ _,e=>s _ _ e
 | .ring _,⟨l,e,f⟩=>⟨l,s _ _ e,s _ _ f⟩
def YX (N:Cn):Sp:=fZ fun fd H Q _=>X1 fun r=>A2 (gF N H fd r) (∀ p H',ao H H'->H p=none->j3 H' p r->Q (.ref p) H')
theorem FU:T.jH.k P w base 1 (YX T.cn):=by
 refine T.jH.F.ok TY (fun _ _ _ _ h=>cI h fun _ _=>rfl) fun ah A outer s H vs Q E hr h=>cI h fun fd h=>?_;obtain ⟨e,bc,q⟩:=h;refine bK (b:=aS yO) ((am (bB (cN (cC (t9 (K:=K) rfl) T.gb gf (aa (ad 0) (aa (dL (.ref T.dv) T.vN rfl) ae)))) (aq (aN (f8 (aa bn (aa (ap T.gU T.tY (ad 0)) (aa (ap T.gU T.GO (ad 0)) ae)))))) cr)
 (am (bB (cN (cC (t9 (K:=K) rfl) T.gb gf (aa (ad 0) (aa (dL (.ref T.dQ) T.yj rfl) ae)))) (aq (aN (f8 (aa bn (aa (ap T.iH T.yl (ad 0)) (aa (ap T.iH T.AB (ad 0)) ae)))))) cr)
 (aq (aN (f8 (aa bn (aa (ap T.m3 T.JS (ad 0)) ae)))))))) ?_
 refine stI [some (V.ref fd)] ?_;refine ai ?_;left;cases e with
 | found k ns =>
  obtain ⟨bh,bc⟩:=bc;refine ⟨_,_,_,.of (.ins bc T.gU T.q1 T.q2 T.q3 T.q4),.cls T.q5,bE ?_⟩;refine ⟨fd,_,_,_,rfl,bc,rfl,fd,_,_,_,rfl,bc,rfl,fits (by simp),fun p hp=>?_⟩;exact q p _ (ao.upd hp) hp ax
 | failed k y =>
  obtain ⟨bh,bc⟩:=bc;refine ⟨_,_,_,.of (.ins bc T.iH T.q6 T.q2 T.q3 T.q7),.cls T.q8,bb (ai ?_)⟩;left;refine ⟨_,_,_,.of (.ins bc T.iH T.q6 T.q2 T.q3 T.q7),.cls T.IX,bE ?_⟩;refine ⟨fd,_,_,_,rfl,bc,rfl,fd,_,_,_,rfl,bc,rfl,fits (by simp),fun p hp=>?_⟩;exact q p _ (ao.upd hp) hp ax
 | ring ns =>
  obtain ⟨bh,rl,bc,dq⟩:=bc;refine ⟨_,_,_,.of (.ins bc T.m3 T.rT T.q2 T.q3 T.sy),.cls T.AZ,bb (ai ?_)⟩;left;refine ⟨_,_,_,.of (.ins bc T.m3 T.rT T.q2 T.q3 T.sy),.cls T.K6,bb ?_⟩;left;refine ⟨fd,_,_,_,rfl,bc,rfl,fits (by simp),fun p hp=>?_⟩;exact q p _ (ao.upd hp) hp ⟨rl,ax,(ao.upd hp) _ _ dq⟩
theorem DE.flat {K:PySem.W.Frag} {H:Hp} {v:V} (h:cx v=true):∀ n,DE K H n v v
 | 0=>⟨h,h,HD h⟩
 | _+1=>.inl ⟨h,h,HD h⟩
theorem DE.kG {K:PySem.W.Frag} {H:Hp} {xs:List V} {n:Nat} (h:xs.all cx=true):∀ i (h1:i < xs.length) (h2:i < xs.length),DE K H n xs[i] xs[i]:=fun i h1 _=>DE.flat (List.all_eq_true.mp h _ (List.getElem_mem h1)) n
theorem Xm (ns:List Nat):(nV ns).all cx=true:=by
 rw [List.all_eq_true];intro v hv;obtain ⟨k,_,rfl⟩:=List.mem_map.mp hv;rfl
theorem j3.de {K:PySem.W.Frag} {H:Hp} {p p2:Addr} {n:Nat}:∀ {r:Res},j3 H p r->j3 H p2 r->DE K H (n+2) (.ref p) (.ref p2)
 | .found k ns,e,f=>.inr ⟨_,_,_,_,rfl,rfl,.inr ⟨bC.of e,bC.of f⟩,rfl,DE.kG rfl⟩
 | .failed k y,e,f=>.inr ⟨_,_,_,_,rfl,rfl,.inr ⟨bC.of e,bC.of f⟩,rfl,DE.kG rfl⟩
 | .ring ns,⟨l,e,el⟩,⟨l2,f,fl⟩=>.inr ⟨_,_,_,_,rfl,rfl,.inr ⟨bC.of e,bC.of f⟩,rfl,fun i h1 h2=>by
   match i,h1 with
   | 0,_=>exact DE.flat (v:=.str "ring") rfl _
   | 1,_=>exact .inr ⟨l,l2,_,_,rfl,rfl,.inl ⟨aC.of el,aC.of fl⟩,rfl,DE.kG (Xm ns)⟩⟩
def ZC (N:Cn):Sp:=tF fun f d H Q _=>X3 fun fd p r=>A5 (H f=some (.tup [.str "way",.ref fd])) (gF N H fd r) (H d=some (.tup [.str "way",.ref p])) (j3 H p r) (∀ H',ao H H'->Q (.bl true) H')
theorem Ol:T.pA.k P w base 2 (ZC T.cn):=by
 refine T.pA.F.ok S3 (fun _ _ _ _ h=>lF h fun _ _ _=>rfl) fun ah A outer s H vs Q E hr h=>lF h fun f d h=>?_;obtain ⟨fd,p,r,hf,hr',hd,ht,q⟩:=h;refine bK (b:=aS zI) ((am (bB (bY iE (ci (bG (K:=K) rfl) (ad 0) bi) bn) (aq (aN (em (ko (K:=K) 4 rfl hr.jG) (ad 1) (f8 (aa bn (aa (bv (FU T) hr.m T.jH.m T.jH.F.kp T.jH.b .nil aw (aa (ci (bG (K:=K) rfl) (ad 0) bi) ae)) ae)))))) cr)
 (aq (aN (em (ko (K:=K) 4 rfl hr.jG) (ad 0) (ad 1)))))) ?_
 refine stI [some (V.ref f),some (V.ref d)] ?_;refine ai ?_;left;simp only [bS,hf,gX];refine eB (decide_eq_true (by trivial)) ?_;rw [show cO [V.str (Str.ofString "way"),V.ref fd] 1=some (V.ref fd) from jq (j:=1) rfl];refine ⟨r,hr',fun p2 H2 s2 dP ir=>⟨fits (by simp),fun p3 eD=>?_⟩⟩;have s3:=ao.upd (o:=.tup [V.str (Str.ofString "way"),V.ref p2]) eD;refine ⟨_,_,.inr ⟨bC.of (s3 _ _ (s2 _ _ hd)),bC.of ax⟩,rfl,fun i h1 h2=>?_,q _ (s2.trans s3)⟩
 match i,h1 with
 | 0,_=>exact DE.flat (v:=.str "way") rfl _
 | 1,_=>exact j3.de (n:=2) ((ht.same s2).same s3) (ir.same s3)
def ka (H:Hp) (t:Th) (pl:Addr):Prop:=t.bP=[]/\H pl=some (.lst [])\/∃ f z y,t.bP=[(f,z)]/\H pl=some (.lst [.ref y])/\H y=some (.tup [.int (f:Nat),.str z])
theorem ka.keep {H H':Hp} {t:Th} {l pl:Addr} {xs:List V} (h:ka H t pl) (hl:H l=some (.lst xs)) (n:pl≠l) (k:cj l H H'):ka H' t pl:=by
 rcases h with ⟨e,e3⟩ | ⟨f,z,y,e,e3,e5⟩
 ·exact .inl ⟨e,k _ _ n e3⟩
 ·exact .inr ⟨f,z,y,e,k _ _ n e3,k _ _ (fun z=>by rw [z,hl] at e5; cases e5) e5⟩
structure gB (H:Hp) (l:Addr) (t:Th) (a:Addr):Prop where
 e:∃ ri pl nm,H a=some (.lst [.str t.kd,.str t.ow,.ref ri,.str t.tx,.ref pl,.ref nm])/\H ri=some (.tup [.str t.mi,.str t.re])/\ka H t pl/\H nm=some (.lst ((di (t.aM.map (·.1))).map V.str))/\a≠l/\pl≠l/\nm≠l
theorem gB.keep {H H':Hp} {l:Addr} {t:Th} {a:Addr} {xs:List V} (h:gB H l t a) (hl:H l=some (.lst xs)) (k:cj l H H'):gB H' l t a:=by
 obtain ⟨ri,pl,nm,e1,e2,e3,e4,n1,n2,n3⟩:=h;exact ⟨ri,pl,nm,k _ _ n1 e1,k _ _ (fun z=>by rw [z,hl] at e2; cases e2) e2,e3.keep hl n2 k,k _ _ n3 e4,n1,n2,n3⟩
theorem Pw (k:Nat):eI (k+1) (-1)=some k:=by
 unfold eI;split
 ·omega
 ·split
  ·congr 1; omega
  ·omega
theorem placesOk {CH CS CT:Addr} {A:Ad} {L:List Ta} {M:Hs} {n:Nat} {m:Int} {a:Ta} {t:Th} {H:Hp} {R:VK} {E:XK} (i:aJ CH CS CT H A L M) (hm:m=(n:Int)) (ha:L[n]?=some a) (ht:M.ts[n]?=some t) (hp:t.bP=[]\/∃ f z,t.bP=[(f,z)]) (r:∀ pl H',ao H H'->H pl=none->ka H' t pl->R (.ref pl) H') :
  gZ CH CS CT Ad.a CJ [.ref A.a,.int m] H R E:=by
 refine ⟨A,L,M,n,a,t,i,rfl,hm,ha,ht,?_⟩;rcases hp with e | ⟨f,z,e⟩
 ·exact .inl ⟨e,fun l hl=>r l _ (ao.upd hl) hl (.inl ⟨e,ax⟩)⟩
 ·exact .inr ⟨f,z,e,fun y l hy hl=>r l _ (ao.upd hl) hl (.inr ⟨f,z,y,e,ax,(ao.upd hl) _ _ hy⟩)⟩
def GJ (CH CS CT:Addr):Sp:=fZ fun x H Q _=>X3 fun A L M=>A6 (aJ CH CS CT H A L M) (A.a=x) (L.length=M.ts.length) (M.ts.length<=60) (∀ (k:Nat) (t:Th),M.ts[k]?=some t->t.aM.length < 64/\(t.bP=[]\/∃ f z,t.bP=[(f,z)])) (∀ (l:Addr) (H':Hp) (rs:List Addr),ao H H'->H l=none->H' l=some (.lst (rs.map V.ref))->rs.length=M.ts.length->rs.Nodup->(∀ (k:Nat) (a:Addr) (t:Th),rs[k]?=some a->M.ts[k]?=some t->gB H' l t a/\H a=none)->Q (.ref l) H')
theorem vW:T.fG.k P w base 5 (GJ T.aI T.aO T.aV):=by
 refine T.fG.F.ok B5 (fun _ _ _ _ h=>cI h fun _ _=>rfl) fun ah A outer s H vs Q E hr h=>cI h fun x h=>?_;obtain ⟨AA,L,M,i,rfl,hL,hM,hT,q⟩:=h;refine bK (b:=aS BV) ((am (aQ 1 B5.nd (db ae))
 (am (m6 PassesOwn.never rfl (zj T.BD (aa (nB T.aK T.mK.h (G5 T) hr.m T.mK.b .nil aw (ad 0)) ae)) (fD 2 B5.nd) (am (aY (iB PySem.F.slot_list_append PySem.F.type_list_append lz (ad 1) (aa (db (aa (bf T.aK T.gG.h (tJ T) hr.m T.gG.b .nil aw (ad 0) (aa (ad 2) ae)) (aa (bf T.aK T.iC.h (vz T) hr.m T.iC.b .nil aw (ad 0) (aa (ad 2) ae)) (aa (bf T.aK T.mU.h (JH T) hr.m T.mU.b .nil aw (ad 0) (aa (ad 2) ae)) (aa (bf T.aK T.m9.h (Gv T) hr.m T.m9.b .nil aw (ad 0) (aa (ad 2) ae)) ae))))) ae)))
 (aq (qV (dl gD (ci (bG (K:=K) rfl) (ad 1) (ii iU bi)) (db (aa (bf T.aK T.rK.h (Rv T) hr.m T.rK.b .nil aw (ad 0) (aa (ad 2) ae)) (aa (bf T.aK T.tM.h (OA T) hr.m T.tM.b .nil aw (ad 0) (aa (ad 2) ae)) ae)))) (u9 (ad 1) (ii iU bi) vX)))))
 (aq (aN (ad 1)))))) ?_
 refine stI [some (V.ref AA.a),none,none] ?_;refine ai ?_;left;refine ⟨fits (by simp),fun l hl=>?_⟩;refine eF (o:=.lst []) hl fun H1 s1 b1=>?_;refine js (fun σ' H'=>∃ rs:List Addr,∃ t2,σ'=[some (V.ref AA.a),some (V.ref l),t2]/\ao H H'/\H' l=some (.lst (rs.map V.ref))/\rs.length=M.ts.length/\rs.Nodup/\∀ (k:Nat) (a:Addr) (t:Th),rs[k]?=some a->M.ts[k]?=some t->gB H' l t a/\H a=none) ?_ ?_
 ·left;have i1:=i.same s1;obtain ⟨gj,c1,bo,Nh,cG⟩:=i1.h;refine mI bo cG ⟨AA,L,M,i1,rfl,⟨by omega,by omega⟩,?_⟩;refine Ka (fun n σ' H'=>∃ rs:List Addr,∃ t2,σ'=[some (V.ref AA.a),some (V.ref l),t2]/\ao H H'/\H' l=some (.lst (rs.map V.ref))/\rs.length=n/\rs.Nodup/\∀ (k:Nat) (a:Addr) (t:Th),rs[k]?=some a->M.ts[k]?=some t->gB H' l t a/\H a=none) ⟨[],_,rfl,s1,b1,rfl,.nil,fun k a t h=>by cases h⟩ ?_ ?_
  ·rintro n σ' H2 hn ⟨rs,t2,rfl,s2,b2,dq,iq,kM⟩;have hn':n < M.ts.length:=by simpa using hn
   have ht:M.ts[n]?=some M.ts[n]:=List.getElem?_eq_getElem hn';have ha:L[n]?=some (L[n]'(by omega)):=List.getElem?_eq_getElem (by omega);refine ai ?_;left;simp only [b2];have e0:(0:Int)+(n:Int)=(n:Int):=by omega
   have i2:=i.same s2;obtain ⟨ik,c2,bO,_,bQ⟩:=i2.h;refine mI bO bQ ⟨AA,L,M,n,_,_,i2,rfl,e0,ha,ht,?_⟩;refine mI bO bQ ⟨AA,L,M,n,_,_,i2,rfl,e0,ha,ht,?_⟩;refine mI bO bQ ⟨AA,L,M,n,_,_,i2,rfl,e0,ha,ht,fun ri hri=>?_⟩;generalize ht':M.ts[n]=t at ht ⊢;refine eF (o:=.tup [.str t.mi,.str t.re]) hri fun H3 s3 b3=>?_;have i3:=i2.same s3;obtain ⟨gK,c3,c7,_,du⟩:=i3.h;refine mI c7 du ⟨AA,L,M,n,_,_,i3,rfl,e0,ha,ht,?_⟩;refine ⟨fits (by simp),fun p hp=>?_⟩;refine eF (o:=.lst [V.str t.kd,V.str t.ow,V.ref ri,V.str t.tx]) hp fun H4 s4 b4=>?_;have Nk:=s4 _ _ (s3 _ _ b2);simp only [Nk];refine ⟨lQ (by simp; omega),?_⟩;have xK:p≠l:=fun z=>by rw [z,s3 _ _ b2] at hp; cases hp
   have b5:upd H4 l (.lst (rs.map V.ref++[V.ref p])) l=some (.lst (rs.map V.ref++[V.ref p])):=ax;have k5:cj l H4 (upd H4 l (.lst (rs.map V.ref++[V.ref p]))):=cj.upd;generalize upd H4 l (.lst (rs.map V.ref++[V.ref p]))=H5 at b5 k5 ⊢;have Nb:∀ c o,H c=some o->c≠l:=fun c o e z=>by rw [z,hl] at e; cases e
   have s5:ao H H5:=fun c o e=>k5 c o (Nb c o e) (((s2.trans s3).trans s4) c o e);have b5p:=k5 _ _ xK b4;have b5r:=k5 _ _ (fun z=>by rw [z,b2] at hri; cases hri) (s4 _ _ b3);simp only [bS,b5,nj];have i5:=i.same s5;obtain ⟨qB,c5,iT,_,EM⟩:=i5.h;refine mI iT EM (placesOk i5 e0 ha ht (hT n t ht).2 fun pl H6 s6 bt p6=>?_);have npl':pl≠l:=fun z=>by rw [z,b5] at bt; cases bt
   have i6:=i5.same s6;obtain ⟨fs6,c6,xA,_,xU⟩:=i6.h;refine mI xA xU ⟨AA,L,M,n,_,_,i6,rfl,e0,ha,ht,(hT n t ht).1,fun nm cf=>?_⟩;have Mu:nm≠l:=fun z=>by rw [z,s6 _ _ b5] at cf; cases cf
   have s7:=ao.upd (o:=.lst ((di (t.aM.map (·.1))).map V.str)) cf;have b7:upd H6 nm (.lst ((di (t.aM.map (·.1))).map V.str)) nm=some (.lst ((di (t.aM.map (·.1))).map V.str)):=ax;generalize upd H6 nm (.lst ((di (t.aM.map (·.1))).map V.str))=H7 at s7 b7 ⊢;refine ⟨fits (by simp),fun p2 dP=>?_⟩;refine eF (o:=.lst [V.ref pl,V.ref nm]) dP fun H8 s8 b8=>?_;have og:=(s6.trans s7).trans s8;have b8p:=og _ _ b5p;have MY:=og _ _ b5;simp only [b8p,b8];refine ⟨fits (by simp),fun p3 eD=>?_⟩;have s9:=ao.upd (o:=.lst ([V.str t.kd,V.str t.ow,V.ref ri,V.str t.tx]++[V.ref pl,V.ref nm])) eD;have b9:upd H8 p3 (.lst ([V.str t.kd,V.str t.ow,V.ref ri,V.str t.tx]++[V.ref pl,V.ref nm])) p3=some (.lst [V.str t.kd,V.str t.ow,V.ref ri,V.str t.tx,V.ref pl,V.ref nm]):=ax;generalize upd H8 p3 (.lst ([V.str t.kd,V.str t.ow,V.ref ri,V.str t.tx]++[V.ref pl,V.ref nm]))=H9 at s9 b9 ⊢;have Eh:=s9 _ _ MY;simp only [Eh];rw [show eI (rs.map V.ref++[V.ref p]).length (-1)=some rs.length by rw [List.length_append,List.length_map]; exact Pw _];have es:(rs.map V.ref++[V.ref p]).set rs.length (V.ref p3)=(rs++[p3]).map V.ref:=by
    rw [List.set_append_right _ _ (by rw [List.length_map]; exact Nat.le_refl _),List.length_map,Nat.sub_self,List.map_append]; rfl
   have Mg:p3≠l:=fun z=>by rw [z,MY] at eD; cases eD
   dsimp only;rw [es];have hnd':(rs++[p3]).Nodup:=by
    rw [List.nodup_append];refine ⟨iq,by simp,fun a ha b hb z=>?_⟩;rw [List.mem_singleton.mp hb] at z;obtain ⟨k,hk,e⟩:=List.getElem_of_mem ha;have ir:M.ts[k]?=some (M.ts[k]'(by omega)):=List.getElem?_eq_getElem (by omega);obtain ⟨⟨_,_,_,r,_,_,_,ral,_⟩,_⟩:=kM k a _ (by rw [List.getElem?_eq_getElem hk,e]) ir;have r8:=og _ _ (k5 _ _ ral (s4 _ _ (s3 _ _ r)));rw [z,eD] at r8;cases r8
   have kP:cj l H9 (upd H9 l (.lst ((rs++[p3]).map V.ref))):=cj.upd;refine ⟨rs++[p3],_,rfl,fun c o e=>kP c o (Nb c o e) (s9 _ _ (og _ _ (s5 c o e))),ax,by rw [List.length_append,dq]; rfl,hnd',fun k a t' hk hq'=>?_⟩;generalize upd H9 l (.lst ((rs++[p3]).map V.ref))=l7 at kP ⊢;rcases Nat.lt_or_ge k rs.length with bL | gx
   ·obtain ⟨r,gr⟩:=kM k a t' (by rw [List.getElem?_append_left bL] at hk; exact hk) hq';exact ⟨(((r.keep b2 ((s3.trans s4).keep l)).keep Nk k5).keep b5 ((og.trans s9).keep l)).keep Eh kP,gr⟩
   ·rw [List.getElem?_append_right gx] at hk;have hk0:k - rs.length=0:=by
     have:=(List.getElem?_eq_some_iff.mp hk).1;simp at this; omega
    have hkn:k=n:=by omega
    rw [hk0] at hk;cases hk;subst hkn;rw [ht] at hq';cases hq';refine ⟨⟨ri,pl,nm,kP _ _ Mg b9,kP _ _ (fun z=>by rw [z,b2] at hri; cases hri) (s9 _ _ (og _ _ b5r)),(p6.keep (s6 _ _ b5) npl' (((s7.trans s8).trans s9).keep l)).keep Eh npl' kP,kP _ _ Mu (s9 _ _ (s8 _ _ b7)),Mg,npl',Mu⟩,?_⟩;cases h0:H p3 with
    | none=>rfl
    | some o=>rw [og _ _ (s5 _ _ h0)] at eD; cases eD
  ·rintro σ' H2 ⟨rs,t2,rfl,s2,b2,dq,iq,kM⟩;exact ⟨rs,t2,rfl,s2,b2,by simpa using dq,iq,kM⟩
 ·rintro σ' H2 ⟨rs,t2,rfl,s2,b2,dq,iq,kM⟩;exact q l H2 rs s2 hl b2 dq iq kM
theorem Yu (zs:List Str):(zs.map V.str).all cx=true:=by
 rw [List.all_eq_true];intro v hv;obtain ⟨k,_,rfl⟩:=List.mem_map.mp hv;rfl
theorem ka.de {K:PySem.W.Frag} {H:Hp} {t:Th} {p q:Addr} {n:Nat} (h:ka H t p) (h':ka H t q):DE K H (n+2) (.ref p) (.ref q):=by
 rcases h with ⟨e,a1⟩ | ⟨f,z,y,e,a1,a2⟩
 ·rcases h' with ⟨_,b1⟩ | ⟨f',z',y',e',_,_⟩
  ·exact .inr ⟨_,_,_,_,rfl,rfl,.inl ⟨aC.of a1,aC.of b1⟩,rfl,DE.kG rfl⟩
  ·rw [e] at e'; cases e'
 ·rcases h' with ⟨e',_⟩ | ⟨f',z',y',e',b1,b2⟩
  ·rw [e] at e'; cases e'
  ·rw [e] at e';cases e';refine .inr ⟨_,_,_,_,rfl,rfl,.inl ⟨aC.of a1,aC.of b1⟩,rfl,fun i h1 h2=>?_⟩
   match i,h1 with
   | 0,_=>exact .inr ⟨_,_,_,_,rfl,rfl,.inr ⟨bC.of a2,bC.of b2⟩,rfl,DE.kG rfl⟩
theorem gB.de {K:PySem.W.Frag} {H:Hp} {l l':Addr} {t:Th} {a b:Addr} {n:Nat} (h:gB H l t a) (h':gB H l' t b):DE K H (n+3) (.ref a) (.ref b):=by
 obtain ⟨ri,pl,nm,a1,a2,a3,a4,_⟩:=h;obtain ⟨ri',pl',nm',b1,b2,b3,b4,_⟩:=h';refine .inr ⟨_,_,_,_,rfl,rfl,.inl ⟨aC.of a1,aC.of b1⟩,rfl,fun i h1 h2=>?_⟩
 match i,h1 with
 | 0,_=>exact DE.flat (v:=.str t.kd) rfl _
 | 1,_=>exact DE.flat (v:=.str t.ow) rfl _
 | 2,_=>exact .inr ⟨_,_,_,_,rfl,rfl,.inr ⟨bC.of a2,bC.of b2⟩,rfl,DE.kG rfl⟩
 | 3,_=>exact DE.flat (v:=.str t.tx) rfl _
 | 4,_=>exact a3.de b3
 | 5,_=>exact .inr ⟨_,_,_,_,rfl,rfl,.inl ⟨aC.of a4,aC.of b4⟩,rfl,DE.kG (Yu _)⟩
structure fC (H:Hp) (ts:List Th) (l:Addr):Prop where
 e:∃ rs:List Addr,H l=some (.lst (rs.map V.ref))/\rs.length=ts.length/\rs.Nodup/\∀ (k:Nat) (a:Addr) (t:Th),rs[k]?=some a->ts[k]?=some t->gB H l t a
theorem fC.same {H H':Hp} {ts:List Th} {l:Addr} (h:fC H ts l) (s:ao H H'):fC H' ts l:=by
 obtain ⟨rs,e,el,nd,r⟩:=h;exact ⟨rs,s _ _ e,el,nd,fun k a t h1 h2=>(r k a t h1 h2).keep e (s.keep l)⟩
theorem fC.eq {K:PySem.W.Frag} {H:Hp} {ts:List Th} {l l':Addr} {Q:VK} (h:fC H ts l) (h':fC H ts l') (q:Q (.bl true) H):pG K 4 (.ref l) (.ref l') H Q:=by
 obtain ⟨rs,e,el,_,r⟩:=h;obtain ⟨rs',e',el',_,r'⟩:=h';refine ⟨_,_,.inl ⟨aC.of e,aC.of e'⟩,by rw [List.length_map,List.length_map,el,el'],fun i h1 h2=>?_,q⟩;rw [List.length_map] at h1 h2;have ht:ts[i]?=some (ts[i]'(by omega)):=List.getElem?_eq_getElem (by omega);rw [List.getElem_map,List.getElem_map];exact (r i _ _ (List.getElem?_eq_getElem h1) ht).de (n:=1) (r' i _ _ (List.getElem?_eq_getElem h2) ht)
theorem K8 {zs:List Str} {v:V} {vs:List V} {i:Nat} {a:Addr} (h:zs.map V.str=vs) (hi:vs[i]?=some (.ref a)):False:=by
 rw [<- h,List.getElem?_map] at hi;cases e:zs[i]? with
 | none=>rw [e] at hi; cases hi
 | some z=>rw [e] at hi; cases hi
theorem gB.other {H H':Hp} {l a b Ei:Addr} {t:Th} {x0 x1 x3 x4 x5:V} (h:gB H l t b) (n:b≠a) (ha:H a=some (.lst [x0,x1,.ref Ei,x3,x4,x5])) (k:cj a H H'):gB H' l t b:=by
 obtain ⟨ri,pl,nm,e1,e2,e3,e4,n1,n2,n3⟩:=h;refine ⟨ri,pl,nm,k _ _ n e1,k _ _ (fun z=>by rw [z,ha] at e2; cases e2) e2,?_,k _ _ (fun z=>?_) e4,n1,n2,n3⟩
 ·refine e3.keep ha (fun z=>?_) k;rcases e3 with ⟨_,e⟩ | ⟨_,_,_,_,e,_⟩ <;> (rw [z,ha] at e; cases e)
 ·rw [z,ha] at e4;injection e4 with e4;injection e4 with e4;exact K8 (v:=.au) (i:=2) e4.symm rfl
theorem fC.set {H:Hp} {ts:List Th} {l:Addr} (h:fC H ts l) {k:Nat} {t:Th} (hk:ts[k]?=some t):∃ rs:List Addr,∃ a,∃ xs:List V,H l=some (.lst (rs.map V.ref))/\rs[k]?=some a/\H a=some (.lst xs)/\(∃ (u0 u1 u3:Str) (u2 u4 u5:Addr),xs=[.str u0,.str u1,.ref u2,.str u3,.ref u4,.ref u5])/\a≠l /\
  ∀ (mi re:Str) (ri:Addr) (H1:Hp),ao H H1->H1 ri=some (.tup [.str mi,.str re])->fC (upd H1 a (.lst (xs.set 2 (.ref ri)))) (ts.set k { t with mi:=mi,re:=re }) l:=by
 obtain ⟨rs,e,el,nd,r⟩:=h;have iy:k < ts.length:=(List.getElem?_eq_some_iff.mp hk).1;have hr:rs[k]?=some (rs[k]'(by omega)):=List.getElem?_eq_getElem (by omega);generalize rs[k]'(by omega)=a at hr;obtain ⟨Ei,pl,nm,e1,e2,e3,e4,n1,n2,n3⟩:=r k a t hr hk;refine ⟨rs,a,_,e,hr,e1,⟨_,_,_,_,_,_,rfl⟩,n1,fun mi re ri H1 s1 b1=>?_⟩;have a1:=s1 _ _ e1;have kk:cj a H1 (upd H1 a (.lst ([V.str t.kd,V.str t.ow,V.ref Ei,V.str t.tx,V.ref pl,V.ref nm].set 2 (.ref ri)))):=cj.upd;refine ⟨rs,kk _ _ (Ne.symm n1) (s1 _ _ e),by rw [List.length_set]; exact el,nd,fun j b t' hj ht'=>?_⟩;by_cases hjk:j=k
 ·subst hjk;rw [hr] at hj;cases hj;rw [List.getElem?_set_self iy] at ht';cases ht';refine ⟨ri,pl,nm,ax,kk _ _ (fun z=>by rw [z,a1] at b1; cases b1) b1,?_,kk _ _ (fun z=>?_) (s1 _ _ e4),n1,n2,n3⟩
  ·have p1:ka H1 t pl:=e3.keep e1 (fun z=>by rcases e3 with ⟨_,q⟩ | ⟨_,_,_,_,q,_⟩ <;> (rw [z,e1] at q; cases q)) (s1.keep a);exact p1.keep a1 (fun z=>by rcases p1 with ⟨_,q⟩ | ⟨_,_,_,_,q,_⟩ <;> (rw [z,a1] at q; cases q)) kk
  ·rw [z,e1] at e4;injection e4 with e4;injection e4 with e4;exact K8 (v:=.au) (i:=2) e4.symm rfl
 ·rw [List.getElem?_set_ne (Ne.symm hjk)] at ht';have nb:b≠a:=fun z=>by
   subst z;have h1:=List.getElem?_eq_some_iff.mp hj;have h2:=List.getElem?_eq_some_iff.mp hr;rcases Nat.lt_or_gt_of_ne hjk with lt | gt
   ·exact (List.pairwise_iff_getElem.mp nd) j k h1.1 h2.1 lt (h1.2.trans h2.2.symm)
   ·exact (List.pairwise_iff_getElem.mp nd) k j h2.1 h1.1 gt (h2.2.trans h1.2.symm)
  exact ((r j b t' hj ht').keep e (s1.keep l)).other nb a1 kk
theorem UC {z:Str} {g:TG} {tb:TS} {D:Ends} {σ:St} {H:Hp} (Pv:Nat->St->Hp->Prop) (h0:Pv 0 σ H)
  (hs:∀ i c σ H,z.cps[i]?=some c->Pv i σ H->g (.str ⟨#[c]⟩) σ H fun σ2 H2=>tb { D with nx:=Pv (i+1),ct:=Pv (i+1),bk:=D.nx } σ2 H2) (hd:∀ σ H,Pv z.length σ H->D.nx σ H):wW (qJ z) g tb D σ H:=by
 refine ⟨fun i m σ H=>m=z.length - i/\i<=z.length/\Pv i σ H,⟨z.length,by simp,Nat.zero_le _,h0⟩,?_⟩;rintro i m σ H ⟨rfl,hi,p⟩;by_cases h:i < z.length
 ·refine .inr ⟨h,Pv (i+1),fun σ' H' p'=>⟨_,by show z.length - (i+1) < z.length - i; omega,rfl,by omega,p'⟩,?_⟩;rintro x H' ⟨rfl,c,hc,rfl⟩;exact hs i c σ H' hc p
 ·exact .inl ⟨Nat.le_of_not_lt h,hd σ H (by rwa [show z.length=i by omega])⟩
def TJ (CH CS CT:Addr):Sp:=fZ fun x H Q _=>X3 fun A L M=>A8 (aJ CH CS CT H A L M) (A.a=x) (M.ts.length<=60) (L.length=M.ts.length) (M.ro.length < 64) (∀ z∈M.ro.map (·.1),(aP (sD M.ro) (.inr z)).isSome=true) (∀ (k:Nat) (t:Th),M.ts[k]?=some t->t.kd=("lead" : Str)->t.mi=("" : Str)/\t.re=("" : Str)) (∀ H',ao H H'->Q (.bl true) H')
theorem Wn:T.oM.k P w base 5 (TJ T.aI T.aO T.aV):=by
 refine T.oM.F.ok jU (fun _ _ _ _ h=>cI h fun _ _=>rfl) fun ah A outer s H vs Q E hr h=>cI h fun x h=>?_;obtain ⟨AA,L,M,i,rfl,hM,hL,qh,hin,mC,q⟩:=h;refine bK (b:=aS yC) ((am (m6 PassesOwn.never rfl (zj T.BD (aa (nB T.aK T.mK.h (G5 T) hr.m T.mK.b .nil aw (ad 0)) ae)) (fD 1 jU.nd) (am (qV (bf T.aK T.mU.h (JH T) hr.m T.mU.b .nil aw (ad 0) (aa (ad 1) ae)) (G9 (K:=K) (n:=2) rfl rfl (uT (fD 2 jU.nd) (uT (fD 3 jU.nd) F5))))
 (aq (m6 PassesOwn.never rfl (mO (K:=K) rfl (nB T.aK T.sT.h (Vb T) hr.m T.sT.b .nil aw (ad 0))) (fD 4 jU.nd) (am (aQ 5 jU.nd (ad 3))
 (am (bB (bY iE (bf T.aK T.iC.h (vz T) hr.m T.iC.b .nil aw (ad 0) (aa (ad 1) ae)) (ad 4)) (aq (aQ 5 jU.nd (ad 2))) cr)
 (aq (m6 PassesOwn.never rfl (F6 bn) (fD 6 jU.nd) (am (aQ 7 jU.nd (cX T.aK T.iJ.h (uA T) hr.m T.iJ.b .nil dE (ad 0) (aa (ad 4) (aa (ad 1) (aa (ad 6) ae)))))
 (aq (bB (hX (im (dB (cN (cC j0 T.gb gf (aa (ad 7) (aa (jF (.ty "bool") T.g_bool Gz rfl) ae))))) (lJ (bY kC (ad 7) (kq (em (vx (K:=K) rfl) (ad 6) (ad 5)) (gl (em kC (bf T.aK T.gG.h (tJ T) hr.m T.gG.b .nil aw (ad 0) (aa (ad 1) ae)) bn))))))) (aq (aN ge)) cr)))))))))))
 (aq (aN ge)))) ?_
 refine stI [some (V.ref AA.a),none,none,none,none,none,none,none] ?_;refine js (fun σ' H'=>ao H H'/\∃ t1 t2 t3 t4 t5 t6 t7,σ'=[some (V.ref AA.a),t1,t2,t3,t4,t5,t6,t7]) ?_ ?_
 ·left;obtain ⟨gj,c1,bo,Nh,cG⟩:=i.h;refine mI bo cG ⟨AA,L,M,i,rfl,⟨by omega,by omega⟩,?_⟩;refine Ka (fun n σ' H'=>ao H H'/\∃ t1 t2 t3 t4 t5 t6 t7,σ'=[some (V.ref AA.a),t1,t2,t3,t4,t5,t6,t7]) ⟨ao.refl H,_,_,_,_,_,_,_,rfl⟩ ?_ ?_
  ·rintro n σ' H2 hn ⟨s2,t1,t2,t3,t4,t5,t6,t7,rfl⟩;have hn':n < M.ts.length:=by simpa using hn
   have ht:M.ts[n]?=some M.ts[n]:=List.getElem?_eq_getElem hn';have ha:L[n]?=some (L[n]'(by omega)):=List.getElem?_eq_getElem (by omega);have e0:(0:Int)+(n:Int)=(n:Int):=by omega
   generalize M.ts[n]=t at ht;refine ai ?_;left;have i2:=i.same s2;obtain ⟨ik,c2,bO,_,bQ⟩:=i2.h;refine mI bO bQ ⟨AA,L,M,n,_,_,i2,rfl,e0,ha,ht,fun ri hri=>?_⟩;refine ⟨ri,_,rfl,bC.of ax,rfl,_,_,rfl,_,_,rfl,rfl,?_⟩;have s3:=ao.upd (o:=.tup [.str t.mi,.str t.re]) hri;generalize upd H2 ri (.tup [.str t.mi,.str t.re])=H3 at s3 ⊢;have i3:=i2.same s3;obtain ⟨gK,c3,c7,_,du⟩:=i3.h;refine mI c7 du ⟨AA,L,M,i3,rfl,qh,fun al Dw=>?_⟩;have s4:=ao.upd (o:=.lst ((di (M.ro.map (·.1))).map V.str)) Dw;have b4:upd H3 al (.lst ((di (M.ro.map (·.1))).map V.str)) al=some (.lst ((di (M.ro.map (·.1))).map V.str)):=ax;generalize upd H3 al (.lst ((di (M.ro.map (·.1))).map V.str))=H4 at s4 b4 ⊢;have Em:=(s2.trans s3).trans s4;refine ⟨⟨_,aC.of b4⟩,vV (xs:=(di (M.ro.map (·.1))).map V.str) (fun _ σ' H'=>ao H4 H'/\∃ t4 t5 t6 t7,σ'=[some (V.ref AA.a),some (V.int (0+(n:Int))),some (V.str t.mi),some (V.str t.re),t4,t5,t6,t7]) ⟨ao.refl H4,_,_,_,_,rfl⟩ (fun j σ' H' _ h=>aC.of (h.1 _ _ b4)) ?_ ?_⟩
   ·rintro j x σ' H5 hx ⟨s5,u4,u5,u6,u7,rfl⟩;obtain ⟨z,hz,rfl⟩:=List.mem_map.mp (List.mem_of_getElem? hx);have hz':=hin z ((zS _).mem_iff.mp hz);have i5:=i.same (Em.trans s5);obtain ⟨qB,c5,iT,_,EM⟩:=i5.h;left;refine ai ?_;left;refine js (fun σ' H'=>H'=H5/\σ'=[some (V.ref AA.a),some (V.int (0+(n:Int))),some (V.str t.mi),some (V.str t.re),some (V.str z),some (V.str (cJ t z)),u6,u7]) ?_ ?_
    ·left;refine mI iT EM ⟨AA,L,M,n,_,_,i5,rfl,e0,ha,ht,?_⟩;by_cases ho:t.ow=z
     ·exact eB (decide_eq_true ho) ⟨rfl,by unfold cJ; rw [if_pos ho.symm]⟩
     ·exact dZ (decide_eq_false ho) ⟨rfl,by unfold cJ; rw [if_neg (fun e=>ho e.symm)]⟩
    ·rintro σ' H6 ⟨rfl,rfl⟩;left;refine UC (fun _ σ' H'=>ao H4 H'/\∃ t6 t7,σ'=[some (V.ref AA.a),some (V.int (0+(n:Int))),some (V.str t.mi),some (V.str t.re),some (V.str z),some (V.str (cJ t z)),t6,t7]) ⟨s5,_,_,rfl⟩ ?_ ?_
     ·rintro m c σ' H9 hc ⟨s9,t10,t11,rfl⟩;have hs:gW (.str ⟨#[c]⟩)=true:=by
       rw [show (Str.ofString "lgw").cps=#[108,103,119] by decide +kernel] at hc;rcases m with _ | _ | _ | m
       ·have:some 108=some c:=hc;cases this; decide +kernel
       ·have:some 103=some c:=hc;cases this; decide +kernel
       ·have:some 119=some c:=hc;cases this; decide +kernel
       ·simp at hc
      left;refine ai ?_;left;have ED:=i.same (Em.trans s9);obtain ⟨D9,kc,kh,khl,l8⟩:=ED.h;rw [e0];refine mI kh l8 (uM ED hz' hs ht ?_);refine ⟨by decide,bb ?_⟩;cases hb:dU ⟨#[c]⟩ (cJ t z) with
      | true =>
       have hk:t.kd≠("lead" : Str):=fun e=>by
        obtain ⟨e1,e2⟩:=mC n t ht e;have:cJ t z=("" : Str):=by unfold cJ; rw [e1,e2]; split <;> rfl
        rw [this] at hb
        revert hb hs
        unfold gW;simp only [Bool.or_eq_true,decide_eq_true_eq];rintro ((h | h) | h) <;> (cases h; decide +kernel)
       refine eB hb ?_;refine mI kh l8 ⟨AA,L,M,n,_,_,ED,rfl,rfl,ha,ht,?_⟩;exact dZ (by rw [decide_eq_false hk]; rfl) ⟨s9,_,_,rfl⟩
      | false =>
       exact dZ hb (dZ rfl ⟨s9,_,_,rfl⟩)
     ·rintro σ' H9 ⟨s9,t10,t11,rfl⟩;exact ⟨s9,_,_,_,_,rfl⟩
   ·rintro σ' H5 ⟨s5,u4,u5,u6,u7,rfl⟩;exact ⟨Em.trans s5,_,_,_,_,_,_,_,rfl⟩
  ·rintro σ' H2 h;exact h
 ·rintro σ' H2 ⟨s2,t1,t2,t3,t4,t5,t6,t7,rfl⟩;left;exact q _ s2
def ot (d:Wd) (k:Nat):Prop:=∃ t,d.M.ts[k]?=some t/\dU ("g" : Str) (cJ t d.z)=true
structure lL (d:Wd) (S:Ws):Prop where
 l:S.asked.length=S.step
 g:∀ k∈S.asked,ot d k
theorem Ck {y:Str} (h:decide (y=("shut" : Str))=false):(some (Tl.fail y))≠some (Tl.fail "shut"):=fun e=>by
 cases e;simp at h
theorem lq.ask {c:Wd} {S S':Ws} {t:Th} {p:Str} {o:Option Tl} (h:lq c S t p S' o):S'.asked=S.asked/\S'.step=S.step/\o≠some (.fail "shut"):=by
 cases h with
 | no=>exact ⟨rfl,rfl,Ck (by decide +kernel)⟩
 | folder=>exact ⟨rfl,rfl,nofun⟩
 | fin=>exact ⟨rfl,rfl,nofun⟩
 | lead _ _ _ _ _ _ m =>
  cases m with
  | ring=>exact ⟨rfl,rfl,nofun⟩
  | many=>exact ⟨rfl,rfl,Ck (by decide +kernel)⟩
  | read _ _ r=>cases r; exact ⟨rfl,rfl,nofun⟩
theorem lL.ak {c:Wd} {S:Ws} {t:Th} (i:lL c S) (a:rD c S t):lL c (dj S) :=
 ⟨by show (S.asked++[S.here]).length=S.step+1; rw [List.length_append,i.l]; rfl,fun k hk=>by
  rcases List.mem_append.mp (show k∈S.asked++[S.here] from hk) with h | h
  ·exact i.g k h
  ·rw [List.mem_singleton.mp h]; exact ⟨t,a.e,a.g⟩⟩
structure Fu (d:Wd) (S:Ws) (o:Option Tl):Prop where
 y:o=some (.fail "shut")->∃ as k t,S.asked=as++[k]/\(∀ j∈as,ot d j)/\d.M.ts[k]?=some t/\dU ("g" : Str) (cJ t d.z)=false/\S.asked.length=S.step
 n:o≠some (.fail "shut")->∀ k∈S.asked,ot d k
theorem dz.ask {c:Wd} {S S':Ws} {p:Str} {o:Option Tl} (h:dz c S p S' o) (i:lL c S):Fu c S' o/\(o=none->lL c S'):=by
 cases h with
 | flat=>exact ⟨⟨fun e=>absurd e (Ck (by decide +kernel)),fun _=>i.g⟩,nofun⟩
 | @jo a t _ ht _ hg=>exact ⟨⟨fun _=>⟨S.asked,S.here,t,rfl,i.g,ht,hg,by show (S.asked++[S.here]).length=S.step+1; rw [List.length_append,i.l]; rfl⟩,fun e=>absurd rfl e⟩,nofun⟩
 | dot a=>exact ⟨⟨nofun,fun _=>(i.ak a).g⟩,fun _=>i.ak a⟩
 | up a=>exact ⟨⟨nofun,fun _=>(i.ak a).g⟩,fun _=>⟨(i.ak a).l,(i.ak a).g⟩⟩
 | go a _ _ _ _ b =>
  obtain ⟨e1,e2,e3⟩:=b.ask;have i1:lL c S':=⟨by rw [e1,e2]; exact (i.ak a).l,by rw [e1]; exact (i.ak a).g⟩;exact ⟨⟨fun e=>absurd e e3,fun _=>i1.g⟩,fun _=>i1⟩
theorem dX.ask {c:Wd} {n:Nat} {S S':Ws} {o:Option Tl} (h:dX c n S S' o):lL c S->Fu c S' o:=by
 induction h with
 | done=>exact fun i=>⟨nofun,fun _=>i.g⟩
 | pop _ _ _ ih=>exact fun i=>ih ⟨i.l,i.g⟩
 | step _ s _ ih=>exact fun i=>ih ((s.ask ⟨i.l,i.g⟩).2 rfl)
 | fail _ s=>exact fun i=>(s.ask ⟨i.l,i.g⟩).1
structure rP (d:Wd) (e:End):Prop where
 y:∀ k,e.res=.failed k "shut" -> ∃ as j t,e.asked=as++[j]/\(∀ i∈as,ot d i)/\d.M.ts[j]?=some t/\dU ("g" : Str) (cJ t d.z)=false/\e.asked.length=k
 n:(∀ k,e.res≠.failed k "shut")->∀ k∈e.asked,ot d k
theorem dI.ask {d:Wd} {t:List Nat} {e:End} (p:dI d t e):rP d e:=by
 have i0:∀ h,lL d ⟨h,none,0,[],cP (dY t),[],0,0⟩:=fun h=>⟨rfl,nofun⟩;cases p.g with
 | @told h n S' tl _ _ r =>
  have a:=r.ask (i0 h);refine ⟨fun k e=>?_,fun ne=>a.n fun e=>?_⟩
  ·cases tl with
   | fail y =>
    have e':Res.failed S'.step y=Res.failed k "shut" := e;cases e';exact a.y rfl
   | ring ns=>cases e
  ·cases e;exact ne _ rfl
 | found _ _ r _ =>
  exact ⟨nofun,fun _=>(r.ask (i0 _)).n nofun⟩
theorem Wu {K:PySem.W.Frag} {l:Addr} {xs:List V} {tt:TT} {te:TE} {H:Hp} {Q:VK} {vs:List V} (p:V->Bool) (hs:aC K H l xs) (hsz:xs.length<=sizeLine) (ht:∀ x∈xs,∀ R:Bool->Hp->Prop,R (p x) H->tt (some x::vs.map some) H R) (he:∀ x∈xs,∀ R:VK,R x H->te (some x::vs.map some) H R)
  (q:∀ l',H l'=none->Q (.ref l') (upd H l' (.lst (xs.filter p)))):sG (jS K l) 1 vs (fJ 0) tt te Q H:=by
 refine ⟨fun i zs k H1=>H1=H/\zs=(xs.take i).filter p/\i<=xs.length/\k=xs.length - i,⟨_,rfl,rfl,Nat.zero_le _,rfl⟩,?_⟩;rintro i zs k H1 ⟨rfl,rfl,hi,rfl⟩;have hlen:((xs.take i).filter p).length<=i:=Nat.le_trans (List.length_filter_le _ _) (by rw [List.length_take]; omega);refine ⟨by omega,?_⟩;by_cases h:i < xs.length
 ·have hx:xs[i]?=some xs[i]:=List.getElem?_eq_getElem h;have hm:=List.getElem_mem h;refine .inr ⟨⟨xs,xs[i],hs,hx⟩,by omega,?_⟩;rintro y H' ⟨rfl,hy⟩ σ0 hσ0;obtain ⟨a,rfl⟩:=AK hσ0;have ey:y=xs[i]:=by
   have:=hy xs hs;rw [hx] at this;cases this;rfl
  subst ey;refine ⟨⟨[some xs[i]],rfl,rfl⟩,?_⟩;refine ht _ hm _ ?_;have et:(xs.take (i+1)).filter p=(xs.take i).filter p++(if p xs[i]=true then [xs[i]] else []):=by
   rw [List.take_succ,hx,List.filter_append];cases hp:p xs[i] <;> simp [hp]
  cases hp:p xs[i] with
  | true =>
   rw [if_pos rfl];exact he _ hm _ ⟨xs.length - (i+1),by omega,rfl,by rw [et,hp]; rfl,h,rfl⟩
  | false =>
   rw [if_neg (by nofun)];exact ⟨xs.length - (i+1),by omega,rfl,by rw [et,hp]; exact (List.append_nil _).symm,h,rfl⟩
 ·have e:i=xs.length:=by omega
  subst e;refine .inl ⟨⟨xs,hs,Nat.le_refl _⟩,fun l' hl'=>?_⟩;rw [List.take_length];exact q l' hl'
theorem dX.Hw {c:Wd} {n:Nat} {S S':Ws} {o:Option Tl} (h:dX c n S S' o):Bd S->Bd S':=by
 induction h with
 | done=>exact id
 | pop e er _ ih =>
  intro b;have h1:=b.p;have h2:=b.r;rw [e,List.length_append] at h1;rw [er,List.length_append] at h2;simp only [List.length_cons,List.length_nil] at h1 h2;exact ih ⟨b.a,by dsimp only; omega,by dsimp only; omega,b.q⟩
 | step e s _ ih=>exact fun b=>ih (dz.bd b e s)
 | fail e s=>exact fun b=>dz.bd b e s
theorem dI.O4 {d:Wd} {t:List Nat} {e:End} (p:dI d t e):e.asked.length<=8000:=by
 have b0:∀ h,(dY t).length<=2500->Bd ⟨h,none,0,[],cP (dY t),[],0,0⟩:=fun h hl=>⟨Nat.le_refl _,by rw [wA]; dsimp only; omega,Nat.le_refl _,Nat.zero_le _⟩;cases p.g with
 | told _ hl r=>have b:=r.Hw (b0 _ hl); have h1:=b.a; have h2:=b.p; dsimp only; omega
 | found _ hl r=>have b:=r.Hw (b0 _ hl); have h1:=b.a; have h2:=b.p; dsimp only; omega
def NL (d:Wd) (S:Ws):Prop:=∃ t,d.M.ts[S.here]?=some t/\t.kd≠("lead" : Str)
theorem si {t:Th} (h:t.kd=("folder" : Str)):t.kd≠("lead" : Str):=by rw [h]; decide +kernel
theorem dz.nl {d:Wd} (g:Gd d.M) (hl:d.last=true) (hr:∃ t,d.M.ts[d.root]?=some t/\t.kd=("folder" : Str)) {S S':Ws} {p:Str} {o:Option Tl} (h:dz d S p S' o) (n:NL d S):o=none->NL d S':=by
 cases h with
 | flat=>nofun
 | jo=>nofun
 | dot=>exact fun _=>n
 | up _ _ u =>
  intro _;cases u with
  | gg=>exact n
  | up _ _ _ _ _ ht hp _ hf hs =>
   obtain ⟨rfl,rfl⟩:=g.vL hs;refine ⟨_,hf,?_⟩;rcases (g.th _ _ ht).pl with ⟨_,e⟩ | ⟨f',nm',tf',_,e,_,e2,e3⟩
   ·rw [hp] at e; cases e
   ·rw [hp] at e; cases e; rw [hf] at e2; cases e2; exact si e3
 | go _ _ _ _ _ b =>
  cases b with
  | no=>nofun
  | folder _ _ ht hk hs =>
   obtain ⟨rfl,rfl⟩:=g.vL hs;exact fun _=>⟨_,ht,si hk⟩
  | fin _ _ ht _ hf =>
   refine fun _=>⟨_,ht,?_⟩;rcases hf with e | ⟨_,e⟩
   ·rw [e]; decide +kernel
   ·rw [hl] at e; cases e
  | lead _ _ _ _ _ _ m =>
   cases m with
   | ring=>nofun
   | many=>nofun
   | read _ _ r =>
    cases r with
    | @mk _ _ t _ _ _ _ _ _ _ _ _ _ _ _ _ hs =>
     obtain ⟨rfl,rfl⟩:=g.vL hs;intro _;unfold NL ia;dsimp only;split
     ·obtain ⟨t,h1,h2⟩:=hr; exact ⟨t,h1,si h2⟩
     ·exact n
theorem dX.nl {d:Wd} (g:Gd d.M) (hl:d.last=true) (hr:∃ t,d.M.ts[d.root]?=some t/\t.kd=("folder" : Str)) {n:Nat} {S S':Ws} {o:Option Tl} (h:dX d n S S' o):NL d S->o=none->NL d S':=by
 induction h with
 | done=>exact fun n _=>n
 | pop _ _ _ ih=>exact ih
 | step _ s _ ih=>exact fun n=>ih (s.nl g hl hr n rfl)
 | fail=>exact fun _=>nofun
theorem dI.nl {M:Hs} {L:List Ta} {z:Str} {root k:Nat} {t:List Nat} {e:End} {ns:List Str} (g:Gd M) (hz:z∈AS) (p:dI ⟨L,M,z,true,root⟩ t e) (h:e.res=.found k ns):∃ t,M.ts[k]?=some t/\t.kd≠("lead" : Str):=by
 obtain ⟨r,k0,ga⟩:=g.as z hz;cases p.g with
 | @told _ _ _ y _ _ r=>cases y <;> cases h
 | found b _ hr _ =>
  cases h;have e1:=b.z;dsimp only at e1;rw [ga.ro] at e1;obtain rfl:r=root:=by injection e1 with e1; injection e1 with e1; omega
  obtain ⟨st,b2,rr,a,t,aR,ha,ht,um,xy,rfl⟩:=b.ex;obtain ⟨rfl,rfl⟩:=g.vL um;refine dX.nl (d:=⟨L,M,z,true,r⟩) g rfl ga.tr hr ?_ rfl;rcases aR with ⟨_,rfl⟩ | ⟨_,e2⟩
  ·obtain ⟨t,h1,h2⟩:=ga.tr; exact ⟨t,h1,si h2⟩
  ·dsimp only at e2;rw [ga.st] at e2;obtain rfl:k0=b2:=by injection e2 with e2; injection e2 with e2; omega
   obtain ⟨t,h1,h2⟩:=ga.tk; exact ⟨t,h1,si h2⟩
def jP (M:Hs) (z:Str):V->Bool
 | .int k=>match M.ts[k.toNat]? with
  | some t=>!dU ("g" : Str) (cJ t z)
  | none=>false
 | _=>false
theorem zG {M:Hs} {z:Str} {k:Nat} {t:Th} (h:M.ts[k]?=some t):jP M z (.int (k:Nat))=!dU ("g" : Str) (cJ t z):=by
 unfold jP;dsimp only;rw [show Int.toNat (k:Nat)=k from rfl,h]
theorem JO (ns:List Nat):(nV ns).length=ns.length:=List.length_map _
theorem zC {d:Wd}:∀ {as:List Nat},(∀ k∈as,ot d k)->(nV as).filter (jP d.M d.z)=[]
 | [],_=>rfl
 | k::r,h=>by
  obtain ⟨t,e,g⟩:=h k (by simp);show List.filter _ (V.int (k:Nat)::nV r)=[];rw [List.filter_cons,zG e,g,if_neg (by decide)];exact zC fun j hj=>h j (List.mem_cons_of_mem _ hj)
theorem rP.th {d:Wd} {e:End} (a:rP d e) {k:Nat} (hk:k∈e.asked):∃ t,d.M.ts[k]?=some t:=by
 by_cases hs:∃ n,e.res=.failed n "shut"
 ·obtain ⟨n,hs⟩:=hs;obtain ⟨as,j,t,e1,e2,e3,_⟩:=a.y n hs;rw [e1] at hk;rcases List.mem_append.mp hk with h | h
  ·obtain ⟨t,h,_⟩:=e2 k h; exact ⟨t,h⟩
  ·rw [List.mem_singleton.mp h]; exact ⟨t,e3⟩
 ·obtain ⟨t,h,_⟩:=a.n (fun n h=>hs ⟨n,h⟩) k hk; exact ⟨t,h⟩
theorem rP.jo {d:Wd} {e:End} (a:rP d e) {n:Nat} (h:e.res=.failed n "shut"):∃ j:Nat,(nV e.asked).filter (jP d.M d.z)=[.int (j:Nat)]/\(∃ as,nV e.asked=as++[.int (j:Nat)])/\e.asked.length=n:=by
 obtain ⟨as,j,t,e1,e2,e3,e4,e5⟩:=a.y n h;refine ⟨j,?_,⟨nV as,by rw [e1]; exact List.map_append⟩,e5⟩;rw [e1,show nV (as++[j])=nV as++[.int (j:Nat)] from List.map_append,List.filter_append,zC e2,List.filter_cons,zG e3,e4];rfl
theorem QM (as:List V) (v:V):fc (as++[v]) (some (-1)) none=[v]:=by
 unfold fc;rw [show HT.cM (as++[v]).length 0 (some (-1))=as.length by unfold HT.cM; simp; omega];simp [HT.cM]
def Og (N:Cn):Sp:=o6 fun h z pt H Q _=>X6 fun A L M root t e=>A5 (pt=Tx.S t) (aJ N.CH N.CS N.CT H A L M) (A.a=h) (dI ⟨L,M,z,true,root⟩ t e) (∀ H',ao H H'->Q (.bl true) H')
theorem S6:T.ox.k P w base 15 (Og T.cn):=by
 refine T.ox.F.ok vw (fun _ _ _ _ h=>jf h fun _ _ _ _=>rfl) fun ah A outer s H vs Q E hr h=>jf h fun h0 z pt h=>?_;obtain ⟨AA,L,M,r0,t,e,rfl,i,rfl,pw,q⟩:=h;refine bK (b:=aS A0) ((am (aQ 3 vw.nd (bv (y6 T) hr.m T.BF T.pC.kp T.tO (.cons (show RelV (.bl true) _ from rfl) .nil) aw (aa (ad 0) (aa (ad 1) (aa (ad 2) ae)))))
 (am (aQ 4 vw.nd (bv (Z5 T) hr.m T.QJ T.wR.kp T.AY (.cons (show RelV (.bl true) _ from rfl) .nil) aw (aa (ad 0) (aa (ad 1) (aa (ad 2) ae)))))
 (am (AH 5 rfl vw.nd (TN:=["_law_number"]) (caps:=["_law_asker","_law_house"]) (ix:=[1,0]) (mO (K:=K) rfl (ad 4)) (fun _ _ _ _=>by exact (G4 (dB (cN (cX T.aK T.iJ.h (uA T) hr.m T.iJ.b .nil dE (ad 2) (aa (ad 1) (aa (ad 0) (aa bn ae)))))))) (fun _ _ _ _=>by exact (fD 0 (show List.Nodup (["_law_number","_law_asker","_law_house"]:List Str) by decide))) (fun _ _ _ _=>by exact (ad 0)) (.of rfl (by exact ⟨rfl,rfl,trivial⟩) (by walk_at "c") rfl (by exact ⟨⟨rfl,rfl,rfl,rfl⟩,⟨rfl,rfl,rfl,rfl⟩,trivial⟩)))
 (am (bB (hX (Dv.w_and (cN (cC (t9 (K:=K) rfl) T.gb gf (aa (ad 3) (aa (dL (.ref T.dQ) T.yj rfl) ae)))) (vT (bY iE (ap T.iH T.AB (ad 3)) bn)))) (aq (aN (kq (em (ko (K:=K) 4 rfl hr.jG) (ad 5) (jp (m8 (K:=K) rfl) (ad 4) (lT (ii iU bi)) pE)) (gl (em iE (cC (lA (K:=K) rfl) T.lG PySem.boot_len (aa (ad 4) ae)) (ap T.iH T.yl (ad 3))))))) cr)
 (aq (aN (em (ko (K:=K) 4 rfl hr.jG) (ad 5) (db ae))))))))) ?_
 refine stI [some (V.ref AA.a),some (V.str z),some (V.str (Tx.S t)),none,none,none] ?_;refine ai ?_;left;refine ⟨AA,L,M,r0,t,e,rfl,i,rfl,pw,fun fd H1 s1 bc=>ai ?_⟩;left;refine ⟨AA,L,M,r0,t,e,rfl,i.same s1,rfl,pw,fun av H2 s2 il=>ai ?_⟩;have i2:=i.same (s1.trans s2);left;obtain ⟨D9,kc,kh,khl,l8⟩:=i2.h;have ask:=pw.ask;have h8:=pw.O4;have uw:=pw.hz;refine ⟨[.str z,.ref AA.a],⟨rfl,fun i j v h1 h2=>?_⟩,⟨_,aC.of il⟩,Wu (xs:=nV e.asked) (jP M z) (aC.of il) (by rw [JO]; exact Nat.le_trans h8 (by decide)) (fun x hx R r=>?_) (fun x hx R r=>r) (fun l' hl'=>?_)⟩
 ·match i,h1,h2 with
  | 0,h1,h2=>cases h1; cases h2; rfl
  | 1,h1,h2=>cases h1; cases h2; rfl
 ·obtain ⟨k,hk,rfl⟩:=List.mem_map.mp hx;obtain ⟨t',ht'⟩:=ask.th hk;left;refine mI kh l8 (uM i2 uw (by decide +kernel) ht' ?_);rw [zG ht'] at r;exact r
 ·have s3:=ao.upd (o:=.lst (List.filter (jP M z) (nV e.asked))) hl';have b3:upd H2 l' (.lst (List.filter (jP M z) (nV e.asked))) l'=some (.lst (List.filter (jP M z) (nV e.asked))):=ax;generalize upd H2 l' (.lst (List.filter (jP M z) (nV e.asked)))=H3 at s3 b3 ⊢;have dw:=bc.same (s2.trans s3);have sA:=(s1.trans s2).trans s3;have tail:(∀ k,e.res≠.failed k "shut")->([]:List V).length<=sizeLine/\∀ p,H3 p=none->pG K 4 (.ref l') (.ref p) (upd H3 p (.lst [])) Q:=fun hn=>⟨fits (by simp),fun p hp=>by
   have s4:=ao.upd (o:=.lst []) hp;have e0:=zC (ask.n hn);dsimp only at e0;rw [e0] at b3;exact ⟨[],[],.inl ⟨aC.of (s4 _ _ b3),aC.of ax⟩,rfl,fun i h1=>absurd h1 (Nat.not_lt_zero _),q _ (sA.trans s4)⟩⟩
  refine ai ?_;left;cases gu:e.res with
  | found k ns =>
   rw [gu] at dw;obtain ⟨bh,dw⟩:=dw;refine ⟨_,_,_,.of (.ins dw T.gU T.q1 T.q2 T.q3 T.q4),.cls T.q9,bb ?_⟩;left;exact tail fun k h=>by rw [gu] at h; cases h
  | failed n y =>
   rw [gu] at dw;obtain ⟨bh,dw⟩:=dw;refine ⟨_,_,_,.of (.ins dw T.iH T.q6 T.q2 T.q3 T.q7),.cls T.IX,?_⟩;by_cases hy:y=("shut" : Str)
   ·subst hy;obtain ⟨j,e1,⟨as,e2⟩,e3⟩:=ask.jo gu;dsimp only at e1;rw [e1] at b3;have Nx:=s3 _ _ il;refine bE ⟨fd,_,_,_,rfl,dw,rfl,eB (decide_eq_true (by trivial)) (SD Nx fun p hp=>?_)⟩;rw [e2,QM];have s4:=ao.upd (o:=.lst [V.int (j:Nat)]) hp;refine ⟨_,_,.inl ⟨aC.of (s4 _ _ b3),aC.of ax⟩,rfl,DE.kG rfl,bE ?_⟩;simp only [bS,s4 _ _ Nx];refine ⟨fd,_,_,_,rfl,s4 _ _ dw,rfl,?_⟩;dsimp only;rw [JO,e3,decide_eq_true (by trivial)];exact q _ (sA.trans s4)
   ·refine bE ⟨fd,_,_,_,rfl,dw,rfl,dZ (decide_eq_false hy) ?_⟩;left;exact tail fun k h=>by rw [gu] at h; cases h; exact hy rfl
  | ring ns =>
   rw [gu] at dw;obtain ⟨bh,rl,dw,_⟩:=dw;refine ⟨_,_,_,.of (.ins dw T.m3 T.rT T.q2 T.q3 T.sy),.cls T.K6,bb ?_⟩;left;exact tail fun k h=>by rw [gu] at h; cases h
theorem V3:iV K T.eR:=⟨T.Zf,T.T4,T.YC,T.YM,T.RM,T.XB,T.UR⟩
theorem Yq:iV K T.eP:=⟨T.VG,T.Xs,T.RG,T.Qv,T.Qs,T.Wb,T.YD⟩
def uC (N:Cn) (Q:VK):XK:=fun C od H' =>
 (C=.ref N.CN/\∃ d fd,od=some d/\H' d=some (.xd [("told",.ref fd)])/\∀ p H2,ao H' H2->H' p=none->H2 p=some (.tup [.str "way",.ref fd])->Q (.ref p) H2) \/
 (C=.ref N.CD/\∃ d y,od=some d/\H' d=some (.xd [("reason",.str y)])/\∀ p H2,ao H' H2->H' p=none->H2 p=some (.tup [.str "deed",.str y])->Q (.ref p) H2)
def SM (N:Cn) (cg:eV):eV:=fun H Q _=>cg H (fun v H'=>∀ p H2,ao H' H2->H' p=none->H2 p=some (.tup [.str "told",v])->Q (.ref p) H2) (uC N Q)
theorem wk:rC P w K mg base (bJ P w) 18 T.fT.f T.fT.d ["_law_ask"] (C1 P w K mg base 17 (SM T.cn)):=by
 refine T.fT.F.Xd jW (fun outer s vs H Q E h=>?_) (fun ah A outer s H vs Q E hr h=>?_)
 ·obtain ⟨f,B,cg,rfl,_⟩:=h;rfl
 ·obtain ⟨fl,B,cg,rfl,D0,hB,hf,fX,cZ⟩:=h;have D:=D0.m;refine bK (b:=aS zU) ((am (aQ 1 jW.nd au)
   (am (VB ⟨rfl,rfl,rfl⟩ (fun _ _=>by exact (aq (aQ 1 jW.nd (f8 (aa bn (aa (eM 0 D hB hf fX hr.m P4) ae)))))) (BH 2 (K:=K) rfl jW.nd T.HZ T.Vi T.aac (fun _=>by exact (aq (aQ 1 jW.nd (f8 (aa bn (aa (Fj T.CB (V3 T) (ad 2)) ae)))))) (BH 2 (K:=K) rfl jW.nd T.qF T.Q7 T.So (fun _=>by exact (aq (aQ 1 jW.nd (f8 (aa bn (aa (Fj T.oY (Yq T) (ad 2)) ae)))))) (BH 2 (K:=K) rfl jW.nd T.QD T.RU T.OM (fun _=>by exact (aq (aQ 1 jW.nd (f8 (aa bn (aa (ad 2) ae)))))) R1))))
   (aq (aN (ad 1)))))) ?_
  refine stI [some (.ref fl),none,none] ?_;refine ai ?_;left;refine js (fun σ' H'=>∃ p t,σ'=[some (.ref fl),some (.ref p),t]/\Q (.ref p) H') ?_ ?_
  ·refine ⟨fun σ' C od H'=>σ'=[some (.ref fl),some .au,none]/\uC T.cn Q C od H',?_,?_⟩
   ·left;exact ⟨by trivial,_,_,cZ,fun v H' z=>⟨fits (by simp),fun p hp=>⟨p,_,rfl,z p _ (ao.upd hp) hp ax⟩⟩,fun C od H' z=>⟨rfl,z⟩⟩
   ·rintro σ' C od H' ⟨rfl,z⟩;rcases z with ⟨e,d,fd,rfl,hd,q⟩ | ⟨e,d,y,rfl,hd,q⟩
    ·cases e;refine ⟨true,T.QC,?_⟩;rw [if_pos rfl];intro ea hea;left;have s1:=ao.upd (o:=kb ea T.eR (some d)) hea;refine ⟨ea,d,_,_,rfl,ax,s1 _ _ hd,rfl,fits (by simp),fun p hp=>⟨p,_,rfl,q p _ (s1.trans (ao.upd hp)) (Bu s1 hp) ax⟩⟩
    ·cases e;refine ⟨false,T.PM,?_⟩;rw [if_neg (by nofun)];refine ⟨true,T.QK,?_⟩;rw [if_pos rfl];intro ea hea;left;have s1:=ao.upd (o:=kb ea T.eP (some d)) hea;refine ⟨ea,d,_,_,rfl,ax,s1 _ _ hd,rfl,fits (by simp),fun p hp=>⟨p,_,rfl,q p _ (s1.trans (ao.upd hp)) (Bu s1 hp) ax⟩⟩
  ·rintro σ' H' ⟨p,t,rfl,z⟩;left;exact z
def Js:Stmt->Expr
 | .If _ (.Return (some (.Call _ (e::_) _ _)) _::_) _ _=>e
 | .Return (some (.Call _ (e::_) _ _)) _=>e
 | .Assign _ (.Call _ (e::_) _ _) _=>e
 | _=>.Constant .none 0 ⟨0,0,0,0⟩
def jd:Expr->Scope
 | .Lambda _ _ sc _=>sc
 | _=>az qS
def vE:Expr->Arguments
 | .Lambda a _ _ _=>a
 | _=>eK qS
def RN:Expr->Expr
 | .Lambda _ b _ _=>b
 | e=>e
abbrev nu:List Str:=["_law_house","_law_cell","_law_source_here","_law_asker","_law_path_here","_law_way","_law_lead","_law_mine","_law_rest"]
abbrev gC:Str := "_law_built.<locals>.<lambda>"
abbrev g8 (k:Nat):Expr:=Js ((aS jm).getD k (.Pass ⟨0,0,0,0⟩))
abbrev wq (n:Nat):List (Str×Addr):=[("_law_rest",n+6),("_law_path_here",n+5),("_law_mine",n+4),("_law_house",n+1),("_law_asker",n+2)]
abbrev uX (n:Nat):List (Str×Addr):=[("_law_rest",n+6),("_law_path_here",n+5),("_law_mine",n+4),("_law_house",n+1),("_law_asker",n+2)]
abbrev wg (n:Nat):List (Str×Addr):=[("_law_path_here",n+5),("_law_lead",n+3),("_law_house",n+1),("_law_asker",n+2)]
section
variable {f c Pt:Addr} {ah:Value} {A:Around} {outer:List Env} {s:Shared} {H:Hp} {E:XK}
theorem Xr (hc:ah=.ref c) (C:PySem.W.CodeHd base c Pt) (hb:base.BuiltinsAt mg Pt):mQ (cF (bJ P w) P w K mg base nu "_law_built" (az jm) f ah A outer s H E) Pt (vE (g8 7)) (jd (g8 7)) (wq s.heap.objs.size) gC:=⟨rfl,rfl,⟨c,hc,C⟩,hb,by kernel_rfl⟩
theorem aae (n:Nat):kE ["_law_house","_law_asker","_law_path_here","_law_mine","_law_rest"] (jd (g8 7)) (wq n):=.of rfl rfl rfl (by decide +kernel) (by decide +kernel) ⟨fun _=>⟨_,rfl⟩,fun _=>⟨_,rfl⟩,fun _=>⟨_,rfl⟩,fun _=>⟨_,rfl⟩,fun _=>⟨_,rfl⟩,(fun z=>nomatch z),trivial⟩ (by simp)
theorem Us:lU (cF (bJ P w) P w K mg base nu "_law_built" (az jm) f ah A outer s H E) ["_law_house","_law_asker","_law_path_here","_law_mine","_law_rest"] [0,3,4,7,8] (wq s.heap.objs.size):=.of rfl rfl ⟨⟨rfl,rfl,rfl⟩,⟨rfl,rfl,rfl⟩,⟨rfl,rfl,rfl⟩,⟨rfl,rfl,rfl⟩,⟨rfl,rfl,rfl⟩,trivial⟩ ⟨rfl,rfl,rfl,rfl,rfl,trivial⟩
theorem TU (hc:ah=.ref c) (C:PySem.W.CodeHd base c Pt) (hb:base.BuiltinsAt mg Pt):mQ (cF (bJ P w) P w K mg base nu "_law_built" (az jm) f ah A outer s H E) Pt (vE (g8 8)) (jd (g8 8)) (uX s.heap.objs.size) gC:=⟨rfl,rfl,⟨c,hc,C⟩,hb,by kernel_rfl⟩
theorem OF (n:Nat):kE ["_law_house","_law_asker","_law_path_here","_law_mine","_law_rest"] (jd (g8 8)) (uX n):=.of rfl rfl rfl (by decide +kernel) (by decide +kernel) ⟨fun _=>⟨_,rfl⟩,fun _=>⟨_,rfl⟩,fun _=>⟨_,rfl⟩,fun _=>⟨_,rfl⟩,fun _=>⟨_,rfl⟩,(fun z=>nomatch z),trivial⟩ (by simp)
theorem Wo:lU (cF (bJ P w) P w K mg base nu "_law_built" (az jm) f ah A outer s H E) ["_law_house","_law_asker","_law_path_here","_law_mine","_law_rest"] [0,3,4,7,8] (uX s.heap.objs.size):=.of rfl rfl ⟨⟨rfl,rfl,rfl⟩,⟨rfl,rfl,rfl⟩,⟨rfl,rfl,rfl⟩,⟨rfl,rfl,rfl⟩,⟨rfl,rfl,rfl⟩,trivial⟩ ⟨rfl,rfl,rfl,rfl,rfl,trivial⟩
theorem XF (hc:ah=.ref c) (C:PySem.W.CodeHd base c Pt) (hb:base.BuiltinsAt mg Pt):mQ (cF (bJ P w) P w K mg base nu "_law_built" (az jm) f ah A outer s H E) Pt (vE (g8 9)) (jd (g8 9)) (wg s.heap.objs.size) gC:=⟨rfl,rfl,⟨c,hc,C⟩,hb,by kernel_rfl⟩
theorem XA (n:Nat):kE ["_law_house","_law_asker","_law_path_here","_law_lead"] (jd (g8 9)) (wg n):=.of rfl rfl rfl (by decide +kernel) (by decide +kernel) ⟨fun _=>⟨_,rfl⟩,fun _=>⟨_,rfl⟩,fun _=>⟨_,rfl⟩,fun _=>⟨_,rfl⟩,(fun z=>nomatch z),trivial⟩ (by simp)
theorem Yx:lU (cF (bJ P w) P w K mg base nu "_law_built" (az jm) f ah A outer s H E) ["_law_house","_law_asker","_law_path_here","_law_lead"] [0,3,4,6] (wg s.heap.objs.size):=.of rfl rfl ⟨⟨rfl,rfl,rfl⟩,⟨rfl,rfl,rfl⟩,⟨rfl,rfl,rfl⟩,⟨rfl,rfl,rfl⟩,trivial⟩ ⟨rfl,rfl,rfl,rfl,trivial⟩
end
abbrev Cp:List Str:=["_law_house","_law_asker","_law_path_here","_law_mine","_law_rest","_law_told_here","_law_ahead","_law_found"]
abbrev nG:Str := "_law_set.<locals>.<lambda>"
abbrev vy (k:Nat):Expr:=Js ((aS pM).getD k (.Pass ⟨0,0,0,0⟩))
abbrev vp (n:Nat):List (Str×Addr):=[("_law_rest",n+5),("_law_path_here",n+3),("_law_mine",n+4),("_law_house",n+1),("_law_asker",n+2)]
section
variable {f c Pt:Addr} {ah:Value} {A:Around} {outer:List Env} {s:Shared} {H:Hp} {E:XK}
theorem Rn (hc:ah=.ref c) (C:PySem.W.CodeHd base c Pt) (hb:base.BuiltinsAt mg Pt):mQ (cF (bJ P w) P w K mg base Cp "_law_set" (az pM) f ah A outer s H E) Pt (vE (vy 2)) (jd (vy 2)) (vp s.heap.objs.size) nG:=⟨rfl,rfl,⟨c,hc,C⟩,hb,by kernel_rfl⟩
theorem PN (n:Nat):kE ["_law_house","_law_asker","_law_path_here","_law_mine","_law_rest"] (jd (vy 2)) (vp n):=.of rfl rfl rfl (by decide +kernel) (by decide +kernel) ⟨fun _=>⟨_,rfl⟩,fun _=>⟨_,rfl⟩,fun _=>⟨_,rfl⟩,fun _=>⟨_,rfl⟩,fun _=>⟨_,rfl⟩,(fun z=>nomatch z),trivial⟩ (by simp)
theorem Qp:lU (cF (bJ P w) P w K mg base Cp "_law_set" (az pM) f ah A outer s H E) ["_law_house","_law_asker","_law_path_here","_law_mine","_law_rest"] [0,1,2,3,4] (vp s.heap.objs.size):=.of rfl rfl ⟨⟨rfl,rfl,rfl⟩,⟨rfl,rfl,rfl⟩,⟨rfl,rfl,rfl⟩,⟨rfl,rfl,rfl⟩,⟨rfl,rfl,rfl⟩,trivial⟩ ⟨rfl,rfl,rfl,rfl,rfl,trivial⟩
end
theorem KN {H H':Hp} {Pt:Addr} {q:Str} {es:List Ent} (t:eG H Pt q es) (k:∀ b φ,H b=some (.ext φ)->H' b=some (.ext φ)):eG H' Pt q es:=⟨k _ _ t.tab,fun e he=>k _ _ (t.code e he)⟩
def NX (H H':Hp):Prop:=∀ b o,(∀ φ,o≠.ext φ)->H b=some o->H' b=some o
theorem uL {Pt:Addr} {q:Str} {c:Addr} {H H1:Hp} {es:List Ent} (L:nA Pt q c H H1) (t:eG H Pt q es):NX H H1:=fun b o no e=>L.Gr b o (fun z=>by rw [z,t.tab] at e; cases e; exact no _ rfl) e
theorem i9.gd {CT:Addr} {H H':Hp} {a:Ta} {i:Nat} {t:Th} (h:i9 CT H a i t) (k:NX H H'):i9 CT H' a i t where
 o:=let ⟨fs,e,r⟩:=h.o; ⟨fs,k _ _ (by nofun) e,r⟩
 nm:=k _ _ (by nofun) h.nm
 pl:=k _ _ (by nofun) h.pl
theorem aJ.gd {CH CS CT:Addr} {H H':Hp} {A:Ad} {L:List Ta} {M:Hs} (i:aJ CH CS CT H A L M) (k:NX H H'):aJ CH CS CT H' A L M where
 h:=let ⟨fs,c,e,r⟩:=i.h; ⟨fs,c,k _ _ (by nofun) e,r⟩
 t:=let ⟨fs,c,e,r⟩:=i.t; ⟨fs,c,k _ _ (by nofun) e,r⟩
 ml:=k _ _ (by nofun) i.ml
 len:=i.len
 th:=fun j t e=>let ⟨a,e1,h⟩:=i.th j t e; ⟨a,e1,h.gd k⟩
 ro:=k _ _ (by nofun) i.ro
 st:=k _ _ (by nofun) i.st
 tr:=k _ _ (by nofun) i.tr
 ov:=k _ _ (by nofun) i.ov
 un:=k _ _ (by nofun) i.un
 nd:=i.nd
def IG (xs:List V):Prop:=∀ v∈xs,∀ a,v≠V.ref a
theorem wV (zs:List Int):IG (zs.map V.int):=fun v hv a=>by obtain ⟨z,_,rfl⟩:=List.mem_map.mp hv; nofun
def vf:HO->Prop
 | .lst xs=>IG xs
 | .eA _ _=>True
 | .ext _=>True
 | _=>False
def lR (st:Addr) (H H':Hp):Prop:=∀ c o,c≠st->vf o->H c=some o->H' c=some o
def cE (H H':Hp):Prop:=∀ c o,vf o->H c=some o->H' c=some o
theorem cE.l {st:Addr} {H H':Hp} (k:cE H H'):lR st H H':=fun c o _ h e=>k c o h e
theorem lR.trans {st:Addr} {H H1 H2:Hp} (a:lR st H H1) (b:lR st H1 H2):lR st H H2:=fun c o n h e=>b c o n h (a c o n h e)
theorem cE.trans {H H1 H2:Hp} (a:cE H H1) (b:cE H1 H2):cE H H2:=fun c o h e=>b c o h (a c o h e)
theorem cE.of {H H':Hp} (s:ao H H'):cE H H':=fun c o _ e=>s _ _ e
theorem cE.tab {H H':Hp} {Pt:Addr} {q:Str} {es:List Ent} (k:cE H H') (t:eG H Pt q es):eG H' Pt q es:=KN t fun _ _ e=>k _ _ trivial e
theorem K3 {Pt:Addr} {q:Str} {c:Addr} {H H1:Hp} (L:nA Pt q c H H1):lR Pt H H1:=fun b o n _ e=>L.Gr b o n e
section
variable {CH CS CT:Addr} {H H':Hp} {A:Ad} {L:List Ta} {M:Hs}
theorem aJ.IQ (i:aJ CH CS CT H A L M) (h0:M.ts≠[]) {b:Addr} {o:HO} (hb:b∈A.w++L.flatMap Ta.l) (hx:vf o) (e:H b=Option.some o):False:=by
 rcases List.mem_append.mp hb with h | h
 ·simp only [Ad.w,List.mem_cons,List.not_mem_nil,or_false] at h;rcases h with rfl | rfl | rfl | rfl | rfl | rfl | rfl | rfl
  ·obtain ⟨_,_,e',_⟩:=i.h; rw [e'] at e; cases e; exact hx
  ·obtain ⟨_,_,e',_⟩:=i.t; rw [e'] at e; cases e; exact hx
  ·rw [i.ml] at e;cases e;cases L with
   | nil=>exact h0 (List.length_eq_zero_iff.mp i.len.symm)
   | cons a r=>exact hx (.ref a.th) (by simp) a.th rfl
  ·rw [i.ro] at e; cases e; exact hx
  ·rw [i.st] at e; cases e; exact hx
  ·rw [i.tr] at e; cases e; exact hx
  ·rw [i.ov] at e; cases e; exact hx
  ·rw [i.un] at e; cases e; exact hx
 ·obtain ⟨a,ha,h⟩:=List.mem_flatMap.mp h;obtain ⟨j,ha⟩:=List.getElem?_of_mem ha;have bL:j < M.ts.length:=by rw [<- i.len]; exact (List.getElem?_eq_some_iff.mp ha).1
  obtain ⟨a',e1,t⟩:=i.th j _ (List.getElem?_eq_getElem bL);rw [ha] at e1; cases e1;simp only [Ta.l,List.mem_cons,List.not_mem_nil,or_false] at h;rcases h with rfl | rfl | rfl
  ·obtain ⟨_,e',_⟩:=t.o; rw [e'] at e; cases e; exact hx
  ·rw [t.nm] at e; cases e; exact hx
  ·rw [t.pl] at e; cases e; exact hx
theorem aJ.off (i:aJ CH CS CT H A L M) (h0:M.ts≠[]) {W:List Addr} (hW:∀ b∈W,b∈A.w++L.flatMap Ta.l) (k:Kp W H H'):cE H H':=fun c o ho e=>k c _ (fun hc=>i.IQ h0 (hW c hc) ho e) e
theorem aJ.drawn {st:Addr} (i:aJ CH CS CT H A L M) (h0:M.ts≠[]) (d:Dr st H) (k:cj st H H'):aJ CH CS CT H' A L M:=by
 refine i.keep (W:=[st]) (fun b o hb e=>k b o (by simpa using hb) e) fun b hb hm=>?_;obtain rfl:b=st:=by simpa using hm
 obtain ⟨x,y,z,e⟩:=d;exact i.IQ h0 hb (show vf (.lst [.int x,.int y,.int z]) from wV [x,y,z]) e
end
theorem Gd.ne {M:Hs} (g:Gd M):M.ts≠[]:=fun e=>by obtain ⟨t,h,_⟩:=g.t0; rw [e] at h; cases h
def wN:List (Str×Nat):=[("own",0),("guest",0),("other",0)]
structure h9 (M:Hs) (n:Nat):Prop where
 g:Gd M
 ro:M.ro=wN
 ld:∀ (k:Nat) (t:Th),M.ts[k]?=some t->t.kd=("lead" : Str)->t.mi=("" : Str)/\t.re=("" : Str)
 n:M.ts.length<=n
def Hz (CH CS CT:Addr) (A:Ad) (n:Nat) (H:Hp):Prop:=∃ L M,aJ CH CS CT H A L M/\h9 M n
theorem h9.make {M:Hs} {n f:Nat} (h:h9 M n) {tf:Th} {nm kd ow mi re tx:Str} (bX:M.ts[f]?=some tf) (gR:tf.kd=("folder" : Str)) (cf:nm.length<=8) (DC:aP (sD tf.aM) (.inr nm)=none) (hk:kd=("folder" : Str)\/kd=("file" : Str)\/kd=("lead" : Str)) (mC:kd=("lead" : Str)->(mi=("" : Str)/\re=("" : Str))/\∃ tl,tx=Tx.S tl/\fK tl/\tl.length<=120) :
  h9 { M with ts:=M.ts.set f { tf with aM:=tf.aM++[(nm,M.ts.length)] }++[⟨kd,ow,mi,re,tx,[],[(f,nm)]⟩] } (n+1):=by
 refine ⟨h.g.make bX gR cf DC hk fun e=>(mC e).2,h.ro,fun k t ht e=>?_,?_⟩
 ·dsimp only at ht;rcases Nat.lt_or_ge k (M.ts.set f { tf with aM:=tf.aM++[(nm,M.ts.length)] }).length with h1 | h1
  ·rw [List.getElem?_append_left h1,List.getElem?_set] at ht;split at ht
   ·split at ht
    ·cases ht; exact h.ld _ tf bX e
    ·cases ht
   ·exact h.ld _ _ ht e
  ·rw [List.getElem?_append_right h1] at ht
   match hj:k - (M.ts.set f { tf with aM:=tf.aM++[(nm,M.ts.length)] }).length with
   | 0=>rw [hj] at ht; cases ht; exact (mC e).1
   | j+1=>rw [hj] at ht; cases ht
 ·have:=h.n;simp;omega
theorem h9.BQ {M:Hs} {n k:Nat} (h:h9 M n) {t:Th} {mi re:Str} (ht:M.ts[k]?=some t) (hk:t.kd≠("lead" : Str)):h9 { M with ts:=M.ts.set k { t with mi:=mi,re:=re } } n:=by
 refine ⟨h.g.BQ ht,h.ro,fun j t' ht' e=>?_,by have:=h.n; simp; omega⟩;dsimp only at ht';rw [List.getElem?_set] at ht';split at ht'
 ·split at ht'
  ·cases ht'; exact absurd e hk
  ·cases ht'
 ·exact h.ld _ _ ht' e
theorem Yk {N:Cn} {H:Hp} {Q:VK} (h:∀ v H2,ao H H2->Q v H2):∀ r:Rf,fh N H (uC N Q) r
 | .eM y=>fun d H' s e=>.inr ⟨rfl,d,y,rfl,e,fun p H2 s2 _ _=>h _ H2 (s.trans s2)⟩
 | .way r=>fun fd d H' s _ e=>.inl ⟨rfl,d,fd,rfl,e,fun p H2 s2 _ _=>h _ H2 (s.trans s2)⟩
theorem yn {N:Cn} {H:Hp} {A:Ad} {L:List Ta} {M:Hs} {n:Nat} {z kd mi re tx:Str} {t:List Nat} {Q:VK} (i:aJ N.CH N.CS N.CT H A L M) (g:h9 M n) (xt:n<=80) (hz:z∈AS) (hp:Ao t)
  (ki:mi∈dJ) (fe:re∈dJ) (cm:kd=("folder" : Str)\/kd=("file" : Str)\/kd=("lead" : Str)) (mC:kd=("lead" : Str)->(mi=("" : Str)/\re=("" : Str))/\∃ tl,tx=Tx.S tl/\fK tl/\tl.length<=120) (q:∀ v H',Hz N.CH N.CS N.CT A (n+1) H'->cE H H'->Q v H') :
  vJ N H A L M z t kd mi re tx (fun v H'=>∀ p H2,ao H' H2->H' p=none->H2 p=some (.tup [.str "told",v])->Q (.ref p) H2) (uC N Q):=by
 have xb:fK t:=⟨hp.l1,by have:=hp.l2; omega,hp.all⟩;have hw:=hp.n;have hn:=g.n;obtain ⟨root,r,hr,hf⟩:=Zd (L:=L) g.g i.len (by omega) hz xb (by omega);obtain ⟨r0,k0,ga⟩:=g.g.as z hz;refine ⟨i,xb,by rw [ga.ro]; rfl,ki,fe,by rw [i.len]; omega,fun f t0 h=>by have:=(g.g.th f t0 h).nl; omega,root,r,hr,fun x e=>Yk (fun v H2 s=>q v H2 ⟨L,M,i.same s,g.g,g.ro,g.ld,by omega⟩ (cE.of s)) x,fun f nm a0 t0 e gr qw a H' i' k' p H2 s2 _ _=>?_⟩;obtain ⟨tf,bX,gR,cf,hv⟩:=hf f nm e;rw [qw] at bX; cases bX;have kA:=i.off g.g.ne (W:=[A.t,A.ml,a0.nm]) (fun b hb=>by
  simp only [List.mem_cons,List.not_mem_nil,or_false] at hb;rcases hb with rfl | rfl | rfl
  ·simp [Ad.w]
  ·simp [Ad.w]
  ·exact List.mem_append_right _ (jK gr (by simp [Ta.l]))) k'
 exact q _ H2 ⟨_,_,i'.same s2,g.make qw gR (by rw [Tx.cY]; exact (vv cf).2.2.2) hv cm mC⟩ (kA.trans (cE.of s2))
theorem wJ {σ:St}:ng [] σ []:=⟨rfl,nofun⟩
theorem eh {j:Nat} {ix:List Nat} {σ:St} {v:V} {vs:List V} (h:σ[j]?=some (some v)) (c:ng ix σ vs):ng (j::ix) σ (v::vs):=⟨congrArg (· + 1) c.1,fun i k u h1 h2=>by
 cases i with
 | zero=>cases h1; cases h2; exact h
 | succ i=>exact c.2 i k u h1 h2⟩
abbrev wK (P:Program) (w:World) (K:PySem.W.Frag) (mg:Str->Option Value) (base:Heap) (N:List Str) (q:Str) (e:Expr) (cl:List (Str×Addr)) (W:List V->eV):Prop:=∀ (f:Addr) (ah:Value) (vs:List V) (A:Around) (outer:List Env) (s:Shared) (H:Hp) (Q:VK) (E:XK),aZ 16 (A.deeper (PySem.W.envX q (jd e) s.heap.objs.size f ah cl))->W vs H Q E->∃ t,PE (lN P w K mg base N q (jd e) f ah cl A outer s H E) (RN e) t/\t (vs.map some) H Q
def Oe (N:Cn) (Pe:Addr):Sp:=jg fun x _ H Q _=>X3 fun A n es=>A5 (Hz N.CH N.CS N.CT A n H) (A.a=x) (n<=80) (eG H Pe gC es) (∀ v es' H',Hz N.CH N.CS N.CT A (n+1) H'->eG H' Pe gC es'->lR Pe H H'->Q v H')
def wa:List V->List V
 | [a,b,c,d,e]=>[a,b,c,d,e]
 | _=>[]
def JY:List V->List V
 | [a,b,c,d]=>[a,b,c,d]
 | _=>[]
def Ll:List V->List V
 | [h,z,p,m,r]=>[h,z,p,.str "text",m,r]
 | _=>[]
theorem ZV {Pe:Addr} (C:PySem.W.CodeHd base T.qb Pe) (nO:base.BuiltinsAt mg Pe):aB P w K mg base (bJ P w) 19 T.Er T.w6 ["_law_house","_law_cell"] (Oe T.cn Pe):=by
 refine T.uI.yu lD (fun vs H Q E h=>?_) (fun ah A outer s H vs Q E bM hr h=>?_)
 ·exact bW h fun _ _ _=>rfl
 ·refine bW h fun x cell h=>?_;obtain ⟨AA,n,es,⟨L,M,i,g⟩,rfl,xt,tab,q⟩:=h;have LB_l_built0:wK P w K mg base ["_law_house","_law_asker","_law_path_here","_law_mine","_law_rest"] gC (g8 7) (wq s.heap.objs.size) (fun vs=>Fc T.cn (wa vs)):=by
   intro f ah vs A outer s' H Q E hr hw;unfold wa at hw;split at hw
   ·refine ⟨_,(eO (V6 T) hr.m T.TK T.vb.kp T.ze .nil vc (aa (ad 0) (aa (ad 1) (aa (ad 2) (aa (ad 3) (aa (ad 4) ae)))))).h,?_⟩;simp only [List.map_cons,List.map_nil];left;exact hw
   ·exact hw.elim
  have LB_l_built1:wK P w K mg base ["_law_house","_law_asker","_law_path_here","_law_mine","_law_rest"] gC (g8 8) (uX s.heap.objs.size) (fun vs=>KW T.cn (Ll vs)):=by
   intro f ah vs A outer s' H Q E hr hw;unfold Ll at hw;split at hw
   ·refine ⟨_,(eO (VU T) hr.m T.PU T.uS.kp T.Ca .nil vc (aa (ad 0) (aa (ad 1) (aa (ad 2) (aa bn (aa (ad 3) (aa (ad 4) ae))))))).h,?_⟩;simp only [List.map_cons,List.map_nil];left;exact hw
   ·exact hw.elim
  have LB_l_built2:wK P w K mg base ["_law_house","_law_asker","_law_path_here","_law_lead"] gC (g8 9) (wg s.heap.objs.size) (fun vs=>JZ T.cn (JY vs)):=by
   intro f ah vs A outer s' H Q E hr hw;unfold JY at hw;split at hw
   ·refine ⟨_,(eO (Zc T) hr.m T.oZ.m T.oZ.F.kp T.oZ.b .nil vc (aa (ad 0) (aa (ad 1) (aa (ad 2) (aa (ad 3) ae))))).h,?_⟩;simp only [List.map_cons,List.map_nil];left;exact hw
   ·exact hw.elim
  refine bK (b:=aS jm) ((am (aQ 2 lD.nd (bv (K7 T) hr.m T.kz.m T.kz.F.kp T.kz.b .nil aw (aa (ad 1) ae)))
  (am (aQ 3 lD.nd (ci (bG (K:=K) rfl) (db (aa bn (aa bn (aa bn ae)))) (bv (gA T) hr.m T.bN.m T.bN.F.kp T.bN.b .nil aw (aa (ad 2) (aa bi ae)))))
  (am (aQ 4 lD.nd (bv (vH T) hr.m T.fP.m T.fP.F.kp T.fP.b .nil aw (aa (ad 2) (aa bi ae))))
  (am (aQ 5 lD.nd (bv (gA T) hr.m T.bN.m T.bN.F.kp T.bN.b .nil aw (aa (ad 2) (aa bi ae))))
  (am (aQ 6 lD.nd (bv (vH T) hr.m T.fP.m T.fP.F.kp T.fP.b .nil aw (aa (ad 2) (aa bi ae))))
  (am (aQ 7 lD.nd (ci (bG (K:=K) rfl) (db (aa bn (aa bn (aa bn (aa bn (aa bn ae)))))) (bv (gA T) hr.m T.bN.m T.bN.F.kp T.bN.b .nil aw (aa (ad 2) (aa bi ae)))))
  (am (aQ 8 lD.nd (ci (bG (K:=K) rfl) (db (aa bn (aa bn (aa bn (aa bn (aa bn (aa bn ae))))))) (bv (gA T) hr.m T.bN.m T.bN.F.kp T.bN.b .nil aw (aa (ad 2) (aa bi ae)))))
  (am (bB (bY vP (ad 5) bi) (aq (aN (wo (wk T) hr.m T.fT.m T.fT.F.kp T.fT.b dE LB_l_built0 (Xr (bM.symm.trans T.AV) C nO) (aae _) Us))) cr)
  (am (bB (bY vP (ad 5) bi) (aq (aN (wo (wk T) hr.m T.fT.m T.fT.F.kp T.fT.b dE LB_l_built1 (TU (bM.symm.trans T.AV) C nO) (OF _) Wo))) cr)
  (aq (aN (wo (wk T) hr.m T.fT.m T.fT.F.kp T.fT.b dE LB_l_built2 (XF (bM.symm.trans T.AV) C nO) (XA _) Yx))))))))))))) ?_
  rw [show start nu [V.ref AA.a,V.int cell]=[some (V.ref AA.a),some (V.int cell),none,none,none,none,none,none,none] from rfl];refine ai ?_;left;intro st a b c aR;have s1:=ao.upd (o:=.lst [.int a,.int b,.int c]) aR;have d1:Dr st (upd H st (.lst [.int a,.int b,.int c])):=⟨a,b,c,ax⟩;generalize upd H st (.lst [.int a,.int b,.int c])=H1 at s1 d1 ⊢;refine ai ?_;left;refine ji d1 rfl (by simp) (by simp) fun v H2 hv d2 k2=>?_;obtain ⟨z,hz,rfl⟩:∃ z,z∈AS/\v=V.str z:=by
   simp only [List.mem_cons,List.not_mem_nil,or_false] at hv;rcases hv with rfl | rfl | rfl <;> exact ⟨_,by decide +kernel,rfl⟩
  refine ai ?_;left;refine ⟨d2,by decide,by decide,fun t H3 hp d3 k3=>ai ?_⟩;left;refine oy d3 (by decide) (by decide) fun way H4 _ _ d4 k4=>ai ?_;left;refine ⟨d4,by decide,by decide,fun tl H5 bt d5 k5=>ai ?_⟩;left;refine ji d5 rfl (by simp) (by simp) fun v H6 hv d6 k6=>?_;obtain ⟨mi,ki,rfl⟩:∃ z,z∈dJ/\v=V.str z:=by
   simp only [List.mem_cons,List.not_mem_nil,or_false] at hv;rcases hv with rfl | rfl | rfl | rfl | rfl <;> exact ⟨_,by decide +kernel,rfl⟩
  refine ai ?_;left;refine ji d6 rfl (by simp) (by simp) fun v H7 hv d7 k7=>?_;obtain ⟨re,fe,rfl⟩:∃ z,z∈dJ/\v=V.str z:=by
   simp only [List.mem_cons,List.not_mem_nil,or_false] at hv;rcases hv with rfl | rfl | rfl | rfl | rfl | rfl <;> exact ⟨_,by decide +kernel,rfl⟩
  have kk:cj st H1 H7:=((((k2.trans k3).trans k4).trans k5).trans k6).trans k7;have i7:=(i.same s1).drawn g.g.ne d1 kk;have kA:cE H H7:=fun c o ho e=>kk c o (fun z=>by rw [z,aR] at e; cases e) (s1 _ _ e);have qy:=kA.tab tab;clear d1 d2 d3 d4 d5 d6 d7 k2 k3 k4 k5 k6 k7 kk s1;have fin:∀ {c:Addr} {H8:Hp},nA Pe gC c H7 H8->∀ v H',Hz T.cn.CH T.cn.CS T.cn.CT AA (n+1) H'->cE H8 H'->Q v H':=fun L8 v H' hh k=>by
   obtain ⟨es8,t8⟩:=L8.tab;exact q v es8 H' hh (k.tab t8) (kA.l.trans ((K3 L8).trans k.l))
  refine ai ?_;left;refine nI (fun _=>?_) (fun _=>ai ?_)
  ·refine ⟨es,[.ref AA.a,.str z,.str (Tx.S t),.str mi,.str re],qy,eh rfl (eh rfl (eh rfl (eh rfl (eh rfl wJ)))),fun c H8 L8=>⟨L8.code,AA,L,M,t,rfl,yn (i7.gd (uL L8 qy)) g xt hz hp ki fe (.inl rfl) (fun e=>absurd e (by decide +kernel)) (fin L8),rfl⟩⟩
  ·left;refine nI (fun _=>?_) (fun _=>?_)
   ·refine ⟨es,[.ref AA.a,.str z,.str (Tx.S t),.str mi,.str re],qy,eh rfl (eh rfl (eh rfl (eh rfl (eh rfl wJ)))),fun c H8 L8=>⟨L8.code,AA,L,M,t,rfl,yn (i7.gd (uL L8 qy)) g xt hz hp ki fe (.inr (.inl rfl)) (fun e=>absurd e (by decide +kernel)) (fin L8),rfl,by decide +kernel⟩⟩
   ·have hl:=bt.l2;have xq:fK tl:=⟨bt.l1,by omega,bt.all⟩;left;refine ⟨es,[.ref AA.a,.str z,.str (Tx.S t),.str (Tx.S tl)],qy,eh rfl (eh rfl (eh rfl (eh rfl wJ))),fun c H8 L8=>⟨L8.code,AA,L,M,t,tl,rfl,rfl,yn (i7.gd (uL L8 qy)) g xt hz hp (by decide +kernel) (by decide +kernel) (.inr (.inr rfl)) (fun _=>⟨⟨rfl,rfl⟩,tl,rfl,xq,by omega⟩) (fin L8),rfl,xq,by omega⟩⟩
def nz (H H':Hp):Prop:=∀ b o,((∃ xs,o=.lst xs)\/∃ xs,o=.tup xs)->H b=some o->H' b=some o
theorem NX.s {H H':Hp} (k:NX H H'):nz H H':=fun b o h e=>k b o (by rcases h with ⟨_,rfl⟩ | ⟨_,rfl⟩ <;> nofun) e
theorem nz.l {H H':Hp} (k:nz H H') {b:Addr} {xs:List V} (e:H b=some (.lst xs)):H' b=some (.lst xs):=k _ _ (.inl ⟨_,rfl⟩) e
theorem nz.t {H H':Hp} (k:nz H H') {b:Addr} {xs:List V} (e:H b=some (.tup xs)):H' b=some (.tup xs):=k _ _ (.inr ⟨_,rfl⟩) e
theorem fC.Hm {H H':Hp} {ts:List Th} {l:Addr} (h:fC H ts l) (k:nz H H'):fC H' ts l:=by
 obtain ⟨rs,e,el,nd,r⟩:=h;refine ⟨rs,k.l e,el,nd,fun j a t h1 h2=>?_⟩;obtain ⟨ri,pl,nm,e1,e2,e3,e4,n⟩:=r j a t h1 h2;refine ⟨ri,pl,nm,k.l e1,k.t e2,?_,k.l e4,n⟩;rcases e3 with ⟨e,e3⟩ | ⟨f,z,y,e,e3,e5⟩
 ·exact .inl ⟨e,k.l e3⟩
 ·exact .inr ⟨f,z,y,e,k.l e3,k.t e5⟩
theorem gF.gd {N:Cn} {H H':Hp} {fd:Addr} (s:NX H H'):∀ {r:Res},gF N H fd r->gF N H' fd r
 | .found _ _,⟨d,e⟩=>⟨d,s _ _ (by nofun) e⟩
 | .failed _ _,⟨d,e⟩=>⟨d,s _ _ (by nofun) e⟩
 | .ring _,⟨d,l,e,f⟩=>⟨d,l,s _ _ (by nofun) e,s _ _ (by nofun) f⟩
section
variable {CH CS CT:Addr} {H H':Hp} {A:Ad} {L:List Ta} {M:Hs} {n:Nat}
theorem aJ.ON (i:aJ CH CS CT H A L M) {b:Addr} {z:Str} {xs:List V} (hb:b∈A.w++L.flatMap Ta.l) (e:H b=Option.some (HO.lst (.str z::xs))):False:=by
 rcases List.mem_append.mp hb with h | h
 ·simp only [Ad.w,List.mem_cons,List.not_mem_nil,or_false] at h;rcases h with rfl | rfl | rfl | rfl | rfl | rfl | rfl | rfl
  ·obtain ⟨_,_,e',_⟩:=i.h; rw [e'] at e; cases e
  ·obtain ⟨_,_,e',_⟩:=i.t; rw [e'] at e; cases e
  ·rw [i.ml] at e;cases L with
   | nil=>cases e
   | cons a r=>cases e
  ·rw [i.ro] at e; cases e
  ·rw [i.st] at e; cases e
  ·rw [i.tr] at e; cases e
  ·rw [i.ov] at e; cases e
  ·rw [i.un] at e; cases e
 ·obtain ⟨a,ha,h⟩:=List.mem_flatMap.mp h;obtain ⟨j,ha⟩:=List.getElem?_of_mem ha;have bL:j < M.ts.length:=by rw [<- i.len]; exact (List.getElem?_eq_some_iff.mp ha).1
  obtain ⟨a',e1,t⟩:=i.th j _ (List.getElem?_eq_getElem bL);rw [ha] at e1; cases e1;simp only [Ta.l,List.mem_cons,List.not_mem_nil,or_false] at h;rcases h with rfl | rfl | rfl
  ·obtain ⟨_,e',_⟩:=t.o; rw [e'] at e; cases e
  ·rw [t.nm] at e; cases e
  ·rw [t.pl] at e; cases e
theorem h9.rows (g:h9 M n) (hn:n<=60):∀ (k:Nat) (t:Th),M.ts[k]?=some t->t.aM.length < 64/\(t.bP=[]\/∃ f z,t.bP=[(f,z)]):=fun k t ht=>by
 have h:=g.g.th k t ht;have h1:=h.nl;have h2:=g.n;refine ⟨by omega,?_⟩;rcases h.pl with ⟨_,e⟩ | ⟨f,z,_,_,e,_⟩
 ·exact .inl e
 ·exact .inr ⟨f,z,e⟩
theorem allEq {K:PySem.W.Frag} {l:Addr} {Q:VK} {E:XK} (i:aJ CH CS CT H A L M) (g:h9 M n) (hn:n<=60) (a:fC H M.ts l) (q:∀ H',ao H H'->Q (.bl true) H'):GJ CH CS CT [.ref A.a] H (fun v H'=>pG K 4 v (.ref l) H' Q) E :=
 ⟨A,L,M,i,rfl,i.len,by have:=g.n; omega,g.rows hn,fun l' H' rs s _ h2 h3 h4 h5=>fC.eq ⟨rs,h2,h3,h4,fun k a t h6 h7=>(h5 k a t h6 h7).1⟩ (a.same s) (q H' s)⟩
theorem Gf {K:PySem.W.Frag} {p r:Addr} {xs:List V} {Q:VK} (e:H p=some (.tup xs)) (f:H r=some (.tup xs)) (h:xs.all cx=true) (q:Q (.bl true) H):pG K 4 (.ref p) (.ref r) H Q:=⟨_,_,.inr ⟨bC.of e,bC.of f⟩,rfl,DE.kG h,q⟩
end
def QX (N:Cn) (Ps:Addr):Sp:=wm fun x z pt m r H Q _=>X4 fun A n t es=>uH (pt=Tx.S t) (Hz N.CH N.CS N.CT A n H) (A.a=x) (z∈AS) (n<=60) (Ao t) (m∈dJ) (r∈dJ) (eG H Ps nG es) (∀ es' H',Hz N.CH N.CS N.CT A n H'->eG H' Ps nG es'->lR Ps H H'->Q (.bl true) H')
theorem UY {Ps:Addr} (C:PySem.W.CodeHd base T.qr Ps) (nO:base.BuiltinsAt mg Ps):aB P w K mg base (bJ P w) 19 T.DH T.xj ["_law_house","_law_asker","_law_path_here","_law_mine","_law_rest"] (QX T.cn Ps):=by
 refine T.uJ.yu vM (fun vs H Q E h=>?_) (fun ah A outer s H vs Q E bM hr h=>?_)
 ·exact o8 h fun _ _ _ _ _ _=>rfl
 ·refine o8 h fun x z pt m r h=>?_;obtain ⟨AA,n,t,es,rfl,⟨L,M,i,g⟩,rfl,hz,xp,hp,hm,fe,tab,q⟩:=h;have LB_l_set:wK P w K mg base ["_law_house","_law_asker","_law_path_here","_law_mine","_law_rest"] nG (vy 2) (vp s.heap.objs.size) (fun vs=>GL T.cn (wa vs)):=by
   intro f ah vs A outer s' H Q E hr hw;unfold wa at hw;split at hw
   ·refine ⟨_,(eO (Zx T) hr.m T.pV.m T.pV.F.kp T.pV.b .nil vc (aa (ad 0) (aa (ad 1) (aa (ad 2) (aa (ad 3) (aa (ad 4) ae)))))).h,?_⟩;simp only [List.map_cons,List.map_nil];left;exact hw
   ·exact hw.elim
  have cw:=hp.l2;have xb:fK t:=⟨hp.l1,by omega,hp.all⟩;have qU:=g.n;obtain ⟨r0,e,_,pw,_⟩:=Lg (L:=L) g.g i.len (by omega) hz true xb;refine bK (b:=aS pM) ((am (aQ 5 vM.nd (bv (y6 T) hr.m T.BF T.pC.kp T.tO (.cons (show RelV (.bl true) _ from rfl) .nil) aw (aa (ad 0) (aa (ad 1) (aa (ad 2) ae)))))
  (am (aQ 6 vM.nd (bv (vW T) hr.m T.fG.m T.fG.F.kp T.fG.b .nil aw (aa (ad 0) ae)))
  (am (aQ 7 vM.nd (wo (wk T) hr.m T.fT.m T.fT.F.kp T.fT.b dE LB_l_set (Rn (bM.symm.trans T.OH) C nO) (PN _) Qp))
  (am (bB (dB (cN (cC (t9 (K:=K) rfl) T.gb gf (aa (ad 5) (aa (dL (.ref T.dv) T.vN rfl) ae))))) (aq (aN (kq (bv (Ol T) hr.m T.pA.m T.pA.F.kp T.pA.b .nil aw (aa (ad 7) (aa (f8 (aa bn (aa (bv (FU T) hr.m T.jH.m T.jH.F.kp T.jH.b .nil aw (aa (ad 5) ae)) ae))) ae))) (gl (em (ko (K:=K) 4 rfl hr.jG) (bv (vW T) hr.m T.fG.m T.fG.F.kp T.fG.b .nil aw (aa (ad 0) ae)) (ad 6)))))) cr)
  (am (bB (bY kC (bf T.aK T.iC.h (vz T) hr.m T.iC.b .nil aw (ad 0) (aa (ap T.gU T.tY (ad 5)) ae)) (ad 1)) (aq (aN (kq (em (ko (K:=K) 4 rfl hr.jG) (ad 7) (f8 (aa bn (aa bn ae)))) (gl (em (ko (K:=K) 4 rfl hr.jG) (bv (vW T) hr.m T.fG.m T.fG.F.kp T.fG.b .nil aw (aa (ad 0) ae)) (ad 6)))))) cr)
  (am (qV (f8 (aa (ad 3) (aa (ad 4) ae))) (u9 (ci (bG (K:=K) rfl) (ad 6) (ap T.gU T.tY (ad 5))) bi vX))
  (aq (aN (kq (em (ko (K:=K) 4 rfl hr.jG) (ad 7) (f8 (aa bn (aa au ae)))) (gl (em (ko (K:=K) 4 rfl hr.jG) (bv (vW T) hr.m T.fG.m T.fG.F.kp T.fG.b .nil aw (aa (ad 0) ae)) (ad 6))))))))))))) ?_
  rw [show start Cp [V.ref AA.a,V.str z,V.str (Tx.S t),V.str m,V.str r]=[some (V.ref AA.a),some (V.str z),some (V.str (Tx.S t)),some (V.str m),some (V.str r),none,none,none] from rfl];refine ai ?_;left;refine ⟨AA,L,M,r0,t,e,rfl,i,rfl,pw,fun fd H1 s1 bc=>ai ?_⟩;left;refine ⟨AA,L,M,i.same s1,rfl,i.len,by omega,g.rows xp,fun l H2 rs s2 hl cw hlen iq MQ=>ai ?_⟩;have all2:fC H2 M.ts l:=⟨rs,cw,hlen,iq,fun k a t h1 h2=>(MQ k a t h1 h2).1⟩;have qC:=s1.trans s2;have Me:=(cE.of qC).tab tab;clear cw hlen iq MQ hl;left;refine ⟨es,[.ref AA.a,.str z,.str (Tx.S t),.str m,.str r],Me,eh rfl (eh rfl (eh rfl (eh rfl (eh rfl wJ)))),fun c H3 L3=>⟨L3.code,?_⟩⟩;have nx:=uL L3 Me;have i3:=(i.same qC).gd nx;have Ez:=all2.Hm nx.s;have dw:=(bc.same s2).gd nx;obtain ⟨es3,tab3⟩:=L3.tab;have fin:∀ {H'},Hz T.cn.CH T.cn.CS T.cn.CT AA n H'->cE H3 H'->Q (.bl true) H':=fun hh k=>q es3 _ hh (k.tab tab3) ((cE.of qC).l.trans ((K3 L3).trans k.l));by_cases hfound:∃ k ns,e.res=.found k ns
  ·obtain ⟨k,ns,hk⟩:=hfound;obtain ⟨th,aF,jv⟩:=pw.nl g.g hz hk;obtain ⟨a,ha⟩:=adr i.len aF;rw [hk] at dw;obtain ⟨bh,dw⟩:=dw;by_cases hown:th.ow=z
   ·refine ⟨AA,L,M,r0,t,.inr k,rfl,i3,rfl,.ok pw hk ha aF hown,hm,fe,(fun y e=>by cases e),fun k' a' th' e' ha' hth' H4 i4 k4 p H5 s5 nU ht5=>ai ?_⟩;cases e';rw [ha] at ha'; cases ha';rw [aF] at hth'; cases hth';have nW:∀ b∈[AA.t,a.th],∃ C dx fs,H3 b=some (.ins C dx fs)/\fs.lookup ("way" : Str)=none:=fun b hb=>by
     simp only [List.mem_cons,List.not_mem_nil,or_false] at hb;rcases hb with rfl | rfl
     ·obtain ⟨fs,c,e,_,sf⟩:=i3.t;exact ⟨_,_,fs,e,(sf _).trans rfl⟩
     ·obtain ⟨a',e1,t1⟩:=i3.th k th aF;rw [ha] at e1; cases e1;obtain ⟨fs,e,_,sf⟩:=t1.o;exact ⟨_,_,fs,e,(sf _).trans rfl⟩
    have ks:nz H3 H4:=fun b o h e=>k4 b o (fun hb=>by
     obtain ⟨C,dx,fs,e',_⟩:=nW b hb;rw [e'] at e;rcases h with ⟨_,rfl⟩ | ⟨_,rfl⟩ <;> cases e) e
    have ij:=s5 _ _ (k4 fd _ (fun hb=>by
     obtain ⟨C,dx,fs,e',e2⟩:=nW fd hb;rw [dw] at e'; cases e';cases e2) dw)
    have all5:=(Ez.Hm ks).same s5;have i5:=i4.same s5;have kA5:cE H3 H5:=(i3.off g.g.ne (fun b hb=>by
     simp only [List.mem_cons,List.not_mem_nil,or_false] at hb;rcases hb with rfl | rfl
     ·simp [Ad.w]
     ·exact List.mem_append_right _ (jK ha (by simp [Ta.l]))) k4).trans (cE.of s5)
    have g5:=g.BQ (mi:=m) (re:=r) aF jv;have hth5:(M.ts.set k { th with mi:=m,re:=r })[k]?=some { th with mi:=m,re:=r }:=List.getElem?_set_self (List.getElem?_eq_some_iff.mp aF).1;left;refine ⟨_,_,_,.of (.ins ij T.gU T.q1 T.q2 T.q3 T.q4),.cls T.q5,bb (ai ?_)⟩;left;obtain ⟨D9,kc,kh,_,l8⟩:=i5.h;refine mI kh l8 ⟨fd,_,_,_,rfl,ij,rfl,AA,L,_,k,_,_,i5,rfl,rfl,ha,hth5,?_⟩;refine dZ (by rw [decide_eq_true hown]; rfl) (ai ?_);left;obtain ⟨rs5,ar,xs,fV,hrk,qm,⟨u0,u1,u3,u2,u4,u5,rfl⟩,xM,hset⟩:=all5.set aF;refine ⟨fits (by simp),fun ri hri=>?_⟩;refine eF (o:=.tup [V.str m,V.str r]) hri fun H6 s6 b6=>?_;have LF:=hset m r ri H6 s6 b6;have Ds:=s6 _ _ qm;refine ⟨fd,_,_,_,rfl,s6 _ _ ij,rfl,?_⟩;dsimp only;simp only [bS,s6 _ _ fV];rw [jq (j:=k) (v:=V.ref ar) (by rw [List.getElem?_map,hrk]; rfl)];dsimp only;simp only [Ds];rw [show eI [V.str u0,V.str u1,V.ref u2,V.str u3,V.ref u4,V.ref u5].length 2=some 2 from rfl];dsimp only;have i7:aJ T.cn.CH T.cn.CS T.cn.CT (upd H6 ar (.lst ([V.str u0,V.str u1,V.ref u2,V.str u3,V.ref u4,V.ref u5].set 2 (V.ref ri)))) AA L { M with ts:=M.ts.set k { th with mi:=m,re:=r } } :=
     (i5.same s6).keep (W:=[ar]) (fun b o hb e=>by rw [ag (by simpa using hb)]; exact e) fun b hb hm=>by
      obtain rfl:b=ar:=by simpa using hm
      exact (i5.same s6).ON hb Ds
    have k7:cE H6 (upd H6 ar (.lst ([V.str u0,V.str u1,V.ref u2,V.str u3,V.ref u4,V.ref u5].set 2 (V.ref ri)))):=fun b o ho e=>by
     by_cases hb:b=ar
     ·subst hb;rw [Ds] at e; cases e;exact absurd rfl (ho (.ref u2) (by simp) u2)
     ·rw [ag hb]; exact e
    have p7:upd H6 ar (.lst ([V.str u0,V.str u1,V.ref u2,V.str u3,V.ref u4,V.ref u5].set 2 (V.ref ri))) p=some (.tup [V.str (Str.ofString "told"),V.au]):=by
     rw [ag (fun z=>by rw [z,qm] at ht5; cases ht5)];exact s6 _ _ ht5
    generalize upd H6 ar (.lst ([V.str u0,V.str u1,V.ref u2,V.str u3,V.ref u4,V.ref u5].set 2 (V.ref ri)))=H7 at i7 k7 p7 LF ⊢;refine ⟨fits (by simp),fun p8 Ej=>?_⟩;have s8:=ao.upd (o:=.tup [V.str (Str.ofString "told"),V.au]) Ej;refine Gf (s8 _ _ p7) ax rfl (bE (allEq (i7.same s8) g5 xp (LF.same s8) fun H9 s9=>fin ⟨L,_,(i7.same s8).same s9,g5⟩ ((kA5.trans (cE.of s6)).trans (k7.trans (cE.of (s8.trans s9))))))
   ·refine ⟨AA,L,M,r0,t,.inl (.eM "mine"),rfl,i3,rfl,.HM pw hk ha aF hown,hm,fe,(fun y e=>?_),fun k' a' th' e'=>by cases e'⟩;cases e;intro d H4 s4 ju;refine .inr ⟨rfl,d,"mine",rfl,ju,fun p H5 s5 nU ht5=>ai ?_⟩;have kL:=s4.trans s5;have ij:=kL _ _ dw;have i5:=i3.same kL;left;refine ⟨_,_,_,.of (.ins ij T.gU T.q1 T.q2 T.q3 T.q4),.cls T.q5,bb (ai ?_)⟩;left;obtain ⟨D9,kc,kh,_,l8⟩:=i5.h;refine mI kh l8 ⟨fd,_,_,_,rfl,ij,rfl,AA,L,M,k,_,_,i5,rfl,rfl,ha,aF,?_⟩;refine eB (by rw [decide_eq_false hown]; rfl) ⟨fits (by simp),fun p6 xm=>?_⟩;have s6:=ao.upd (o:=.tup [V.str (Str.ofString "deed"),V.str (Str.ofString "mine")]) xm;refine Gf (s6 _ _ ht5) ax rfl (bE (allEq (i5.same s6) g xp ((Ez.same kL).same s6) fun H7 s7=>fin ⟨L,M,(i5.same s6).same s7,g⟩ (cE.of ((kL.trans s6).trans s7))))
  ·have kI:∀ k ns,e.res≠.found k ns:=fun k ns h=>hfound ⟨k,ns,h⟩;refine ⟨AA,L,M,r0,t,.inl (.way e.res),rfl,i3,rfl,.way pw kI,hm,fe,(fun y e=>?_),fun k' a' th' e'=>by cases e'⟩;cases e;intro Mx d H4 s4 hfd4 ju;refine .inl ⟨rfl,d,Mx,rfl,ju,fun p H5 s5 nU ht5=>ai ?_⟩;have kL:=s4.trans s5;have ij:=dw.same kL;have i5:=i3.same kL;left;obtain ⟨t1,f1,h1,h2⟩:∃ t1 f1,tq K H5 (.ref fd) t1 f1/\oU K H5 t1 f1 (.ref T.dv) false:=by
    cases gu:e.res with
    | found k ns=>exact absurd gu (kI k ns)
    | failed k y =>
     rw [gu] at ij;obtain ⟨_,h⟩:=ij;exact ⟨_,_,.of (.ins h T.iH T.q6 T.q2 T.q3 T.q7),.cls T.q8⟩
    | ring ns =>
     rw [gu] at ij;obtain ⟨_,_,h,_⟩:=ij;exact ⟨_,_,.of (.ins h T.m3 T.rT T.q2 T.q3 T.sy),.cls T.AZ⟩
   refine ⟨t1,f1,false,h1,h2,bE ⟨e.res,ij,fun p6 H6 s6 _ ht6=>⟨fits (by simp),fun p7 hp7=>?_⟩⟩⟩;have s7:=ao.upd (o:=.tup [V.str (Str.ofString "way"),V.ref p6]) hp7;have qi:=s6.trans s7;refine ⟨Mx,p6,e.res,qi _ _ ht5,hfd4.same (s5.trans qi),ax,ht6.same s7,fun H8 s8=>bE (allEq (i5.same (qi.trans s8)) g xp (Ez.same (kL.trans (qi.trans s8))) fun H9 s9=>fin ⟨L,M,i5.same ((qi.trans s8).trans s9),g⟩ (cE.of ((kL.trans (qi.trans s8)).trans s9)))⟩
def zO (K:PySem.W.Frag) (tabs:nF):Sp:=fZ fun a H Q _=>A3 (∃ ns:List Int,aC K H a (ns.map V.int)) (mP tabs H) (∀ H',uY tabs H'->Q (.bl true) H')
def lH (K:PySem.W.Frag) (H:Hp) (a:Addr) (ns:List Int):Prop:=(∀ J,aC K J a (ns.map V.int))\/∃ o,H a=some (.eA o (.lst (ns.map V.int)))
theorem lH.sq {H:Hp} {a:Addr} {ns:List Int} (h:lH K H a ns):aC K H a (ns.map V.int):=by
 rcases h with h | h
 ·exact h H
 ·exact .inl (.inr h)
theorem lH.kp {H H':Hp} {a:Addr} {ns:List Int} (h:lH K H a ns) (k:∀ o,H a=some (.eA o (.lst (ns.map V.int)))->H' a=some (.eA o (.lst (ns.map V.int)))):lH K H' a ns:=by
 rcases h with h | ⟨o,h⟩
 ·exact .inl h
 ·exact .inr ⟨o,k _ h⟩
theorem GX (ns:List Int) (lo:Option Int) (k:Nat):∃ ms:List Int,fc (ns.map V.int) lo (some (k:Int))=ms.map V.int/\ms.length<=k:=by
 refine ⟨((ns.drop (HT.cM (ns.map V.int).length 0 lo)).take (HT.cM (ns.map V.int).length (ns.map V.int).length (some (k:Int)) - HT.cM (ns.map V.int).length 0 lo)),?_,?_⟩
 ·unfold fc;rw [<- List.map_drop,<- List.map_take]
 ·rw [List.length_take,HT.AO];omega
def M3:Hs:={ ts:=[{ kd := "folder",ow := "own",mi := "lgw",re := "lg",tx := "",aM:=[],bP:=[] }],ro:=wN,st:=wN,tr:=[("main",0)],ov:=[],un:=[] }
theorem yi:∀ z∈AS,aP (sD wN) (.inr z)=some (.int ((0:Nat):Int)):=by
 intro z hz;unfold AS at hz;simp only [List.mem_cons,List.not_mem_nil,or_false] at hz;rcases hz with rfl | rfl | rfl <;> decide +kernel
theorem Vr:h9 M3 1:=by
 refine ⟨⟨rfl,rfl,rfl,fun z hz=>⟨0,0,yi z hz,yi z hz,.refl,⟨_,rfl,rfl⟩,_,rfl,rfl⟩,Nat.le_refl 3,Nat.le_refl 3,⟨_,rfl,rfl⟩,fun k t ht=>?_⟩,rfl,fun k t ht e=>?_,Nat.le_refl 1⟩
 ·cases k with
  | zero =>
   cases ht;exact ⟨Nat.zero_le _,.inl rfl,fun e=>absurd (show ("folder" : Str) = "lead" from e) (by decide +kernel),.inl ⟨rfl,rfl⟩,fun z v h=>by cases h⟩
  | succ k=>simp [M3] at ht
 ·cases k with
  | zero=>cases ht; exact absurd (show ("folder" : Str) = "lead" from e) (by decide +kernel)
  | succ k=>simp [M3] at ht
theorem Hz.same {CH CS CT:Addr} {A:Ad} {n:Nat} {H H':Hp} (h:Hz CH CS CT A n H) (s:ao H H'):Hz CH CS CT A n H':=let ⟨L,M,i,g⟩:=h; ⟨L,M,i.same s,g⟩
theorem Hz.drawn {CH CS CT:Addr} {A:Ad} {n:Nat} {H H':Hp} {st:Addr} (h:Hz CH CS CT A n H) (d:Dr st H) (k:cj st H H'):Hz CH CS CT A n H':=let ⟨L,M,i,g⟩:=h; ⟨L,M,i.drawn g.g.ne d k,g⟩
structure Uq (N:Cn) (K:PySem.W.Frag) (Pe Ps:Addr) (A:Ad) (a ll:Addr) (ns zs:List Int) (n:Nat) (H:Hp):Prop where
 h:Hz N.CH N.CS N.CT A n H
 te:∃ es,eG H Pe gC es
 ts:H Ps=some (f6 Ps [])
 sc:lH K H a ns
 l:H ll=some (.lst (zs.map V.int))
structure lO (N:Cn) (Pe Ps:Addr) (A:Ad) (ll:Addr) (zs:List Int) (n:Nat) (H:Hp):Prop where
 h:Hz N.CH N.CS N.CT A n H
 te:∃ es,H Pe=some (f6 Pe es)
 ts:∃ es,eG H Ps nG es
 l:H ll=some (.lst (zs.map V.int))
theorem lO.same {N:Cn} {Pe Ps:Addr} {A:Ad} {ll:Addr} {zs:List Int} {n:Nat} {H H':Hp} (j:lO N Pe Ps A ll zs n H) (s:ao H H'):lO N Pe Ps A ll zs n H':=⟨j.h.same s,let ⟨es,e⟩:=j.te; ⟨es,s _ _ e⟩,let ⟨es,e⟩:=j.ts; ⟨es,(cE.of s).tab e⟩,s _ _ j.l⟩
theorem lO.drawn {N:Cn} {Pe Ps:Addr} {A:Ad} {ll st:Addr} {zs:List Int} {n:Nat} {H H':Hp} (j:lO N Pe Ps A ll zs n H) (nl:ll≠st) (d:Dr st H) (k:cj st H H'):lO N Pe Ps A ll zs n H':=by
 have kx:∀ b φ,H b=some (.ext φ)->H' b=some (.ext φ):=fun b φ e=>k _ _ (fun z=>by obtain ⟨_,_,_,d⟩:=d; rw [z,d] at e; cases e) e;exact ⟨j.h.drawn d k,let ⟨es,e⟩:=j.te; ⟨es,kx _ _ e⟩,let ⟨es,e⟩:=j.ts; ⟨es,KN e kx⟩,k _ _ nl j.l⟩
theorem SO {Pe Ps:Addr} (C:PySem.W.CodeHd base T.qb Pe) (nO:base.BuiltinsAt mg Pe) (C2:PySem.W.CodeHd base T.qr Ps) (hbt2:base.BuiltinsAt mg Ps) (qA:Ps≠Pe) :
  aB P w K mg base (bJ P w) 20 T.Et T.xN ["_law_script"] (zO K [(T.qb,Pe),(T.qr,Ps)]):=by
 have G_l_built:=ZV (P:=P) (w:=w) (base:=base) T C nO;have G_l_set:=UY (P:=P) (w:=w) (base:=base) T C2 hbt2;refine T.wD.yu iG (fun vs H Q E h=>?_) (fun ah A outer s H vs Q E bM hr h=>?_)
 ·exact cI h fun _ _=>rfl
 ·refine cI h fun a h=>?_;obtain ⟨⟨ns,hS⟩,hO,q⟩:=h;refine bK (b:=aS qS) ((am (aQ 1 iG.nd (io T.Wa (P9 T) hr.m T.VL T.qO.b .nil aw (aa bn ae)))
  (am (aY (bf T.aK T.mY.h (Le T) hr.m T.mY.b .nil aw (ad 1) (aa bn ae)))
  (am (aY (bf T.aK T.mY.h (Le T) hr.m T.mY.b .nil aw (ad 1) (aa bn ae)))
  (am (m6 JI rfl (mO (K:=K) rfl (jp (m8 (K:=K) rfl) (ad 0) pE (lT bi))) (fD 2 iG.nd) (aq (aY (eO G_l_built hr.m T.NP T.uI.kp T.y9 .nil dO (aa (ad 1) (aa (ad 2) ae))))))
  (am (m6 JI rfl (mO (K:=K) rfl (jp (m8 (K:=K) rfl) (ad 0) (lT bi) (lT bi))) (fD 2 iG.nd) (am (aQ 3 iG.nd (bv (K7 T) hr.m T.kz.m T.kz.F.kp T.kz.b .nil aw (aa (ad 2) ae)))
  (am (aQ 4 iG.nd (ci (bG (K:=K) rfl) (db (aa bn (aa bn (aa bn (aa bn ae))))) (bv (gA T) hr.m T.bN.m T.bN.F.kp T.bN.b .nil aw (aa (ad 3) (aa bi ae)))))
  (am (aQ 5 iG.nd (bv (vH T) hr.m T.fP.m T.fP.F.kp T.fP.b .nil aw (aa (ad 3) (aa bi ae))))
  (am (aQ 6 iG.nd (db (aa bn (aa bn (aa bn (aa bn (aa bn (aa bn (aa bn (aa bn ae))))))))))
  (am (aQ 7 iG.nd (ci (bG (K:=K) rfl) (ad 6) (cC (NW rfl) T.Cd Lz (aa bi (aa (bv (gA T) hr.m T.bN.m T.bN.F.kp T.bN.b .nil aw (aa (ad 3) (aa bi ae))) ae)))))
  (am (aQ 8 iG.nd (ci (bG (K:=K) rfl) (ad 6) (bv (gA T) hr.m T.bN.m T.bN.F.kp T.bN.b .nil aw (aa (ad 3) (aa bi ae)))))
  (am (bB (dB (cN (eO G_l_set hr.m T.Xc T.uJ.kp T.Am .nil dO (aa (ad 1) (aa (ad 4) (aa (ad 5) (aa (ad 7) (aa (ad 8) ae)))))))) (aq (aN ge)) cr)
  (am (aQ 9 iG.nd (ci (bG (K:=K) rfl) (db (aa bn (aa bn (aa bn ae)))) (bv (gA T) hr.m T.bN.m T.bN.F.kp T.bN.b .nil aw (aa (ad 3) (aa bi ae)))))
  (aq (bB (dB (cN (bv (S6 T) hr.m T.ox.m T.ox.F.kp T.ox.b .nil aw (aa (ad 1) (aa (ad 9) (aa (bv (vH T) hr.m T.fP.m T.fP.F.kp T.fP.b .nil aw (aa (ad 3) (aa bi ae))) ae)))))) (aq (aN ge)) cr)))))))))))
  (aq (aN (bv (Wn T) hr.m T.oM.m T.oM.F.kp T.oM.b .nil aw (aa (ad 1) ae)))))))))) ?_
  refine stI [some (.ref a),none,none,none,none,none,none,none,none,none] ?_;have ND:eG H Pe gC []:=hO.ok (c:=T.qb) gC (by simp);have MF:eG H Ps nG []:=hO.ok (c:=T.qr) nG (by simp);have M8:lH K H a ns:=by
   rcases hS with hS | hS
   ·rcases hS with hS | hS
    ·rcases hO.all a with z | ⟨o,xs,z⟩ | ⟨qq,hq,z⟩
     ·rw [z] at hS; cases hS
     ·rw [z] at hS; cases hS
     ·have z2:=hO.tab qq hq;rw [<- z,hS] at z2; cases z2
    ·exact .inr hS
   ·exact .inl fun J=>.inr hS
  refine ai ?_;left;intro x dx hx kH dF;refine ⟨⟨dx,ax⟩,by decide +kernel,by decide +kernel,fun A1 L1 H2 hA1 i2 n8 ie=>⟨rfl,?_⟩⟩;subst hA1;have k2:cE H H2:=fun b o ho e=>ie _ _ (by rw [List.mem_singleton]; exact aH e hx) (by rw [ag (aH e hx),ag (aH e kH)]; exact e);obtain ⟨mf,gc,gh,mq,eQ⟩:=i2.h;have Nc:∀ {L:List Ta},∀ b∈[A1.a,A1.ro,A1.st],b∈A1.w++L.flatMap Ta.l:=fun b hb=>by
   simp only [List.mem_cons,List.not_mem_nil,or_false] at hb;rcases hb with rfl | rfl | rfl <;> simp [Ad.w]
  refine ai ?_;left;refine mI gh eQ ⟨A1,L1,_,i2,rfl,by decide +kernel,by decide +kernel,by decide,by decide,by decide +kernel,by decide +kernel,fun H3 i3 k3=>ai ?_⟩;have k3':=k2.trans (i2.off (by nofun) Nc k3);obtain ⟨gfs3,gc3,Nz,ghl3,LZ⟩:=i3.h;left;refine mI Nz LZ ⟨A1,L1,_,i3,rfl,by decide +kernel,by decide +kernel,by decide,by decide,by decide +kernel,by decide +kernel,fun H4 i4 k4=>?_⟩;have k4':=k3'.trans (i3.off (by nofun) Nc k4);have h4:Hz T.cn.CH T.cn.CS T.cn.CT A1 1 H4:=⟨L1,M3,i4,Vr⟩;have te4:=k4'.tab ND;have ts4:=k4'.tab MF;have Nn:=M8.kp fun o e=>k4' _ _ trivial e;clear i2 i3 i4 k2 k3 k4 k3' k4' ND MF M8 gh Nz eQ LZ ie n8;refine js (fun σ' H'=>(∃ n,n<=21/\Hz T.cn.CH T.cn.CS T.cn.CT A1 n H')/\(∃ es,eG H' Pe gC es)/\H' Ps=some (f6 Ps [])/\lH K H' a ns/\∃ t1,σ'=[some (.ref a),some (.ref A1.a),t1,none,none,none,none,none,none,none]) ?_ ?_
  ·left;refine ⟨_,Nn.sq,fun ll uf=>⟨⟨_,aC.of ax⟩,?_⟩⟩;obtain ⟨zs,ez,hzl⟩:=GX ns none 20;rw [show ((20:Nat):Int)=20 from rfl] at ez;rw [ez];refine eF (o:=.lst (zs.map V.int)) uf fun H5 s5 b5=>?_;refine vV (xs:=zs.map V.int) (fun i σ' H'=>Uq T.cn K Pe Ps A1 a ll ns zs (1+i) H'/\∃ t1,σ'=[some (.ref a),some (.ref A1.a),t1,none,none,none,none,none,none,none]) ⟨⟨h4.same s5,⟨_,(cE.of s5).tab te4⟩,s5 _ _ ts4.tab,Nn.kp fun o e=>s5 _ _ e,b5⟩,_,rfl⟩ (fun i σ' H' _ h=>aC.of h.1.l) ?_ ?_
   ·rintro i x σ' H6 hx ⟨j,t1,rfl⟩;obtain ⟨m,hm,rfl⟩:=List.mem_map.mp (List.mem_of_getElem? hx);have hi:=(List.getElem?_eq_some_iff.mp hx).1;rw [List.length_map] at hi;obtain ⟨es,te⟩:=j.te;left;refine ⟨A1,1+i,es,j.h,rfl,by omega,te,fun v es' H7 h7 t7 k7=>?_⟩;have ne:∀ {b:Addr} {o:HO},(∀ φ,o≠.ext φ)->H6 b=some o->b≠Pe:=fun no e z=>by rw [z,te.tab] at e; cases e; exact no _ rfl
    exact ⟨⟨by rw [<- Nat.add_assoc]; exact h7,⟨es',t7⟩,k7 _ _ qA trivial j.ts,j.sc.kp fun o e=>k7 _ _ (ne (by nofun) e) trivial e,k7 _ _ (ne (by nofun) j.l) (wV zs) j.l⟩,_,rfl⟩
   ·rintro σ' H6 ⟨j,t1,rfl⟩;rw [List.length_map] at j;exact ⟨⟨_,by omega,j.h⟩,j.te,j.ts,j.sc,_,rfl⟩
  ·rintro σ' H5 ⟨⟨n,hn,h5⟩,te5,ts5,sc5,t1,rfl⟩;refine js (fun σ' H'=>Hz T.cn.CH T.cn.CS T.cn.CT A1 n H'/\(∃ es,H' Pe=some (f6 Pe es))/\(∃ es,H' Ps=some (f6 Ps es))/\∃ t1 t2 t3 t4 t5 t6 t7 t8,σ'=[some (.ref a),some (.ref A1.a),t1,t2,t3,t4,t5,t6,t7,t8]) ?_ ?_
   ·left;refine ⟨_,sc5.sq,fun ll uf=>⟨⟨_,aC.of ax⟩,?_⟩⟩;obtain ⟨zs,ez,hzl⟩:=GX ns (some 20) 50;rw [show ((50:Nat):Int)=50 from rfl] at ez;rw [ez];refine eF (o:=.lst (zs.map V.int)) uf fun H6 s6 b6=>?_;refine vV (xs:=zs.map V.int) (fun i σ' H'=>lO T.cn Pe Ps A1 ll zs n H'/\∃ t1 t2 t3 t4 t5 t6 t7 t8,σ'=[some (.ref a),some (.ref A1.a),t1,t2,t3,t4,t5,t6,t7,t8]) ⟨⟨h5.same s6,let ⟨es,t⟩:=te5; ⟨es,s6 _ _ t.tab⟩,⟨[],s6 _ _ ts5,fun _ z=>nomatch z⟩,b6⟩,_,_,_,_,_,_,_,_,rfl⟩ (fun i σ' H' _ h=>aC.of h.1.l) ?_ ?_
    ·rintro i x σ' H7 hx ⟨j,t1,t2,t3,t4,t5,t6,t7,t8,rfl⟩;obtain ⟨m,hm,rfl⟩:=List.mem_map.mp (List.mem_of_getElem? hx);left;refine ai ?_;left;intro st a0 b0 c0 aR;have nl:ll≠st:=fun z=>by have:=j.l; rw [z,aR] at this; cases this
     have j8:=j.same (ao.upd (o:=.lst [.int a0,.int b0,.int c0]) aR);have d8:Dr st (upd H7 st (.lst [.int a0,.int b0,.int c0])):=⟨a0,b0,c0,ax⟩;generalize upd H7 st (.lst [.int a0,.int b0,.int c0])=H8 at j8 d8 ⊢;refine ai ?_;left;refine ji d8 rfl (by simp) (by simp) fun v H9 hv d9 k9=>?_;obtain ⟨z,hz,rfl⟩:∃ z,z∈AS/\v=V.str z:=by
      simp only [List.mem_cons,List.not_mem_nil,or_false] at hv;rcases hv with rfl | rfl | rfl | rfl <;> exact ⟨_,by decide +kernel,rfl⟩
     have j9:=j8.drawn nl d8 k9;refine ai ?_;left;refine ⟨d9,by decide,by decide,fun t l7 hp DW kP=>ai ?_⟩;have j10:=j9.drawn nl d9 kP;left;refine ⟨fits (by simp),fun ps gk=>?_⟩;have xo:=ao.upd (o:=.lst (dJ.map V.str)) gk;have np:=DW.ne gk;have Mb:upd l7 ps (.lst (dJ.map V.str)) ps=some (.lst (dJ.map V.str)):=ax;have e11:[V.str (Str.ofString ""),V.str (Str.ofString "l"),V.str (Str.ofString "g"),V.str (Str.ofString "w"),V.str (Str.ofString "lg"),V.str (Str.ofString "lw"),V.str (Str.ofString "gw"),V.str (Str.ofString "lgw")]=dJ.map V.str:=rfl;rw [e11];generalize upd l7 ps (.lst (dJ.map V.str))=H11 at xo Mb ⊢;have j11:=j10.same xo;refine ai ?_;left;refine oy (DW.same xo) (by decide) (by decide) fun dg H12 g0 g1 d12 k12=>?_;have j12:=j11.drawn nl (DW.same xo) k12;have Mr:=k12 _ _ np Mb;have gm:0<=(if dg < 7 then dg else 7)/\(if dg < 7 then dg else 7) < (8:Int):=by split <;> omega
     dsimp only;generalize (if dg < 7 then dg else 7)=dm at gm ⊢;have rt:∀ d:Int,0<=d->d < 8->∃ r,r∈dJ/\cO (dJ.map V.str) d=some (V.str r):=fun d h0 h1=>by
      obtain ⟨v,hv,e⟩:=pick (xs:=dJ.map V.str) h0 h1;obtain ⟨r,hr,rfl⟩:=List.mem_map.mp hv;exact ⟨r,hr,e⟩
     obtain ⟨mi,ki,e⟩:=rt dm gm.1 gm.2;simp only [bS,Mr];rw [e];clear e;refine ai ?_;left;refine oy d12 (by decide) (by decide) fun dr H13 r0 r1 d13 MP=>?_;have uj:=j12.drawn nl d12 MP;obtain ⟨re,fe,e⟩:=rt dr r0 r1;simp only [bS,MP _ _ np Mr];rw [e];clear e;refine ai ?_;left;obtain ⟨es,Mc⟩:=uj.ts;obtain ⟨ep,e13⟩:=uj.te;refine ⟨A1,n,t,es,rfl,uj.h,rfl,hz,by omega,hp,ki,fe,Mc,fun es' H14 h14 t14 D8=>bb (ai ?_)⟩;have ne:∀ {b:Addr} {o:HO},(∀ φ,o≠.ext φ)->H13 b=some o->b≠Ps:=fun no e z=>by rw [z,Mc.tab] at e; cases e; exact no _ rfl
     have j14:lO T.cn Pe Ps A1 ll zs n H14:=⟨h14,⟨ep,D8 _ _ (Ne.symm qA) trivial e13⟩,⟨es',t14⟩,D8 _ _ (ne (by nofun) uj.l) (wV zs) uj.l⟩;have LV:Dr st H14:=by
      obtain ⟨x,y,z,e⟩:=d13;exact ⟨x,y,z,D8 _ _ (ne (by nofun) e) (wV [x,y,z]) e⟩
     left;refine ji LV rfl (by simp) (by simp) fun v H15 hv Mj k15=>?_;obtain ⟨z2,hz2,rfl⟩:∃ z,z∈AS/\v=V.str z:=by
      simp only [List.mem_cons,List.not_mem_nil,or_false] at hv;rcases hv with rfl | rfl | rfl <;> exact ⟨_,by decide +kernel,rfl⟩
     have j15:=j14.drawn nl LV k15;left;refine ⟨Mj,by decide,by decide,fun t2 H16 dP d16 k16=>?_⟩;have NJ:=j15.drawn nl Mj k16;obtain ⟨L,M,M5,Np⟩:=NJ.h;have qU:=Np.n;have eD:=dP.l2;obtain ⟨r0,e,_,pw,_⟩:=Lg (L:=L) Np.g M5.len (by omega) hz2 true (t:=t2) ⟨dP.l1,by omega,dP.all⟩;exact ⟨A1,L,M,r0,t2,e,rfl,M5,rfl,pw,fun H17 s17=>bb ⟨NJ.same s17,_,_,_,_,_,_,_,_,rfl⟩⟩
    ·rintro σ' H6 ⟨j,hh⟩;exact ⟨j.h,j.te,let ⟨es,t⟩:=j.ts; ⟨es,t.tab⟩,hh⟩
   ·rintro σ' H6 ⟨⟨L,M,i6,g6⟩,te6,ts6,t1,t2,t3,t4,t5,t6,t7,t8,rfl⟩;left;have qU:=g6.n;refine ⟨A1,L,M,i6,rfl,by omega,i6.len,by rw [g6.ro]; decide,fun z hz=>?_,g6.ld,fun H7 s7=>q H7 fun qq hq=>?_⟩
    ·rw [g6.ro] at hz ⊢;rw [yi z hz]; rfl
    ·simp only [List.mem_cons,List.not_mem_nil,or_false] at hq;rcases hq with rfl | rfl
     ·exact let ⟨es,e⟩:=te6; ⟨es,s7 _ _ e⟩
     ·exact let ⟨es,e⟩:=ts6; ⟨es,s7 _ _ e⟩
end
theorem RE {K:PySem.W.Frag} {a:Addr} {od:Option Addr} {tk:Nat} {sl:Array (Option Value)} {t0 t1:Tok} (l:K.lookup a=some ⟨.type "tuple",od,.seq ([.str "." t0,.str ".." t1]:List Value).toArray tk,sl⟩) (H:Hp):bC K H a [.str ".",.str ".."]:=.inr ⟨_,_,_,l,rfl,rfl,fits (by simp),(.cons ⟨_,rfl⟩ (.cons ⟨_,rfl⟩ .nil))⟩
theorem XJ {K:PySem.W.Frag} {a:Addr} {od:Option Addr} {tk:Nat} {sl:Array (Option Value)} {t0 t1 t2 t3 t4 t5 t6 t7:Tok} (l:K.lookup a=some ⟨.type "tuple",od,.seq ([.str "" t0,.str "l" t1,.str "g" t2,.str "w" t3,.str "lg" t4,.str "lw" t5,.str "gw" t6,.str "lgw" t7]:List Value).toArray tk,sl⟩) (H:Hp):bC K H a [.str "",.str "l",.str "g",.str "w",.str "lg",.str "lw",.str "gw",.str "lgw"]:=.inr ⟨_,_,_,l,rfl,rfl,fits (by simp),(.cons ⟨_,rfl⟩ (.cons ⟨_,rfl⟩ (.cons ⟨_,rfl⟩ (.cons ⟨_,rfl⟩ (.cons ⟨_,rfl⟩ (.cons ⟨_,rfl⟩ (.cons ⟨_,rfl⟩ (.cons ⟨_,rfl⟩ .nil))))))))⟩
theorem aad {K:PySem.W.Frag} {a:Addr} {od:Option Addr} {tk:Nat} {sl:Array (Option Value)} {t0 t1 t2:Tok} (l:K.lookup a=some ⟨.type "tuple",od,.seq ([.str "l" t0,.str "g" t1,.str "w" t2]:List Value).toArray tk,sl⟩) (H:Hp):bC K H a [.str "l",.str "g",.str "w"]:=.inr ⟨_,_,_,l,rfl,rfl,fits (by simp),(.cons ⟨_,rfl⟩ (.cons ⟨_,rfl⟩ (.cons ⟨_,rfl⟩ .nil)))⟩
theorem WC {K:PySem.W.Frag} {H:Hp} {a:Addr} {ns:List Int} {tabs:nF} (hO:mP tabs H) (hS:aC K H a (ns.map V.int)):zO K tabs [.ref a] H (fun v H'=>v=.bl true/\uY tabs H') fun _ _ _=>False:=⟨⟨ns,hS⟩,hO,fun H' t=>⟨rfl,t⟩⟩
theorem Va {P:Program} {w:World} {outer:List Env} {H:Hp} {s s':Shared} {e:Value} (z:bJ P w outer H s (fun _ _ _=>False) e s'):False:=by
 obtain ⟨_,_,_,_,_,_,z⟩:=z;exact z
theorem Vg {l:PySem.W.OpenLaw} {q:Program} {loose:List Str} {XP:(Str->Option Value)->Heap->Prop} {YP:World->Heap->Prop} {d:DefRec} {K:Params->PySem.W.Frag} {ce Pe cl Pl:Addr} (hn:l.most=some 63) (uv:d.params.defaults=[]) (kK:d.name = "law")
  (hY:∀ (w:World) (h:Heap),YP w h->(K w.params).In h) (om:∀ w:World,PySem.W.noTabs (K w.params)=true)
  (qw:∀ w:World,∃ e,(recsOf q).find? (fun e=>e.name == ("_law_built" : Str))=some e/\PySem.W.tabIn (K w.params) "_law_built" = some (ce,Pe))
  (gT:∀ w:World,∃ e,(recsOf q).find? (fun e=>e.name == ("_law_set" : Str))=some e/\PySem.W.tabIn (K w.params) "_law_set" = some (cl,Pl)) (qA:Pl≠Pe)
  (F:∀ (w:World) (mg:Str->Option Value) (h:Heap),(K w.params).In h->h.Ns mainGlobals mg->∃ T:Tx (K w.params) mg,T.qb=ce/\T.qr=cl) :
  PySem.W.WalkO q loose XP YP l.row.toRowW d [] (fun f vs=>PySem.call f vs) :=
 L2.UA (n:=63) (k:=20) (x := "_law_script") (CX:=fun w=>bJ l.prog w) (sp:=fun w=>zO (K w.params) [(ce,Pe),(cl,Pl)]) (tabs:=[(ce,Pe),(cl,Pl)]) hn (by decide) uv ⟨rfl,by decide,by decide⟩ hY om
  (fun w t ht=>by
   rcases List.mem_cons.mp ht with rfl | ht
   ·obtain ⟨e,h1,h2⟩:=qw w;exact ⟨_,e,h1,h2⟩
   ·rw [List.mem_singleton] at ht;subst ht;obtain ⟨e,h1,h2⟩:=gT w;exact ⟨_,e,h1,h2⟩)
  (fun w mg fa h KX G hfa=>by
   obtain ⟨T,rfl,rfl⟩:=F w mg h KX G;rw [kK] at hfa;have e:=hfa.symm.trans T.WZ;cases e;exact ⟨T.xN,fun s u=>by obtain ⟨oc,od,kV,doc,pm,an,ah,ct,cU,e,_⟩:=T.wD.ex; rw [e]; exact .of_eq rfl,fun base _ _ hb=>SO T (hb _ List.mem_cons_self).1 (hb _ List.mem_cons_self).2 (hb _ (List.mem_cons_of_mem _ List.mem_cons_self)).1 (hb _ (List.mem_cons_of_mem _ List.mem_cons_self)).2 qA⟩)
  (fun _ _ a ns _ hO hS=>WC hO hS) fun _ _ _ _ _ z=>Va z
end L2.bD

open PySem PySem.W PyProof.Rows
local macro_rules | `(tactic| walk_at "fa")=>`(tactic| (refine' L2.FA.mk ?n ?l ?c ?k; (case n=>k_is); (case l=>k_is); (case c=>k_is); (case k=>k_is)))
local macro_rules | `(tactic| walk_at "ma")=>`(tactic| (refine' L2.MA.mk ?n ?l ?c ?k ?t; (case n=>k_is); (case l=>k_is); (case c=>k_is); (case k=>k_is); (case t=>k_is)))
local macro_rules | `(tactic| walk_at "ar")=>`(tactic| (intro _ _ _ _ _ _; first | (refine L2.Fy ?_; exact fun _=>rfl) | (refine L2.JN ?_; exact fun _ _=>rfl) | (refine L2.tN ?_; exact fun _ _ _=>rfl) | (refine L2.pJ ?_; exact fun _ _ _ _=>rfl) | (refine L2.uW ?_; exact fun _ _ _ _ _=>rfl) | (refine L2.Bv ?_; exact fun _ _ _ _ _ _=>rfl) | (refine L2.W2 ?_; exact fun _ _ _ _ _ _ _=>rfl) | (refine L2.Ki ?_; exact rfl)))
local macro_rules | `(tactic| walk_at "mg")=>`(tactic| (refine' PySem.W.mg_of (by assumption) (by assumption) ?n; (case n=>k_is)))
local macro_rules | `(tactic| walk_at "mn")=>`(tactic| (refine' PySem.W.mg_none_of (by assumption) (by assumption) ?n; (case n=>k_is)))
local macro_rules | `(tactic| walk_at "ft")=>`(tactic| (refine' Classical.choice (L2.FA.gt (by assumption) (by assumption) ?b ?a); (case a=>walk_at "fa"); (case b=>walk_at "ar")))
local macro_rules | `(tactic| walk_at "mt")=>`(tactic| (refine' Classical.choice (L2.MA.gt ?b ?a); (case a=>walk_at "ma"); (case b=>walk_at "ar")))
local macro_rules | `(tactic| walk_at "mk")=>`(tactic| (refine' L2.To ?a ?b; (case a=>k_is); (case b=>k_is)))
local macro_rules | `(tactic| walk_at "xf")=>`(tactic| (refine' L2.NT ?a ?b ?c ?d ?e ?f ?g; (case a=>kernel_rfl); (case b=>k_is); (case c=>k_is); (case d=>k_is); (case e=>k_is); (case f=>k_is); (case g=>k_is)))
local macro_rules | `(tactic| walk_at "cl")=>`(tactic| (refine' L2.cK.mk ?a ?b ?c ?d; (case a=>k_is); (case b=>k_is); (case c=>k_is); (case d=>k_is)))
local macro_rules | `(tactic| walk_at "fu")=>`(tactic| (refine' L2.BX ?l ?c ?k; (case l=>k_is); (case c=>k_is); (case k=>k_is)))
local macro_rules | `(tactic| walk_at "fd")=>`(tactic| (refine' L2.O6 ?l ?c ?k ?d ?h; (case l=>k_is); (case c=>k_is); (case k=>k_is); (case d=>k_is); (case h=>exact rfl)))
set_option maxRecDepth 100000 in
set_option maxHeartbeats 0 in
theorem PySem.Challenge.cw_leadnames_k46_rights_set_holds : PySem.Challenge.rw_leadnames_k46_rights_set.Holds := by
 refine L2.bD.hd0 ?_;unfold L2.bD.eS
 k_fill
 refine L2.bD.Vg (l:=PySem.Challenge.rw_leadnames_k46_rights_set) (ce:=?ce) (Pe:=?Pe) (cl:=?cl) (Pl:=?Pl) rfl rfl rfl (fun w h Y=>PySem.W.km_in_of (e:=fun _=>by kernel_rfl) Y) ?om ?qw ?gT ?qA ?F
 case om=>intro w; first | kernel_rfl | exact rfl
 case qw =>
  intro w;refine' ⟨_,rfl,L2.Kj ?n0 ?l0 ?c0 ?lc0 ?v0⟩
  (case n0=>k_is)
  (case l0=>k_is)
  (case c0=>exact rfl)
  (case lc0=>k_is)
  (case v0=>exact rfl)
 case gT =>
  intro w;refine' ⟨_,rfl,L2.Kj ?n1 ?l1 ?c1 ?lc1 ?v1⟩
  (case n1=>k_is)
  (case l1=>k_is)
  (case c1=>exact rfl)
  (case lc1=>k_is)
  (case v1=>exact rfl)
 case qA=>exact fun e=>absurd (show (_:Nat)=_ from e) (by decide)
 case F =>
  intro w mg h KX G;refine' ⟨L2.bD.Tx.mk ?_ ?_ ?_ ?_ ?_ ?_ ?_ ?_ ?_ ?_ ?_ ?_ ?_ ?_ ?_ ?_ ?_ ?_ ?_ ?pC ?_ ?KL ?tO ?wR ?_ ?JK ?AY ?_ ?_ ?_ ?_ ?_ ?_ ?_ ?_ ?_ ?_ ?vb ?_ ?ze ?IK ?Ij ?uS ?_ ?Ca ?Gy ?IZ ?_ ?_ ?_ ?_ ?_ ?_ ?_ ?_ ?_ ?uI ?_ ?y9 ?_ ?_ ?uJ ?_ ?Am ?_ ?_ ?wD ?_ ?Ky ?_ ?Aq ?_ ?_ ?_ ?_ ?_ ?_ ?_ ?_ ?_ ?_ ?_ ?_ ?_ ?_ ?_ ?_ ?_ ?_ ?_ ?_ ?yV ?_ ?_ ?BC ?_ ?_ ?_ ?_ ?_ ?_ ?_ ?_ ?_ ?_ ?_ ?_ ?_ ?_ ?_ ?_ ?_ ?_ ?_ ?_ ?_ ?_ ?_ ?_ ?_ ?_ ?_ ?_ ?_ ?_ ?_ ?_ ?_ ?_ ?_ ?_ ?_ ?_ ?_ ?_ ?_ ?_ ?_ ?_ ?_ ?_ ?_ ?_ ?_ ?_ ?_ ?_ ?_ ?_ ?_ ?_ ?_ ?_ ?_ ?_ ?_ ?_ ?_ ?_ ?_ ?_ ?_ ?_ ?_ ?_ ?_ ?_ ?_ ?_ ?_ ?_ ?_ ?_ ?_ ?_ ?_ ?_ ?_ ?_ ?_ ?_ ?_ ?_ ?_ ?_ ?_ ?_ ?_ ?_ ?_ ?_ ?_ ?_ ?_ ?_ ?_ ?_ ?_ ?_ ?_ ?_ ?_ ?_ ?_ ?_ ?_ ?_ ?_ ?_ ?_ ?_ ?_ ?_ ?_ ?_ ?_ ?_ ?_ ?_ ?_ ?_ ?_ ?_ ?_ ?_ ?_ ?_ ?_ ?_ ?_ ?_ ?_ ?_ ?_ ?_ ?_ ?_ ?_ ?_ ?_ ?_ ?_ ?_ ?_ ?_ ?_ ?_ ?_ ?_ ?_ ?_ ?_ ?_ ?_ ?_ ?_ ?_ ?_ ?_ ?_ ?_ ?_ ?_ ?_ ?_,rfl,rfl⟩

  all_goals try (first | walk_at "mg" | walk_at "ft" | walk_at "mt" | k_is | (show PySem.W.findIn _ _ _=some none; k_is) | walk_at "mn" | kit_is | k_exc | walk_at "mk" | walk_at "cl" | walk_at "xf" | exact rfl | kernel_rfl)
  (case Aq=>(refine' L2.bD.RE ?l_DOTS; (case l_DOTS=>k_is)))
  (case yV=>(refine' L2.bD.XJ ?l_RIGHTS; (case l_RIGHTS=>k_is)))
  (case BC=>(refine' L2.bD.aad ?l_SINGLE_RIGHTS; (case l_SINGLE_RIGHTS=>k_is)))
  (case pC=>walk_at "fd")
  (case KL=>exact L2.jk (x := "walk") (y := "walk") (st:=L2.bD.tS) (ds:=[.bool true]) 1 (by k_is) (by exact rfl) (fun _ _ _ _ _ _ _ us hl=>by (have e:us.length=4:=(by have h:=hl; rw [List.length_append] at h; simp at h; omega)); clear hl; revert us; refine L2.pJ ?_; exact fun _ _ _ _=>⟨_,rfl,rfl⟩))
  (case tO=>exact L2.jk (x := "walk") (y := "walk") (st:=L2.bD.tS) (ds:=[.bool true]) 0 (by k_is) (by exact rfl) (fun _ _ _ _ _ _ _ us hl=>by (have e:us.length=3:=(by have h:=hl; rw [List.length_append] at h; simp at h; omega)); clear hl; revert us; refine L2.tN ?_; exact fun _ _ _=>⟨_,rfl,rfl⟩))
  (case wR=>walk_at "fd")
  (case JK=>exact L2.jk (x := "asked_of") (y := "asked_of") (st:=L2.bD.sU) (ds:=[.bool true]) 1 (by k_is) (by exact rfl) (fun _ _ _ _ _ _ _ us hl=>by (have e:us.length=4:=(by have h:=hl; rw [List.length_append] at h; simp at h; omega)); clear hl; revert us; refine L2.pJ ?_; exact fun _ _ _ _=>⟨_,rfl,rfl⟩))
  (case AY=>exact L2.jk (x := "asked_of") (y := "asked_of") (st:=L2.bD.sU) (ds:=[.bool true]) 0 (by k_is) (by exact rfl) (fun _ _ _ _ _ _ _ us hl=>by (have e:us.length=3:=(by have h:=hl; rw [List.length_append] at h; simp at h; omega)); clear hl; revert us; refine L2.tN ?_; exact fun _ _ _=>⟨_,rfl,rfl⟩))
  (case vb=>walk_at "fd")
  (case ze=>exact L2.jk (x := "make_folder") (y := "make_folder") (st:=L2.bD.pI) (ds:=[.str "lgw" _,.str "" _]) 2 (by k_is) (by exact rfl) (fun _ _ _ _ _ _ _ us hl=>by (have e:us.length=5:=(by have h:=hl; rw [List.length_append] at h; simp at h; omega)); clear hl; revert us; refine L2.uW ?_; exact fun _ _ _ _ _=>⟨_,rfl,rfl⟩))
  (case IK=>exact L2.jk (x := "make_folder") (y := "make_folder") (st:=L2.bD.pI) (ds:=[.str "lgw" _,.str "" _]) 1 (by k_is) (by exact rfl) (fun _ _ _ _ _ _ _ us hl=>by (have e:us.length=4:=(by have h:=hl; rw [List.length_append] at h; simp at h; omega)); clear hl; revert us; refine L2.pJ ?_; exact fun _ _ _ _=>⟨_,rfl,rfl⟩))
  (case Ij=>exact L2.jk (x := "make_folder") (y := "make_folder") (st:=L2.bD.pI) (ds:=[.str "lgw" _,.str "" _]) 0 (by k_is) (by exact rfl) (fun _ _ _ _ _ _ _ us hl=>by (have e:us.length=3:=(by have h:=hl; rw [List.length_append] at h; simp at h; omega)); clear hl; revert us; refine L2.tN ?_; exact fun _ _ _=>⟨_,rfl,rfl⟩))
  (case uS=>walk_at "fd")
  (case Ca=>exact L2.jk (x := "make_file") (y := "make_file") (st:=L2.bD.oS) (ds:=[.str "lgw" _,.str "" _]) 2 (by k_is) (by exact rfl) (fun _ _ _ _ _ _ _ us hl=>by (have e:us.length=6:=(by have h:=hl; rw [List.length_append] at h; simp at h; omega)); clear hl; revert us; refine L2.Bv ?_; exact fun _ _ _ _ _ _=>⟨_,rfl,rfl⟩))
  (case Gy=>exact L2.jk (x := "make_file") (y := "make_file") (st:=L2.bD.oS) (ds:=[.str "lgw" _,.str "" _]) 1 (by k_is) (by exact rfl) (fun _ _ _ _ _ _ _ us hl=>by (have e:us.length=5:=(by have h:=hl; rw [List.length_append] at h; simp at h; omega)); clear hl; revert us; refine L2.uW ?_; exact fun _ _ _ _ _=>⟨_,rfl,rfl⟩))
  (case IZ=>exact L2.jk (x := "make_file") (y := "make_file") (st:=L2.bD.oS) (ds:=[.str "lgw" _,.str "" _]) 0 (by k_is) (by exact rfl) (fun _ _ _ _ _ _ _ us hl=>by (have e:us.length=4:=(by have h:=hl; rw [List.length_append] at h; simp at h; omega)); clear hl; revert us; refine L2.pJ ?_; exact fun _ _ _ _=>⟨_,rfl,rfl⟩))
  (case uI=>walk_at "fu")
  (case y9=>exact L2.Binds.all (fun us hl=>match us,hl with | [_,_],_=>rfl))
  (case uJ=>walk_at "fu")
  (case Am=>exact L2.Binds.all (fun us hl=>match us,hl with | [_,_,_,_,_],_=>rfl))
  (case wD=>walk_at "fu")
  (case Ky=>exact L2.Binds.all (fun us hl=>match us,hl with | [_],_=>rfl))
  all_goals try (first | walk_at "mg" | walk_at "ft" | walk_at "mt" | k_is | (show PySem.W.findIn _ _ _=some none; k_is) | walk_at "mn" | kit_is | k_exc | walk_at "mk" | walk_at "cl" | walk_at "xf" | exact rfl | kernel_rfl)

